/- OfferNews. -/
import Derived.Test.YtpifnhfdbcckjaaAw
namespace Go.Proofs.Ytpifnhfdbcckjaa
open Go.RowKit
set_option linter.unusedVariables false
set_option linter.unusedSimpArgs false

theorem news_far (a0 a1 : Int) (w : World) (h : 1000 < a0) : Calls Try.prog 4 #[.int .i64 a0, .int .u8 a1] w fun e w' => e = .returned (.bool true) ∧ Below w.heap.size w w' := by
  have d1 : decide (1000 < a0) = true := by simp; omega
  go_enter Try.func4, Try.ntmps4
  go_wp2_with fail
  refine (awake_any _).mono ?_
  rintro e w1 ⟨rfl, B1⟩
  go_wp2_with fail
  refine (awake_any _).mono ?_
  rintro e w2 ⟨rfl, B2⟩
  have HB := Lib.hid (on B1 B1.size B2)
  clear B1 B2
  go_wp2
  go_ret
  exact ⟨rfl, HB.out⟩
theorem news_no (a0 a1 : Int) (w : World) (h : a0 < 1 ∨ 64 < a0) (h1 : a0 ≤ 1000) : Calls Try.prog 4 #[.int .i64 a0, .int .u8 a1] w fun e w' => e = .returned (.bool true) ∧ Below w.heap.size w w' := by
  have d1 : decide (1000 < a0) = false := by simp; omega
  have T := Lib.hid (fun W => onew_no a0 W h)
  by_cases hl : a0 < 1
  · have d2 : decide (a0 < 1) = true := by simp; omega
    clear h h1
    go_enter Try.func4, Try.ntmps4
    go_wp2_with fail
    refine (awake_any _).mono ?_
    rintro e w1 ⟨rfl, B1⟩
    have HB := Lib.hid B1
    clear B1
    go_wp2_with fail
    refine (T.out _).mono ?_
    rintro e w2 ⟨rfl, rfl⟩
    go_wp2
    go_ret
    exact ⟨rfl, HB.out⟩
  · have d2 : decide (a0 < 1) = false := by simp; omega
    have d3 : decide (64 < a0) = true := by simp; omega
    clear h h1
    go_enter Try.func4, Try.ntmps4
    go_wp2_with fail
    refine (awake_any _).mono ?_
    rintro e w1 ⟨rfl, B1⟩
    have HB := Lib.hid B1
    clear B1
    go_wp2_with fail
    refine (T.out _).mono ?_
    rintro e w2 ⟨rfl, rfl⟩
    go_wp2
    go_ret
    exact ⟨rfl, HB.out⟩

theorem mod_apart {f i j n : Nat} (h1 : i < j) (h2 : j < n) : (f + i) % n ≠ (f + j) % n := fun e => by
  have := Nat.sub_mod_eq_zero_of_mod_eq e.symm
  rw [show f + j - (f + i) = j - i by omega, Nat.mod_eq_of_lt (by omega)] at this
  omega

set_option maxRecDepth 100000 in
set_option maxHeartbeats 2000000 in
theorem news_yes (n f : Nat) (w : World) (h1 : 1 ≤ n) (h2 : n ≤ 64) (hf : f ≤ 255) : Calls Try.prog 4 #[.int .i64 (n : Int), .int .u8 (f : Int)] w fun e w' => e = .returned (.bool true) ∧ Below w.heap.size w w' := by
  have d1 : decide (1000 < (n : Int)) = false := by simp; omega
  have d2 : decide ((n : Int) < 1) = false := by simp; omega
  have d3 : decide (64 < (n : Int)) = false := by simp; omega
  have hnil := nil24
  have hn0 : ¬ n = 0 := by omega
  have s1 : IntKind.i64.wrap ((n : Int) - 1) = (n : Int) - 1 := IntWalk.i64_in _ (by omega)
  go_enter Try.func4, Try.ntmps4
  go_wp2_with fail
  refine (awake_any _).mono ?_
  rintro e w1 ⟨rfl, B1⟩
  have HB1 := Lib.hid B1
  clear B1
  go_wp2_with fail
  refine (oo_new n w w1 HB1.out h1 h2).mono ?_
  rintro e w2 ⟨o, rfl, H2⟩
  have HH2 := Lib.hid H2
  clear H2 HB1
  go_wp2_with fail
  go_loopw [41] (fun v wr => ∃ (i : Nat) (ids : List Bool) (ts : List Tc), i ≤ n ∧ v = .int .i64 i ∧ ts.length = i ∧ (∀ j, i ≤ j → j < n → ids.getD ((f + j) % n) false = false) ∧ Oo w wr o ids i ts n) (fun v _ => n - (intOf v).toNat)
  case atStart => exact ⟨0, _, [], Nat.zero_le _, rfl, rfl, fun j _ _ => get_new _ _, HH2.out⟩
  case round =>
    obtain ⟨i, ids, ts, hi, rfl, hts, hid, H⟩ := hrel
    have HH := Lib.hid H
    have HT := Lib.hid hts
    have HI := Lib.hid hid
    clear H HH2 hts hid
    by_cases hin : i < n
    · have i0 : (i : Int) < (n : Int) := by omega
      obtain ⟨m, hm⟩ : ∃ m, (f + i) % n = m := ⟨_, rfl⟩
      have hml : m < n := by rw [← hm]; exact Nat.mod_lt _ (by omega)
      have HM := Lib.hid hm
      have hmi : Hid (((f : Int) + (i : Int)) % (n : Int) = (m : Int)) := Lib.hid (by rw [← hm]; simp)
      clear hm
      have s2 : IntKind.i64.wrap ((f : Int) + (i : Int)) = (f : Int) + (i : Int) := IntWalk.i64_in _ (by omega)
      have hfree : ids.getD m false = false := by rw [← HM.out]; exact HI.out i (Nat.le_refl _) hin
      have hnext : Hid (∀ j, i + 1 ≤ j → j < n → (ids.set m true).getD ((f + j) % n) false = false) := Lib.hid (fun j hj hjn => by
        rw [get_set_other _ _ _ _ (by rw [← HM.out]; exact mod_apart hj hjn)]
        exact HI.out j (by omega) hjn)
      have HF := Lib.hid hfree
      clear hfree
      by_cases hlast : i + 1 = n
      · have b1 : Hid (((i : Int) + 1 == (n : Int)) = true) := Lib.hid (by simp; omega)
        have b2 : ((i : Int) == (n : Int) - 1) = true := by simp; omega
        go_wp2_with fail
        rw [hmi.out]
        refine (oo_offer HH.out m hml h2 HF.out (by have := HT.out; omega) true b1.out).mono ?_
        rintro e w3 ⟨rfl, H3⟩
        have HH3 := Lib.hid H3
        clear H3 HH
        go_wp2_with fail
        refine (oo_over HH3.out true b1.out).mono ?_
        rintro e w4 ⟨rfl, H4⟩
        have HH4 := Lib.hid H4
        clear H4 HH3
        go_wp2
        exact ⟨⟨i + 1, ids.set m true, ts ++ [⟨m, 0, 4, i, (i : Int) + 1⟩], by omega, by go_num, by have := HT.out; simp; omega, hnext.out, by rw [Int.natCast_succ]; exact HH4.out⟩, by simp [intOf]; omega⟩
      · have b1 : Hid (((i : Int) + 1 == (n : Int)) = false) := Lib.hid (by simp; omega)
        have b2 : ((i : Int) == (n : Int) - 1) = false := by simp; omega
        go_wp2_with fail
        rw [hmi.out]
        refine (oo_offer HH.out m hml h2 HF.out (by have := HT.out; omega) false b1.out).mono ?_
        rintro e w3 ⟨rfl, H3⟩
        have HH3 := Lib.hid H3
        clear H3 HH
        go_wp2_with fail
        refine (oo_over HH3.out false b1.out).mono ?_
        rintro e w4 ⟨rfl, H4⟩
        have HH4 := Lib.hid H4
        clear H4 HH3
        go_wp2
        exact ⟨⟨i + 1, ids.set m true, ts ++ [⟨m, 0, 4, i, (i : Int) + 1⟩], by omega, by go_num, by have := HT.out; simp; omega, hnext.out, by rw [Int.natCast_succ]; exact HH4.out⟩, by simp [intOf]; omega⟩
    · have hi' : i = n := by omega
      subst hi'
      go_wp2_with fail
      refine (oo_back_end HH.out 0 (by omega) (HH.out.fit.full rfl (by omega)) (i : Int) rfl).mono ?_
      rintro e w3 ⟨rfl, rfl⟩
      go_wp2_with fail
      refine (oo_over HH.out true (by simp)).mono ?_
      rintro e w4 ⟨rfl, H4⟩
      have HH4 := Lib.hid H4
      clear H4 HH
      go_wp2_with fail
      refine (oo_idle_none HH4.out (-1) (by omega)).mono ?_
      rintro e w5 ⟨rfl, rfl⟩
      go_wp2_with fail
      refine (oo_idle_none HH4.out (i : Int) (by omega)).mono ?_
      rintro e w5 ⟨rfl, rfl⟩
      have HB := Lib.hid HH4.out.low
      clear HH4
      go_wp2
      go_ret
      exact ⟨rfl, HB.out⟩

theorem news_walk (a0 a1 : Int) (w : World) (h0 : 0 ≤ a1) (h1 : a1 ≤ 255) : Calls Try.prog 4 #[.int .i64 a0, .int .u8 a1] w fun e w' => e = .returned (.bool true) ∧ Below w.heap.size w w' := by
  by_cases hf : 1000 < a0
  · exact news_far a0 a1 w hf
  · by_cases hn : 1 ≤ a0 ∧ a0 ≤ 64
    · obtain ⟨n, rfl⟩ : ∃ n : Nat, a0 = n := ⟨a0.toNat, by omega⟩
      obtain ⟨f, rfl⟩ : ∃ f : Nat, a1 = f := ⟨a1.toNat, by omega⟩
      exact news_yes n f w (by omega) (by omega) (by omega)
    · exact news_no a0 a1 w (by omega) (by omega)
end Go.Proofs.Ytpifnhfdbcckjaa
