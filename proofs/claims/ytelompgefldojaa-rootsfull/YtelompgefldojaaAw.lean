/- The fixed fact that each statement begins with; RootsFull and RootsTail. -/
import Derived.Test.YtelompgefldojaaCl
namespace Go.Proofs.Ytelompgefldojaa
open Go.RowKit
set_option linter.unusedVariables false
set_option linter.unusedSimpArgs false

/-- Roots behind a law's beginning: whose they are isn't told. -/
def Ro (w wr : World) (r : Nat) (row : List Int) (part k : Int) (ts : List Tc) : Prop :=
  (∃ S, Rq wr w.heap.size r row part k ts S) ∧ Below w.heap.size w wr
section
variable {w w0 w1 : World} {r : Nat} {row row' : List Int} {part k k' : Int} {ts ts' : List Tc}
theorem Ro.kept (h : Ro w w0 r row part k ts) (hb : Below w0.heap.size w0 w1) : Ro w w1 r row part k ts := by
  obtain ⟨⟨S, h1⟩, h2⟩ := h
  exact ⟨⟨S, h1.kept hb⟩, on h2 h2.size hb⟩
theorem ro_step {P : Ending → Prop} {f : Nat} {args : Array Value} (h : Ro w w0 r row part k ts)
    (hc : ∀ S, Rq w0 w.heap.size r row part k ts S → Calls Try.prog f args w0 fun e w' => P e ∧ Step w0 w' w.heap.size r S row' part k' ts') :
    Calls Try.prog f args w0 fun e w' => P e ∧ Ro w w' r row' part k' ts' := by
  obtain ⟨⟨S, h1⟩, h2⟩ := h
  refine (hc S h1).mono ?_
  rintro e w' ⟨he, s⟩
  have hb := s.below h1
  obtain ⟨S', s1, _⟩ := s
  exact ⟨he, ⟨S', s1⟩, h2.trans hb⟩
theorem ro_same {P : Ending → Prop} {f : Nat} {args : Array Value} (h : Ro w w0 r row part k ts)
    (hc : ∀ S, Rq w0 w.heap.size r row part k ts S → Calls Try.prog f args w0 fun e w' => P e ∧ w0 = w') :
    Calls Try.prog f args w0 fun e w' => P e ∧ w0 = w' := by
  obtain ⟨⟨S, h1⟩, h2⟩ := h
  exact hc S h1
theorem ro_new (n : Int) (w w0 : World) (h : Below w.heap.size w w0) : Calls Try.prog 8 #[.int .i64 n] w0 fun e w' => ∃ r, e = .returned (.pointer (some ⟨r, 0, none⟩)) ∧ Ro w w' r [] (near n) 0 [] := by
  refine (new_any n w0 w.heap.size h.size).mono ?_
  rintro e w' ⟨r, S, he, hb, hq, _⟩
  exact ⟨r, he, ⟨S, hq⟩, on h h.size hb⟩
theorem ro_push (h : Ro w w0 r row part k ts) (y : Int) (hy : 0 ≤ y) (hl : row.length < 1024) : Calls Try.prog 9 #[.pointer (some ⟨r, 0, none⟩), .int .i64 y] w0 fun e w' => e = .returned (.int .i64 0) ∧ Ro w w' r (row ++ [y]) part k ts :=
  ro_step h fun S hq => push_yes hq y hy hl
theorem ro_full (h : Ro w w0 r row part k ts) (y : Int) (hy : 0 ≤ y) (hl : 1024 ≤ row.length) : Calls Try.prog 9 #[.pointer (some ⟨r, 0, none⟩), .int .i64 y] w0 fun e w' => e = .returned (.int .i64 6) ∧ w0 = w' :=
  ro_same h fun S hq => push_full hq y hy hl
theorem ro_pop {y : Int} (h : Ro w w0 r (row ++ [y]) part k ts) (hl : row.length < 2000) : Calls Try.prog 10 #[.pointer (some ⟨r, 0, none⟩)] w0 fun e w' => e = .returned (.tuple #[.int .i64 y, .int .i64 0]) ∧ Ro w w' r row part k ts :=
  ro_step h fun S hq => pop_yes hq hl
theorem ro_empty (h : Ro w w0 r [] part k ts) : Calls Try.prog 10 #[.pointer (some ⟨r, 0, none⟩)] w0 fun e w' => e = .returned (.tuple #[.int .i64 0, .int .i64 7]) ∧ w0 = w' :=
  ro_same h fun S hq => pop_empty hq
theorem ro_open (h : Ro w w0 r row part k ts) : Calls Try.prog 15 #[.pointer (some ⟨r, 0, none⟩)] w0 fun e w' => e = .returned (.tuple #[]) ∧ Ro w w' r row part 0 [] :=
  ro_step h fun S hq => open_any hq
theorem ro_len (h : Ro w w0 r row part k ts) : Calls Try.prog 14 #[.pointer (some ⟨r, 0, none⟩)] w0 fun e w' => e = .returned (.int .i64 row.length) ∧ w0 = w' :=
  ro_same h fun S hq => len_any hq
theorem ro_get (h : Ro w w0 r row part k ts) (i : Nat) (hi : i < row.length) (y : Int) (hy : row.getD i 0 = y) : Calls Try.prog 12 #[.pointer (some ⟨r, 0, none⟩), .int .i64 i] w0 fun e w' => e = .returned (.tuple #[.int .i64 y, .int .i64 0]) ∧ w0 = w' :=
  ro_same h fun S hq => get_yes hq i hi y hy
end

set_option maxHeartbeats 4000000 in
theorem awake_any (w : World) : Calls Try.prog 7 #[] w fun e w' => e = .returned (.bool true) ∧ Below w.heap.size w w' := by
  have hnil := nil24
  go_enter Try.func7, Try.ntmps7
  go_wp2_with fail
  refine (ro_new 2 w w (Below.refl _ _)).mono ?_
  rintro e w1 ⟨r, rfl, H1⟩
  have HH1 := Lib.hid H1
  clear H1
  go_wp2_with fail
  refine (ro_push HH1.out 1 (by omega) (by simp)).mono ?_
  rintro e w2 ⟨rfl, H2⟩
  have HH2 := Lib.hid H2
  clear H2 HH1
  go_wp2_with fail
  refine (ro_push HH2.out 2 (by omega) (by simp)).mono ?_
  rintro e w3 ⟨rfl, H3⟩
  have HH3 := Lib.hid H3
  clear H3 HH2
  go_wp2_with fail
  refine (ro_push HH3.out 0 (by omega) (by simp)).mono ?_
  rintro e w4 ⟨rfl, H4⟩
  have HH4 := Lib.hid H4
  clear H4 HH3
  go_wp2_with fail
  refine (ro_open HH4.out).mono ?_
  rintro e w5 ⟨rfl, H5⟩
  have HH5 := Lib.hid H5
  clear H5 HH4
  go_wp2_with fail
  refine (ro_step HH5.out fun S hq => claim_yes hq 0 0 2 (by omega) (by omega) (by simp) (by omega) (by omega) (by decide) (by decide) (by decide) (by omega) (by simp) (by simp) (by decide)).mono ?_
  rintro e w6 ⟨rfl, H6⟩
  have HH6 := Lib.hid H6
  clear H6 HH5
  go_wp2_with fail
  refine (ro_step HH6.out fun S hq => claim_yes hq 5 2 3 (by omega) (by omega) (by simp) (by omega) (by omega) (by decide) (by decide) (by decide) (by omega) (by simp) (by simp) (by decide)).mono ?_
  rintro e w7 ⟨rfl, H7⟩
  have HB := Lib.hid H7.2
  clear H7 HH6
  go_wp2
  go_ret
  exact ⟨rfl, HB.out⟩

set_option maxHeartbeats 4000000 in
theorem full_walk (n : Int) (hn0 : 0 ≤ n) (hn1 : n ≤ 255) (w : World) : Calls Try.prog 5 #[.int .u8 n] w fun e w' => e = .returned (.bool true) ∧ Below w.heap.size w w' := by
  obtain ⟨K, hK⟩ : ∃ K : Nat, 1000 + n % 50 = K := ⟨(1000 + n % 50).toNat, by omega⟩
  have hK1 : K ≤ 1049 := by omega
  have hK0 : 1000 ≤ K := by omega
  have HK := Lib.hid hK
  clear hK
  go_enter Try.func5, Try.ntmps5
  go_wp2_with fail
  refine (awake_any _).mono ?_
  rintro e w1 ⟨rfl, B1⟩
  have HB1 := Lib.hid B1
  clear B1
  go_wp2_with fail
  refine (ro_new 1 w w1 HB1.out).mono ?_
  rintro e w2 ⟨r, rfl, H2⟩
  have HH2 := Lib.hid H2
  clear H2 HB1
  go_wp2_with fail
  rw [HK.out]
  clear hn0 hn1 HK
  go_loopw [15] (fun i wr => ∃ (j : Nat) (row : List Int), j ≤ K ∧ i = .int .i64 j ∧ row.length = min j 1024 ∧ Ro w wr r row (near 1) 0 []) (fun i _ => K - (intOf i).toNat)
  case atStart => exact ⟨0, [], Nat.zero_le _, rfl, rfl, HH2.out⟩
  case round =>
    obtain ⟨j, row, hj, rfl, hrow, H⟩ := hrel
    have HH := Lib.hid H
    have HL := Lib.hid hrow
    clear H HH2 hrow
    by_cases hjK : j < K
    · have j0 : (j : Int) < (K : Int) := by omega
      by_cases h4 : j < 1024
      · have d1 : decide ((j : Int) < 1024) = true := by simp; omega
        have d2 : decide ((1024 : Int) ≤ (j : Int)) = false := by simp; omega
        go_wp2_with fail
        refine (ro_push HH.out (j : Int) (by omega) (by have := HL.out; omega)).mono ?_
        rintro e w3 ⟨rfl, H3⟩
        have HH3 := Lib.hid H3
        clear H3 HH
        go_wp2
        exact ⟨⟨j + 1, row ++ [(j : Int)], by omega, by go_num, by have := HL.out; simp; omega, HH3.out⟩, by simp [intOf]; omega⟩
      · have d1 : decide ((j : Int) < 1024) = false := by simp; omega
        have d2 : decide ((1024 : Int) ≤ (j : Int)) = true := by simp; omega
        go_wp2_with fail
        refine (ro_full HH.out (j : Int) (by omega) (by have := HL.out; omega)).mono ?_
        rintro e w3 ⟨rfl, rfl⟩
        go_wp2
        exact ⟨⟨j + 1, row, by omega, by go_num, by have := HL.out; omega, HH.out⟩, by simp [intOf]; omega⟩
    · have hj' : j = K := by omega
      subst hj'
      by_cases h5 : (j : Int) ≤ 1024
      · have el : Hid ((row.length : Int) = (j : Int)) := Lib.hid (by rw [HL.out]; omega)
        go_wp2_with fail
        refine (ro_len HH.out).mono ?_
        rintro e w3 ⟨rfl, rfl⟩
        rw [el.out]
        have HB := Lib.hid HH.out.2
        clear HH HL el
        go_wp2
        go_ret
        exact ⟨rfl, HB.out⟩
      · have el : Hid ((row.length : Int) = 1024) := Lib.hid (by rw [HL.out]; omega)
        go_wp2_with fail
        refine (ro_len HH.out).mono ?_
        rintro e w3 ⟨rfl, rfl⟩
        rw [el.out]
        have HB := Lib.hid HH.out.2
        clear HH HL el
        go_wp2
        go_ret
        exact ⟨rfl, HB.out⟩
end Go.Proofs.Ytelompgefldojaa
