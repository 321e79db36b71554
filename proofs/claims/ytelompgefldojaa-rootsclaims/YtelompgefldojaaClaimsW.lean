/- RootsClaims. -/
import Derived.Test.YtelompgefldojaaTailW
import Derived.Deep.CutBlock
namespace Go.Proofs.Ytelompgefldojaa
open Go.RowKit
set_option linter.unusedVariables false
set_option linter.unusedSimpArgs false

set_option maxHeartbeats 1000000 in
theorem claims_far (n p : Int) (A : Option Addr) (c : Nat) (l : Nat) (w : World) (hl : 300 < l) : Calls Try.prog 4 #[.int .u8 n, .int .i64 p, .slice A l c] w fun e w' => e = .returned (.bool true) ∧ Below w.heap.size w w' := by
  have d1 : decide ((300 : Int) < (l : Int)) = true := by simp; omega
  go_enter Try.func4, Try.ntmps4
  go_wp2_with fail
  refine (awake_any _).mono ?_
  rintro e w1 ⟨rfl, B1⟩
  go_wp2_with fail
  refine (awake_any _).mono ?_
  rintro e w2 ⟨rfl, B2⟩
  have HB := Lib.hid (on B1 B1.size B2)
  clear B1 B2
  go_wp2
  go_ret
  exact ⟨rfl, HB.out⟩

section
variable {w w0 w1 : World} {r : Nat} {row row' : List Int} {part k k' : Int} {ts ts' : List Tc}
theorem who_at (ts : List Tc) (t : Tc) : (cellsT (ts ++ [t]))[ts.length * 5]? = some (.int .i64 t.who) := by
  rw [cellsT_add, List.getElem?_append_right (by rw [cellsT_len]; omega), cellsT_len]
  simp [Tc.cells]
theorem ro_log (h : Ro w w0 r row part k ts) (hts : ts.length ≤ 30000) (n : Nat) (hn : ts.length = n) :
    Calls Try.prog 17 #[.pointer (some ⟨r, 0, none⟩)] w0 fun e w' => ∃ ad, e = .returned (.slice (some ad) n n) ∧ Ro w w' r row part k ts ∧ ∀ j v, (cellsT ts)[j]? = some v → w'.cell? (ad.add j) = some v := by
  obtain ⟨⟨S, h1⟩, h2⟩ := h
  subst hn
  refine (log_any' h1 hts).mono ?_
  rintro e w' ⟨q, rfl, hq, hL, hB⟩
  exact ⟨⟨q, 0, none⟩, rfl, ⟨⟨S, h1.kept hB⟩, on h2 h2.size hB⟩, fun j v hv => by rw [add_at, hL.cell]; exact hv⟩
theorem ro_claim_yes (h : Ro w w0 r row part k ts) (who f t : Int) (h0 : 0 ≤ who) (h1 : who < 64) (hts : ts.length ≤ 30000) (hk0 : 0 ≤ k) (hk1 : k ≤ 1000000) (hp0 : 0 ≤ part) (hp1 : part ≤ 64) (hf : k * part = f) (hf0 : 0 ≤ f) (he : f < row.length) (hrow : row.length ≤ 2000) (ht : min (f + part) row.length = t) :
    Calls Try.prog 16 #[.pointer (some ⟨r, 0, none⟩), .int .i64 who] w0 fun e w' => e = .returned (.tuple #[.int .i64 f, .int .i64 t, .int .i64 0]) ∧ Ro w w' r row part (k + 1) (ts ++ [⟨who, 0, 4, k, k + 1⟩]) :=
  ro_step h fun S hq => claim_yes hq who f t h0 h1 hts hk0 hk1 hp0 hp1 hf hf0 he hrow ht
theorem ro_claim_empty (h : Ro w w0 r row part k ts) (who f : Int) (h0 : 0 ≤ who) (h1 : who < 64) (hts : ts.length ≤ 30000) (hk0 : 0 ≤ k) (hk1 : k ≤ 1000000) (hf : k * part = f) (hf0 : 0 ≤ f) (hf1 : f ≤ 100000000) (he : row.length ≤ f) :
    Calls Try.prog 16 #[.pointer (some ⟨r, 0, none⟩), .int .i64 who] w0 fun e w' => e = .returned (.tuple #[.int .i64 0, .int .i64 0, .int .i64 7]) ∧ Ro w w' r row part (k + 1) (ts ++ [⟨who, 0, 4, k, k + 1⟩]) :=
  ro_step h fun S hq => claim_empty hq who f h0 h1 hts hk0 hk1 hf hf0 hf1 he
theorem ro_claim_bad (h : Ro w w0 r row part k ts) (who : Int) (hw : ¬ (0 ≤ who ∧ who < 64)) :
    Calls Try.prog 16 #[.pointer (some ⟨r, 0, none⟩), .int .i64 who] w0 fun e w' => e = .returned (.tuple #[.int .i64 0, .int .i64 0, .int .i64 1]) ∧ Ro w w' r row part k ts :=
  ro_step h fun S hq => claim_bad hq who hw
end

/-- Where so many claims have come to. -/
def come (i : Nat) (p : Int) (N : Nat) : Int := if (i : Int) * p < N then (i : Int) * p else N
theorem prod_in (i : Nat) (p : Int) (hi : i ≤ 300) (h1 : 1 ≤ p) (h2 : p ≤ 64) : 0 ≤ (i : Int) * p ∧ (i : Int) * p ≤ 19200 := by
  refine ⟨Int.mul_nonneg (by omega) (by omega), ?_⟩
  have a : (i : Int) * p ≤ 300 * p := Int.mul_le_mul_of_nonneg_right (by omega) (by omega)
  omega
theorem come_zero (p : Int) (N : Nat) : come 0 p N = 0 := by unfold come; split <;> simp at * <;> omega
theorem come_lt {i : Nat} {p : Int} {N : Nat} (hi : (i : Int) * p < N) : come i p N = (i : Int) * p := by unfold come; rw [if_pos hi]
theorem come_ge {i : Nat} {p : Int} {N : Nat} (hi : ¬ (i : Int) * p < N) : come i p N = N := by unfold come; rw [if_neg hi]
theorem next_mul (i : Nat) (p : Int) : ((i + 1 : Nat) : Int) * p = (i : Int) * p + p := by push_cast; rw [Int.add_mul]; omega
theorem come_next {i : Nat} {p : Int} {N : Nat} (hi : (i : Int) * p < N) (hp : 1 ≤ p) : come (i + 1) p N = min ((i : Int) * p + p) N := by
  unfold come; rw [next_mul]; split <;> omega
theorem come_over {i : Nat} {p : Int} {N : Nat} (hi : ¬ (i : Int) * p < N) (hp : 1 ≤ p) : come (i + 1) p N = N := by
  unfold come; rw [next_mul, if_neg (by omega)]

set_option maxRecDepth 100000 in
set_option maxHeartbeats 8000000 in
theorem claims_near (n part : Int) (A : Option Addr) (c : Nat) (xs : List Int) (w : World) (hn0 : 0 ≤ n) (hn1 : n ≤ 255) (hl : xs.length ≤ 300) (hr : Row .u8 w A xs) (hz : ∀ z ∈ xs, 0 ≤ z ∧ z ≤ 255) :
    Calls Try.prog 4 #[.int .u8 n, .int .i64 part, .slice A xs.length c] w fun e w' => e = .returned (.bool true) ∧ Below w.heap.size w w' := by
  have d1 : decide ((300 : Int) < (xs.length : Int)) = false := by simp; omega
  obtain ⟨N, rfl⟩ : ∃ N : Nat, n = N := ⟨n.toNat, by omega⟩
  obtain ⟨p, hp⟩ : ∃ p, near part = p := ⟨_, rfl⟩
  have hp1 : 1 ≤ p := by rw [← hp]; exact near_lo part
  have hp2 : p ≤ 64 := by rw [← hp]; exact near_hi part
  have HP := Lib.hid hp
  have HR := Lib.hid hr
  have HZ := Lib.hid hz
  have hnil := nil24
  clear hr hz hp
  go_enter Try.func4, Try.ntmps4
  go_wp2_with fail
  refine (awake_any _).mono ?_
  rintro e w1 ⟨rfl, B1⟩
  have HB1 := Lib.hid B1
  clear B1
  go_wp2_with fail
  refine (ro_new part w w1 HB1.out).mono ?_
  rintro e w2 ⟨r, rfl, H2⟩
  rw [HP.out] at H2
  have HH2 := Lib.hid H2
  clear H2 HB1
  go_wp2_with fail
  go_loopw [34] (fun i wr => ∃ j : Nat, j ≤ N ∧ i = .int .u8 j ∧ Ro w wr r (List.replicate j 3) p 0 []) (fun i _ => N - (intOf i).toNat)
  case atStart => exact ⟨0, Nat.zero_le _, rfl, HH2.out⟩
  case round =>
    obtain ⟨j, hj, rfl, H⟩ := hrel
    have HH := Lib.hid H
    clear H HH2
    by_cases hjN : j < N
    · have j0 : (j : Int) < (N : Int) := by omega
      go_wp2_with fail
      refine (ro_push HH.out 3 (by omega) (by simp; omega)).mono ?_
      rintro e w3 ⟨rfl, H3⟩
      have HH3 : Hid (Ro w w3 r (List.replicate (j + 1) 3) p 0 []) := Lib.hid (by rw [List.replicate_succ']; exact H3)
      clear H3 HH
      go_wp2
      exact ⟨⟨j + 1, by omega, by go_num, HH3.out⟩, by simp [intOf]; omega⟩
    · have hj' : j = N := by omega
      subst hj'
      clear hjN hj
      go_upto_region 11 with fail
      go_cut [8] from 40 to 42 (fun v8 wx => v8 = .int .i64 p ∧ wx = wr)
      case first =>
        go_wp2
        all_goals go_meet
        all_goals refine ⟨?_, rfl⟩
        all_goals (congr 1; have e := HP.out; have e' := near_min part; omega)
      case rest =>
      obtain ⟨rfl, rfl⟩ := hcut
      go_wp2_with fail
      go_loopw [43] (fun i wr => ∃ (t : Nat) (k : Int) (ts : List Tc), t ≤ 2 ∧ i = .int .i64 t ∧ (0 < t → ts.length = xs.length) ∧ Ro w wr r (List.replicate j 3) p k ts) (fun i _ => 2 - (intOf i).toNat)
      case atStart => exact ⟨0, 0, [], by omega, rfl, fun h => absurd h (by omega), HH.out⟩
      case round =>
        obtain ⟨t, k, ts, ht, rfl, hts, H⟩ := hrel
        have HT := Lib.hid H
        have HTS := Lib.hid hts
        clear H HH hts
        by_cases ht2 : t < 2
        · have t0 : (t : Int) < 2 := by omega
          go_wp2_with fail
          refine (ro_open HT.out).mono ?_
          rintro e w3 ⟨rfl, H3⟩
          have HH3 := Lib.hid H3
          clear H3 HT HTS
          go_wp2_with fail
          go_loopw [49, 9] (fun i v9 wr => ∃ (i' : Nat) (us : List Tc), i' ≤ xs.length ∧ i = .int .i64 i' ∧ v9 = .int .i64 (come i' p j) ∧ us.length = i' ∧ Ro w wr r (List.replicate j 3) p i' us) (fun i _ _ => xs.length - (intOf i).toNat)
          case atStart => exact ⟨0, [], Nat.zero_le _, rfl, by rw [come_zero], rfl, HH3.out⟩
          case round =>
            obtain ⟨i, us, hi, rfl, rfl, hus, H⟩ := hrel
            have HH4 := Lib.hid H
            have HU := Lib.hid hus
            clear H HH3 hus
            by_cases hix : i < xs.length
            · obtain ⟨ad, rfl, c0⟩ := (HR.out.kept HH4.out.2).at_ hix
              have hb := HZ.out xs[i] (List.getElem_mem hix)
              generalize xs[i] = z at c0 hb
              obtain ⟨hb0, hb1⟩ := hb
              have i0 : (0 : Int) ≤ (i : Int) := by omega
              have i1 : (i : Int) < (xs.length : Int) := by omega
              have hpr := prod_in i p (by omega) hp1 hp2
              obtain ⟨f, hf⟩ : ∃ f, (i : Int) * p = f := ⟨_, rfl⟩
              have HF := Lib.hid hf
              rw [hf] at hpr
              obtain ⟨hf0, hf1⟩ := hpr
              clear hf
              by_cases hfj : f < (j : Int)
              · rw [come_lt (by rw [HF.out]; exact hfj), HF.out]
                have hc1 : (f == (j : Int)) = false := by simp; omega
                have hc2 : (f != (j : Int)) = true := by simp; omega
                by_cases hle : f + p ≤ (j : Int)
                · go_wp2_with fail
                  refine (ro_claim_yes HH4.out (z % 64) f (f + p) (by omega) (by omega) (by have := HU.out; omega) (by omega) (by omega) (by omega) (by omega) HF.out hf0 (by simp; omega) (by simp; omega) (by simp; omega)).mono ?_
                  rintro e w4 ⟨rfl, H4⟩
                  have HH5 := Lib.hid H4
                  clear H4 HH4 c0
                  go_wp2_with fail
                  refine (ro_log HH5.out (by have := HU.out; simp; omega) (i + 1) (by have := HU.out; simp; omega)).mono ?_
                  rintro e w5 ⟨ad5, rfl, H5, _⟩
                  have HH6 := Lib.hid H5
                  clear H5 HH5
                  go_wp2_with fail
                  refine (ro_log HH6.out (by have := HU.out; simp; omega) (i + 1) (by have := HU.out; simp; omega)).mono ?_
                  rintro e w6 ⟨ad6, rfl, H6, C6⟩
                  have HH7 := Lib.hid H6
                  have c6 := C6 _ _ (who_at us ⟨z % 64, 0, 4, i, i + 1⟩)
                  rw [HU.out] at c6
                  clear H6 C6 HH6
                  go_wp2
                  exact ⟨⟨i + 1, us ++ [⟨z % 64, 0, 4, i, i + 1⟩], by omega, by go_num, by rw [come_next (by rw [HF.out]; exact hfj) hp1, HF.out]; congr 1; omega, by have := HU.out; simp; omega, (by rw [Int.natCast_succ]; exact HH7.out)⟩, by simp [intOf]; omega⟩
                · go_wp2_with fail
                  refine (ro_claim_yes HH4.out (z % 64) f j (by omega) (by omega) (by have := HU.out; omega) (by omega) (by omega) (by omega) (by omega) HF.out hf0 (by simp; omega) (by simp; omega) (by simp; omega)).mono ?_
                  rintro e w4 ⟨rfl, H4⟩
                  have HH5 := Lib.hid H4
                  clear H4 HH4 c0
                  go_wp2_with fail
                  refine (ro_log HH5.out (by have := HU.out; simp; omega) (i + 1) (by have := HU.out; simp; omega)).mono ?_
                  rintro e w5 ⟨ad5, rfl, H5, _⟩
                  have HH6 := Lib.hid H5
                  clear H5 HH5
                  go_wp2_with fail
                  refine (ro_log HH6.out (by have := HU.out; simp; omega) (i + 1) (by have := HU.out; simp; omega)).mono ?_
                  rintro e w6 ⟨ad6, rfl, H6, C6⟩
                  have HH7 := Lib.hid H6
                  have c6 := C6 _ _ (who_at us ⟨z % 64, 0, 4, i, i + 1⟩)
                  rw [HU.out] at c6
                  clear H6 C6 HH6
                  go_wp2
                  exact ⟨⟨i + 1, us ++ [⟨z % 64, 0, 4, i, i + 1⟩], by omega, by go_num, by rw [come_next (by rw [HF.out]; exact hfj) hp1, HF.out]; congr 1; omega, by have := HU.out; simp; omega, (by rw [Int.natCast_succ]; exact HH7.out)⟩, by simp [intOf]; omega⟩
              · rw [come_ge (by rw [HF.out]; exact hfj)]
                go_wp2_with fail
                refine (ro_claim_empty HH4.out (z % 64) f (by omega) (by omega) (by have := HU.out; omega) (by omega) (by omega) HF.out hf0 (by omega) (by simp; omega)).mono ?_
                rintro e w4 ⟨rfl, H4⟩
                have HH5 := Lib.hid H4
                clear H4 HH4 c0
                go_wp2_with fail
                refine (ro_log HH5.out (by have := HU.out; simp; omega) (i + 1) (by have := HU.out; simp; omega)).mono ?_
                rintro e w5 ⟨ad5, rfl, H5, _⟩
                have HH6 := Lib.hid H5
                clear H5 HH5
                go_wp2_with fail
                refine (ro_log HH6.out (by have := HU.out; simp; omega) (i + 1) (by have := HU.out; simp; omega)).mono ?_
                rintro e w6 ⟨ad6, rfl, H6, C6⟩
                have HH7 := Lib.hid H6
                have c6 := C6 _ _ (who_at us ⟨z % 64, 0, 4, i, i + 1⟩)
                rw [HU.out] at c6
                clear H6 C6 HH6
                go_wp2
                exact ⟨⟨i + 1, us ++ [⟨z % 64, 0, 4, i, i + 1⟩], by omega, by go_num, by rw [come_over (by rw [HF.out]; omega) hp1], by have := HU.out; simp; omega, (by rw [Int.natCast_succ]; exact HH7.out)⟩, by simp [intOf]; omega⟩
            · have hi' : i = xs.length := by omega
              subst hi'
              go_wp2
              exact ⟨⟨t + 1, _, us, by omega, by go_num, fun _ => HU.out, HH4.out⟩, by simp [intOf]; omega⟩
        · have ht' : t = 2 := by omega
          subst ht'
          have hlen : Hid (ts.length = xs.length) := Lib.hid (HTS.out (by omega))
          clear HTS
          go_wp2_with fail
          refine (ro_claim_bad HT.out 64 (by omega)).mono ?_
          rintro e w3 ⟨rfl, H3⟩
          have HH3 := Lib.hid H3
          clear H3 HT
          go_wp2_with fail
          refine (ro_claim_bad HH3.out (-1) (by omega)).mono ?_
          rintro e w4 ⟨rfl, H4⟩
          have HH4 := Lib.hid H4
          clear H4 HH3
          go_wp2_with fail
          refine (ro_log HH4.out (by rw [hlen.out]; omega) xs.length hlen.out).mono ?_
          rintro e w5 ⟨ad5, rfl, H5, _⟩
          have HB := Lib.hid H5.2
          clear H5 HH4
          go_wp2
          go_ret
          exact ⟨rfl, HB.out⟩

theorem claims_walk (n part : Int) (hn : 0 ≤ n ∧ n ≤ 255) (A : Option Addr) (len cap : Nat) (w : World) (h : ∃ zs, Came .u8 w A len zs) : Calls Try.prog 4 #[.int .u8 n, .int .i64 part, .slice A len cap] w fun e w' => e = .returned (.bool true) ∧ Below w.heap.size w w' := by
  obtain ⟨xs, rfl, hr, hz⟩ := h
  by_cases hl : 300 < xs.length
  · exact claims_far n part A cap _ w hl
  · exact claims_near n part A cap xs w hn.1 hn.2 (by omega) hr hz
end Go.Proofs.Ytelompgefldojaa
