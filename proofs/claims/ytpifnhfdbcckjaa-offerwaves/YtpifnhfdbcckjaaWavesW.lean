/- OfferWaves. -/
import Derived.Test.YtpifnhfdbcckjaaAw
namespace Go.Proofs.Ytpifnhfdbcckjaa
open Go.RowKit
set_option linter.unusedVariables false
set_option linter.unusedSimpArgs false

/-- How many of the first so many are not the one that stays out. -/
def but (out j : Nat) : Int := if out < j then (j : Int) - 1 else j
theorem but_skip {out : Nat} : but out (out + 1) = but out out := by unfold but; rw [if_pos (by omega), if_neg (by omega)]; omega
theorem but_next {out j : Nat} (h : j ≠ out) : but out (j + 1) = but out j + 1 := by
  unfold but
  by_cases h1 : out < j
  · rw [if_pos (by omega), if_pos h1]; omega
  · rw [if_neg (by omega), if_neg h1]; omega
theorem but_zero (out : Nat) : but out 0 = 0 := by unfold but; rw [if_neg (by omega)]; rfl
theorem but_all {out n : Nat} (h : out < n) : but out n = (n : Int) - 1 := if_pos h

set_option maxRecDepth 100000 in
set_option maxHeartbeats 4000000 in
theorem waves_near (n N : Nat) (a0 a1 : Int) (w : World) (h0 : 0 ≤ a0) (h1 : a0 ≤ 255) (h2 : 0 ≤ a1) (h3 : a1 ≤ 255) (hn : Hid (2 + a0 % 60 = (n : Int))) (hN : Hid (1 + a1 % 5 = (N : Int))) (n2 : 2 ≤ n) (n61 : n ≤ 61) (N1 : 1 ≤ N) (N5 : N ≤ 5) :
    Calls Try.prog 5 #[.int .u8 a0, .int .u8 a1] w fun e w' => e = .returned (.bool true) ∧ Below w.heap.size w w' := by
  have hnil := nil24
  have hn0 : ¬ n = 0 := by omega
  have s1 : IntKind.i64.wrap ((n : Int) - 1) = (n : Int) - 1 := IntWalk.i64_in _ (by omega)
  go_enter Try.func5, Try.ntmps5
  go_wp2_with fail
  refine (awake_any _).mono ?_
  rintro e w1 ⟨rfl, B1⟩
  have HB1 := Lib.hid B1
  clear B1
  go_wp2_with fail
  rw [hn.out]
  refine (oo_new n w w1 HB1.out (by omega) (by omega)).mono ?_
  rintro e w2 ⟨o, rfl, H2⟩
  have HH2 := Lib.hid H2
  clear H2 HB1
  go_wp2_with fail
  rw [hN.out]
  clear h0 h1 h2 h3
  go_loopw [41] (fun v wr => ∃ (i : Nat) (ids : List Bool) (ts : List Tc), i ≤ N ∧ v = .int .i64 i ∧ ts.length ≤ i * 200 ∧ (∀ j, ids.getD j false = false) ∧ Oo w wr o ids 0 ts n) (fun v _ => N - (intOf v).toNat)
  case atStart => exact ⟨0, _, [], Nat.zero_le _, rfl, Nat.zero_le _, fun j => get_new _ _, HH2.out⟩
  case round =>
    obtain ⟨i, ids, ts, hi, rfl, hts, hid, H⟩ := hrel
    have HH := Lib.hid H
    have HT := Lib.hid hts
    have HI := Lib.hid hid
    clear H HH2 hts hid
    by_cases hin : i < N
    · have i0 : (i : Int) < (N : Int) := by omega
      obtain ⟨out, hout⟩ : ∃ out, i % n = out := ⟨_, rfl⟩
      have hol : out < n := by rw [← hout]; exact Nat.mod_lt _ (by omega)
      have hmi : Hid ((i : Int) % (n : Int) = (out : Int)) := Lib.hid (by rw [← hout]; simp)
      clear hout
      go_wp2_with fail
      rw [hmi.out]
      go_loopw [48] (fun v wr => ∃ (j : Nat) (is : List Bool) (us : List Tc), j ≤ n ∧ v = .int .i64 j ∧ us.length ≤ i * 200 + j ∧ (∀ x, is.getD x false = decide (x < j ∧ x ≠ out)) ∧ Oo w wr o is (but out j) us n) (fun v _ => n - (intOf v).toNat)
      case atStart => exact ⟨0, ids, ts, Nat.zero_le _, rfl, by have := HT.out; omega, fun x => by rw [HI.out]; simp, by rw [but_zero]; exact HH.out⟩
      case round =>
        obtain ⟨j, is, us, hj, rfl, hus, hx, H⟩ := hrel
        have HH3 := Lib.hid H
        have HU := Lib.hid hus
        have HX := Lib.hid hx
        clear H HH hus hx
        by_cases hjn : j < n
        · have j0 : (j : Int) < (n : Int) := by omega
          by_cases hjo : j = out
          · subst hjo
            have b1 : ((j : Int) == (j : Int)) = true := by simp
            go_wp2
            exact ⟨⟨j + 1, is, us, by omega, by go_num, by have := HU.out; omega, fun x => by rw [HX.out]; congr 1; apply propext; omega, by rw [but_skip]; exact HH3.out⟩, by simp [intOf]; omega⟩
          · have b1 : ((j : Int) == (out : Int)) = false := by simp; omega
            have hb : Hid (is.getD j false = false) := Lib.hid (by rw [HX.out]; simp)
            have ho : Hid (is.getD out false = false) := Lib.hid (by rw [HX.out]; simp)
            have he : Hid ((but out j + 1 == (n : Int)) = false) := Lib.hid (by
              have := (HH3.out.fit.on_ hjn hb.out).free hol (by rw [get_set_other _ _ _ _ hjo]; exact ho.out)
              simp; omega)
            go_wp2_with fail
            refine (oo_offer HH3.out j hjn (by omega) hb.out (by have := HU.out; omega) false he.out).mono ?_
            rintro e w3 ⟨rfl, H3⟩
            have HH4 := Lib.hid H3
            have hlen := Lib.hid HH3.out.fit.1
            clear H3 HH3
            go_wp2
            refine ⟨⟨j + 1, is.set j true, us ++ [⟨j, 0, 4, but out j, but out j + 1⟩], by omega, by go_num, by have := HU.out; simp; omega, fun x => ?_, by rw [but_next hjo]; exact HH4.out⟩, by simp [intOf]; omega⟩
            by_cases hxj : x = j
            · subst hxj; rw [get_set_same _ _ _ (by rw [hlen.out]; exact hjn)]; simp; exact hjo
            · rw [get_set_other _ _ _ _ (Ne.symm hxj), HX.out]; congr 1; apply propext; omega
        · have hj' : j = n := by omega
          subst hj'
          rw [but_all hol] at HH3
          have HU2 := Lib.hid HU.out
          go_wp2_with fail
          refine (oo_look HH3.out out hol (by omega) (by have := HU.out; omega)).mono ?_
          rintro e w3 ⟨rfl, H3⟩
          have HH4 := Lib.hid H3
          clear H3 HH3
          have b0 : ((j : Int) - 1 != (j : Int) - 1) = false := by simp
          go_wp2_with fail
          refine (oo_over HH4.out false (by simp; omega)).mono ?_
          rintro e w4 ⟨rfl, H4⟩
          have HH5 := Lib.hid H4
          clear H4 HH4 hjn
          go_wp2_with fail
          go_loopw [85] (fun v wr => ∃ (m : Nat) (is : List Bool) (vs : List Tc), m ≤ j ∧ v = .int .i64 m ∧ vs.length ≤ i * 200 + 62 + 2 * m ∧ (∀ x, is.getD x false = decide (m ≤ x ∧ x < j ∧ x ≠ out)) ∧ Oo w wr o is ((j : Int) - 1 - but out m) vs j) (fun v _ => j - (intOf v).toNat)
          case atStart => exact ⟨0, is, us ++ [⟨out, 0, 1, (j : Int) - 1, (j : Int) - 1⟩], Nat.zero_le _, rfl, by have := HU.out; simp; omega, fun x => by rw [HX.out]; congr 1; apply propext; omega, by rw [but_zero, Int.sub_zero]; exact HH5.out⟩
          case round =>
            obtain ⟨m, is', vs, hm, rfl, hvs, hx', H⟩ := hrel
            have HH6 := Lib.hid H
            have HV := Lib.hid hvs
            have HX' := Lib.hid hx'
            clear H HH5 hvs hx'
            by_cases hmj : m < j
            · have m0 : (m : Int) < (j : Int) := by omega
              by_cases hmo : m = out
              · subst hmo
                have b1 : ((m : Int) == (m : Int)) = true := by simp
                go_wp2
                exact ⟨⟨m + 1, is', vs, by omega, by go_num, by have := HV.out; omega, fun x => by rw [HX'.out]; congr 1; apply propext; omega, by rw [but_skip]; exact HH6.out⟩, by simp [intOf]; omega⟩
              · have b1 : ((m : Int) == (out : Int)) = false := by simp; omega
                have hb : Hid (is'.getD m false = true) := Lib.hid (by rw [HX'.out]; simp; omega)
                have ho : Hid (is'.getD out false = false) := Lib.hid (by rw [HX'.out]; simp)
                generalize hk : (j : Int) - 1 - but out m = kk at *
                have hk0 : Hid (kk ≠ (j : Int)) := Lib.hid (by have := HH6.out.fit.free hol ho.out; omega)
                have HK := Lib.hid hk
                clear hk
                go_wp2_with fail
                refine (oo_look HH6.out m hmj (by omega) (by have := HV.out; omega)).mono ?_
                rintro e w5 ⟨rfl, H5⟩
                have HH7 := Lib.hid H5
                clear H5 HH6
                go_wp2_with fail
                refine (oo_back HH7.out m hmj (by omega) hb.out (by have := HV.out; simp; omega) kk hk0.out rfl).mono ?_
                rintro e w6 ⟨rfl, H6⟩
                have HH8 := Lib.hid H6
                have hlen := Lib.hid HH7.out.fit.1
                clear H6 HH7
                go_wp2
                refine ⟨⟨m + 1, is'.set m false, (vs ++ [⟨m, 0, 1, kk, kk⟩]) ++ [⟨m, 0, 3, kk, kk - 1⟩], by omega, by go_num, by have := HV.out; simp; omega, fun x => ?_, by rw [but_next hmo, show (j : Int) - 1 - (but out m + 1) = kk - 1 by have := HK.out; omega]; exact HH8.out⟩, by simp [intOf]; omega⟩
                by_cases hxm : x = m
                · subst hxm; rw [get_set_same _ _ _ (by rw [hlen.out]; exact hmj)]; simp; omega
                · rw [get_set_other _ _ _ _ (Ne.symm hxm), HX'.out]; congr 1; apply propext; omega
            · have hm' : m = j := by omega
              subst hm'
              rw [but_all hol, Int.sub_self] at HH6
              go_wp2
              exact ⟨⟨i + 1, is', vs, by omega, by go_num, by have := HV.out; omega, fun x => by rw [HX'.out]; simp; omega, HH6.out⟩, by simp [intOf]; omega⟩
    · have hi' : i = N := by omega
      subst hi'
      go_wp2_with fail
      go_loopw [105, 18] (fun v v18 wr => ∃ (j : Nat) (is : List Bool) (us : List Tc), j ≤ n ∧ v = .int .i64 j ∧ v18 = .bool ((j : Int) == (n : Int)) ∧ us.length ≤ i * 200 + j ∧ (∀ x, j ≤ x → is.getD x false = false) ∧ Oo w wr o is j us n) (fun v _ _ => n - (intOf v).toNat)
      case atStart => exact ⟨0, ids, ts, Nat.zero_le _, rfl, by congr 1; symm; simp; omega, HT.out, fun x _ => HI.out x, HH.out⟩
      case round =>
        obtain ⟨j, is, us, hj, rfl, rfl, hus, hx, H⟩ := hrel
        have HH3 := Lib.hid H
        have HU := Lib.hid hus
        have HX := Lib.hid hx
        clear H HH hus hx
        by_cases hjn : j < n
        · have j0 : (j : Int) < (n : Int) := by omega
          have hb : Hid (is.getD j false = false) := Lib.hid (HX.out j (Nat.le_refl _))
          obtain ⟨b, hb2⟩ : ∃ b, ((j : Int) + 1 == (n : Int)) = b := ⟨_, rfl⟩
          have HB2 := Lib.hid hb2
          clear hb2
          go_wp2_with fail
          refine (oo_offer HH3.out j hjn (by omega) hb.out (by have := HU.out; omega) b HB2.out).mono ?_
          rintro e w3 ⟨rfl, H3⟩
          have HH4 := Lib.hid H3
          clear H3 HH3
          go_wp2
          exact ⟨⟨j + 1, is.set j true, us ++ [⟨j, 0, 4, j, (j : Int) + 1⟩], by omega, by go_num, by rw [Int.natCast_succ, HB2.out], by have := HU.out; simp; omega, fun x hxj => by rw [get_set_other _ _ _ _ (by omega)]; exact HX.out x (by omega), by rw [Int.natCast_succ]; exact HH4.out⟩, by simp [intOf]; omega⟩
        · have hj' : j = n := by omega
          subst hj'
          have b1 : ((j : Int) == (j : Int)) = true := by simp
          rw [b1]
          go_wp2_with fail
          refine (oo_over HH3.out true (by simp)).mono ?_
          rintro e w4 ⟨rfl, H4⟩
          have HB := Lib.hid H4.low
          clear H4 HH3
          go_wp2
          go_ret
          exact ⟨rfl, HB.out⟩

theorem waves_walk (a0 a1 : Int) (w : World) (h0 : 0 ≤ a0) (h1 : a0 ≤ 255) (h2 : 0 ≤ a1) (h3 : a1 ≤ 255) : Calls Try.prog 5 #[.int .u8 a0, .int .u8 a1] w fun e w' => e = .returned (.bool true) ∧ Below w.heap.size w w' := by
  obtain ⟨n, hn⟩ : ∃ n : Nat, 2 + a0 % 60 = (n : Int) := ⟨(2 + a0 % 60).toNat, by omega⟩
  obtain ⟨N, hN⟩ : ∃ N : Nat, 1 + a1 % 5 = (N : Int) := ⟨(1 + a1 % 5).toNat, by omega⟩
  exact waves_near n N a0 a1 w h0 h1 h2 h3 (Lib.hid hn) (Lib.hid hN) (by omega) (by omega) (by omega) (by omega)
end Go.Proofs.Ytpifnhfdbcckjaa
