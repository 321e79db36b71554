/- RootsTail. -/
import Derived.Test.YtelompgefldojaaAw
import Derived.Test.YtelompgefldojaaReads
namespace Go.Proofs.Ytelompgefldojaa
open Go.RowKit
set_option linter.unusedVariables false
set_option linter.unusedSimpArgs false

set_option maxHeartbeats 1000000 in
theorem tail_far (A : Option Addr) (c : Nat) (l : Nat) (w : World) (hl : 200 < l) : Calls Try.prog 6 #[.slice A l c] w fun e w' => e = .returned (.bool true) ∧ Below w.heap.size w w' := by
  have d1 : decide ((200 : Int) < (l : Int)) = true := by simp; omega
  go_enter Try.func6, Try.ntmps6
  go_wp2_with fail
  refine (awake_any _).mono ?_
  rintro e w1 ⟨rfl, B1⟩
  go_wp2_with fail
  refine (awake_any _).mono ?_
  rintro e w2 ⟨rfl, B2⟩
  have HB := Lib.hid (on B1 B1.size B2)
  clear B1 B2
  go_wp2
  go_ret
  exact ⟨rfl, HB.out⟩

set_option maxHeartbeats 4000000 in
theorem tail_near (A : Option Addr) (c : Nat) (xs : List Int) (w : World) (hl : xs.length ≤ 200) (hr : Row .u16 w A xs) (hz : ∀ z ∈ xs, 0 ≤ z ∧ z ≤ 65535) :
    Calls Try.prog 6 #[.slice A xs.length c] w fun e w' => e = .returned (.bool true) ∧ Below w.heap.size w w' := by
  have d1 : decide ((200 : Int) < (xs.length : Int)) = false := by simp; omega
  have HR := Lib.hid hr
  have HZ := Lib.hid hz
  clear hr hz
  go_enter Try.func6, Try.ntmps6
  go_wp2_with fail
  refine (awake_any _).mono ?_
  rintro e w1 ⟨rfl, B1⟩
  have HB1 := Lib.hid B1
  clear B1
  go_wp2_with fail
  refine (ro_new 1 w w1 HB1.out).mono ?_
  rintro e w2 ⟨r, rfl, H2⟩
  have HH2 := Lib.hid H2
  clear H2 HB1
  go_wp2_with fail
  go_loopw [24] (fun i wr => ∃ j : Nat, j ≤ xs.length ∧ i = .int .i64 j ∧ Ro w wr r (xs.take j) (near 1) 0 []) (fun i _ => xs.length - (intOf i).toNat)
  case atStart => exact ⟨0, Nat.zero_le _, rfl, HH2.out⟩
  case round =>
    obtain ⟨j, hj, rfl, H⟩ := hrel
    have HH := Lib.hid H
    clear H HH2
    by_cases hjl : j < xs.length
    · obtain ⟨ad, rfl, c0⟩ := (HR.out.kept HH.out.2).at_ hjl
      have htake : Hid (xs.take (j + 1) = xs.take j ++ [xs[j]]) := Lib.hid (by rw [List.take_succ_eq_append_getElem hjl])
      have hb := HZ.out xs[j] (List.getElem_mem hjl)
      generalize xs[j] = a at *
      obtain ⟨hb0, hb1⟩ := hb
      have j0 : (0 : Int) ≤ (j : Int) := by omega
      have j1 : (j : Int) < (xs.length : Int) := by omega
      go_wp2_with fail
      refine (ro_push HH.out a hb0 (by simp; omega)).mono ?_
      rintro e w3 ⟨rfl, H3⟩
      rw [← htake.out] at H3
      have HH3 := Lib.hid H3
      clear H3 HH c0
      go_wp2
      exact ⟨⟨j + 1, by omega, by go_num, HH3.out⟩, by simp [intOf]; omega⟩
    · have hj' : j = xs.length := by omega
      subst hj'
      rw [List.take_length] at HH
      clear hj hjl
      have hs : IntKind.i64.wrap ((xs.length : Int) - 1) = (xs.length : Int) - 1 := IntWalk.i64_in _ (by omega)
      go_wp2_with fail
      go_loopw [6] (fun v wr => ∃ m : Nat, m ≤ xs.length ∧ v = .int .i64 ((m : Int) - 1) ∧ Ro w wr r (xs.take m) (near 1) 0 []) (fun v _ => (intOf v + 1).toNat)
      case atStart => exact ⟨xs.length, Nat.le_refl _, rfl, by rw [List.take_length]; exact HH.out⟩
      case round =>
        obtain ⟨m, hm, rfl, H⟩ := hrel
        have HH4 := Lib.hid H
        clear H HH
        by_cases hm0 : 0 < m
        · obtain ⟨m', rfl⟩ : ∃ m', m = m' + 1 := ⟨m - 1, by omega⟩
          have hml : m' < xs.length := by omega
          have e1 : ((m' + 1 : Nat) : Int) - 1 = (m' : Int) := by omega
          rw [e1]
          obtain ⟨ad, rfl, c0⟩ := (HR.out.kept HH4.out.2).at_ hml
          have htake : Hid (xs.take (m' + 1) = xs.take m' ++ [xs[m']]) := Lib.hid (by rw [List.take_succ_eq_append_getElem hml])
          have hb := HZ.out xs[m'] (List.getElem_mem hml)
          have hlen : Hid ((xs.take m').length = m') := Lib.hid (by simp; omega)
          have HRm := Lib.hid (fun W (B : Below w.heap.size w W) => (HR.out.kept B).at_ hml)
          generalize xs[m'] = a at *
          obtain ⟨hb0, hb1⟩ := hb
          have m0 : (0 : Int) ≤ (m' : Int) := by omega
          have m1 : (m' : Int) < (xs.length : Int) := by omega
          rw [htake.out] at HH4
          clear e1
          go_wp2_with fail
          refine (ro_get HH4.out m' (by simp [hlen.out]) a (by have := hlen.out; simp [List.getD, List.getElem?_append, this])).mono ?_
          rintro e w3 ⟨rfl, rfl⟩
          go_wp2_with fail
          refine (ro_pop HH4.out (by rw [hlen.out]; omega)).mono ?_
          rintro e w4 ⟨rfl, H5⟩
          have HH5 := Lib.hid H5
          obtain ⟨ad', e', c4⟩ := HRm.out w4 H5.2
          injection e' with e'
          subst e'
          clear H5 HH4 c0
          go_wp2_with fail
          refine (ro_len HH5.out).mono ?_
          rintro e w5 ⟨rfl, rfl⟩
          rw [hlen.out]
          go_wp2
          exact ⟨⟨m', by omega, rfl, HH5.out⟩, by simp [intOf]⟩
        · have hm' : m = 0 := by omega
          subst hm'
          have e1 : ((0 : Nat) : Int) - 1 = -1 := by omega
          rw [e1]
          rw [List.take_zero] at HH4
          go_wp2_with fail
          refine (ro_empty HH4.out).mono ?_
          rintro e w3 ⟨rfl, rfl⟩
          have HB := Lib.hid HH4.out.2
          clear HH4
          go_wp2
          go_ret
          exact ⟨rfl, HB.out⟩

theorem tail_walk (A : Option Addr) (len cap : Nat) (w : World) (h : ∃ zs, Came .u16 w A len zs) : Calls Try.prog 6 #[.slice A len cap] w fun e w' => e = .returned (.bool true) ∧ Below w.heap.size w w' := by
  obtain ⟨xs, rfl, hr, hz⟩ := h
  by_cases hl : 200 < xs.length
  · exact tail_far A cap _ w hl
  · exact tail_near A cap xs w (by omega) hr hz
end Go.Proofs.Ytelompgefldojaa
