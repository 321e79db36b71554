/- SpillPiles. -/
import Derived.Test.YtcnpbdboeaaajaaAw
namespace Go.Proofs.Ytcnpbdboeaaajaa
open Go.RowKit
set_option linter.unusedVariables false
set_option linter.unusedSimpArgs false

set_option maxHeartbeats 1000000 in
theorem piles_far (A : Option Addr) (c : Nat) (l : Nat) (w : World) (hl : 60 < l) : Calls Try.prog 7 #[.slice A l c] w fun e w' => e = .returned (.bool true) ∧ Below w.heap.size w w' := by
  have d1 : decide ((60 : Int) < (l : Int)) = true := by simp; omega
  go_enter Try.func7, Try.ntmps7
  go_wp2_with fail
  refine (awake_any _).mono ?_
  rintro e w1 ⟨rfl, B1⟩
  go_wp2_with fail
  refine (awake_any _).mono ?_
  rintro e w2 ⟨rfl, B2⟩
  have HB := Lib.hid (on B1 B1.size B2)
  clear B1 B2
  go_wp2
  go_ret
  exact ⟨rfl, HB.out⟩

set_option maxHeartbeats 4000000 in
theorem piles_pos (A : Option Addr) (c : Nat) (xs : List Int) (w : World) (hl : xs.length ≤ 60) (h1 : 1 ≤ xs.length) (hr : Row .i64 w A xs) :
    Calls Try.prog 7 #[.slice A xs.length c] w fun e w' => e = .returned (.bool true) ∧ Below w.heap.size w w' := by
  have d1 : decide ((60 : Int) < (xs.length : Int)) = false := by simp; omega
  have m1 : max (xs.length : Int) 1 = (xs.length : Int) := by omega
  have n1 := nil28
  have n2 := nil24
  have HR := Lib.hid hr
  clear hr
  go_enter Try.func7, Try.ntmps7
  go_wp2_with fail
  refine (awake_any _).mono ?_
  rintro e w1 ⟨rfl, B1⟩
  have HB1 := Lib.hid B1
  clear B1
  go_wp2_with fail
  refine (conc_new _ (xs.length) rfl w w1 HB1.out (by omega) (by omega)).mono ?_
  rintro e w2 ⟨gd, g, gw, rfl, C2, _⟩
  have HC2 := Lib.hid C2
  clear C2 HB1
  go_wp2_with fail
  go_loopw [43] (fun v wr => ∃ j k : Nat, j ≤ xs.length ∧ v = .int .i64 j ∧ k ≤ 5 * j ∧ Conc w wr gd g gw (xs.length) (xs.take j) [] k) (fun v _ => xs.length - (intOf v).toNat)
  case atStart => exact ⟨0, 0, Nat.zero_le _, rfl, by omega, HC2.out⟩
  case round =>
    obtain ⟨j, k, hj, rfl, hk, C⟩ := hrel
    have HC := Lib.hid C
    clear C HC2
    by_cases hjl : j < xs.length
    · obtain ⟨ad, rfl, c0⟩ := (HR.out.kept HC.out.below).at_ hjl
      have htake : Hid (xs.take (j + 1) = xs.take j ++ [xs[j]]) := Lib.hid (by rw [List.take_succ_eq_append_getElem hjl])
      have htl : Hid ((xs.take j).length = j) := Lib.hid (by simp; omega)
      generalize xs[j] = a at *
      have j0 : (0 : Int) ≤ (j : Int) := by omega
      have j1 : (j : Int) < (xs.length : Int) := by omega
      go_wp2_with fail
      refine (seq_put HC.out (j : Int) a (by omega) (by omega)).mono ?_
      rintro e w3 ⟨gc, rfl, C3, _⟩
      have HC3 := Lib.hid C3
      clear C3 c0
      go_wp2_with fail
      refine (put_ok HC3.out (by rw [htl.out]; omega) (by omega)).mono ?_
      rintro e w4 ⟨rfl, k4, C4, hk4, _⟩
      rw [← htake.out] at C4
      have HC4 := Lib.hid C4
      clear C4
      go_wp2
      exact ⟨⟨j + 1, k4, by omega, by go_num, by omega, HC4.out⟩, by simp [intOf]; omega⟩
    · have hj' : j = xs.length := by omega
      subst hj'
      rw [List.take_length] at HC
      have HK := Lib.hid hk
      clear hk hj hjl
      have hs : IntKind.i64.wrap ((xs.length : Int) - 1) = (xs.length : Int) - 1 := IntWalk.i64_in _ (by omega)
      go_wp2_with fail
      go_loopw [11] (fun v wr => ∃ m k : Nat, m ≤ xs.length ∧ v = .int .i64 ((m : Int) - 1) ∧ k + 5 * m ≤ 600 ∧ Conc w wr gd g gw (xs.length) (xs.take m) [] k) (fun v _ => (intOf v + 1).toNat)
      case atStart => exact ⟨xs.length, k, Nat.le_refl _, rfl, by have := HK.out; omega, by rw [List.take_length]; exact HC.out⟩
      case round =>
        obtain ⟨m, k1, hm, rfl, hk1, C⟩ := hrel
        have HC5 := Lib.hid C
        clear C HC HK
        by_cases hm0 : 0 < m
        · obtain ⟨m', rfl⟩ : ∃ m', m = m' + 1 := ⟨m - 1, by omega⟩
          have hml : m' < xs.length := by omega
          have e1 : ((m' + 1 : Nat) : Int) - 1 = (m' : Int) := by omega
          rw [e1]
          have htake : Hid (xs.take (m' + 1) = xs.take m' ++ [xs[m']]) := Lib.hid (by rw [List.take_succ_eq_append_getElem hml])
          have HRm := Lib.hid (fun W (B : Below w.heap.size w W) => (HR.out.kept B).at_ hml)
          generalize xs[m'] = a at *
          have m0 : (0 : Int) ≤ (m' : Int) := by omega
          have m1 : (m' : Int) < (xs.length : Int) := by omega
          clear e1
          go_wp2_with fail
          refine (seq_take HC5.out (m' : Int) (by omega) (by omega)).mono ?_
          rintro e w3 ⟨gc, rfl, C3, _⟩
          rw [htake.out] at C3
          have HC6 := Lib.hid C3
          clear C3
          go_wp2_with fail
          refine (take_ok HC6.out (by omega)).mono ?_
          rintro e w4 ⟨rfl, k4, C4, hk4, _⟩
          have HC7 := Lib.hid C4
          obtain ⟨ad, rfl, c0⟩ := HRm.out w4 C4.below
          clear C4 HRm
          go_wp2
          exact ⟨⟨m', k4, by omega, rfl, by omega, HC7.out⟩, by simp [intOf]⟩
        · have hm' : m = 0 := by omega
          subst hm'
          have e1 : ((0 : Nat) : Int) - 1 = -1 := by omega
          rw [e1]
          rw [List.take_zero] at HC5
          go_wp2_with fail
          refine (seq_take HC5.out 0 (by omega) (by omega)).mono ?_
          rintro e w3 ⟨gc, rfl, C3, _⟩
          have HC6 := Lib.hid C3
          clear C3
          go_wp2_with fail
          refine (take_empty HC6.out (by omega)).mono ?_
          rintro e w4 ⟨rfl, k4, C4, hk4, _⟩
          have HC7 := Lib.hid C4
          clear C4
          go_wp2_with fail
          refine (conc_words HC7.out free_nil).mono ?_
          rintro e w5 ⟨a5, rfl, _, _, B5⟩
          have HC8 := Lib.hid (HC7.out.kept B5)
          clear B5
          go_wp2
          go_ret
          exact ⟨rfl, HC8.out.below⟩

set_option maxHeartbeats 1000000 in
theorem piles_none (A : Option Addr) (c : Nat) (w : World) :
    Calls Try.prog 7 #[.slice A 0 c] w fun e w' => e = .returned (.bool true) ∧ Below w.heap.size w w' := by
  have n1 := nil28
  have n2 := nil24
  go_enter Try.func7, Try.ntmps7
  go_wp2_with fail
  refine (awake_any _).mono ?_
  rintro e w1 ⟨rfl, B1⟩
  have HB1 := Lib.hid B1
  clear B1
  go_wp2_with fail
  refine (conc_new 1 1 rfl w w1 HB1.out (by omega) (by omega)).mono ?_
  rintro e w2 ⟨gd, g, gw, rfl, C2, _⟩
  have HC2 := Lib.hid C2
  clear C2 HB1
  go_wp2_with fail
  go_loopw [43] (fun v wr => v = .int .i64 0 ∧ Conc w wr gd g gw 1 [] [] 0) (fun v _ => 0)
  case atStart => exact ⟨rfl, HC2.out⟩
  case round =>
    obtain ⟨rfl, C⟩ := hrel
    have HC := Lib.hid C
    clear C HC2
    go_wp2_with fail
    go_loopw [11] (fun v wr => v = .int .i64 (-1) ∧ Conc w wr gd g gw 1 [] [] 0) (fun v _ => 0)
    case atStart => exact ⟨rfl, HC.out⟩
    case round =>
      obtain ⟨rfl, C⟩ := hrel
      have HC5 := Lib.hid C
      clear C HC
      go_wp2_with fail
      refine (seq_take HC5.out 0 (by omega) (by omega)).mono ?_
      rintro e w3 ⟨gc, rfl, C3, _⟩
      have HC6 := Lib.hid C3
      clear C3
      go_wp2_with fail
      refine (take_empty HC6.out (by omega)).mono ?_
      rintro e w4 ⟨rfl, k4, C4, hk4, _⟩
      have HC7 := Lib.hid C4
      clear C4
      go_wp2_with fail
      refine (conc_words HC7.out free_nil).mono ?_
      rintro e w5 ⟨a5, rfl, _, _, B5⟩
      have HC8 := Lib.hid (HC7.out.kept B5)
      clear B5
      go_wp2
      go_ret
      exact ⟨rfl, HC8.out.below⟩

theorem piles_walk (A : Option Addr) (len cap : Nat) (w : World) (h : ∃ xs, Came .i64 w A len xs) : Calls Try.prog 7 #[.slice A len cap] w fun e w' => e = .returned (.bool true) ∧ Below w.heap.size w w' := by
  obtain ⟨xs, rfl, hr, hz⟩ := h
  by_cases hl : 60 < xs.length
  · exact piles_far A cap _ w hl
  · by_cases h1 : 1 ≤ xs.length
    · exact piles_pos A cap xs w (by omega) h1 hr
    · have : xs.length = 0 := by omega
      rw [this]; exact piles_none A cap w
end Go.Proofs.Ytcnpbdboeaaajaa
