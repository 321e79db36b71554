/- CellSums. -/
import Derived.Test.YtcabgnfeeimeiaaRoundW
namespace Go.Proofs.Ytcabgnfeeimeiaa
open Go.RowKit
set_option linter.unusedVariables false
set_option linter.unusedSimpArgs false

set_option maxHeartbeats 1000000 in
theorem sums_far (A : Option Addr) (c : Nat) (l : Nat) (w : World) (hl : 60 < l) : Calls Try.prog 5 #[.slice A l c] w fun e w' => e = .returned (.bool true) ∧ Below w.heap.size w w' := by
  have d1 : decide ((60 : Int) < (l : Int)) = true := by simp; omega
  go_enter Try.func5, Try.ntmps5
  go_wp2_with fail
  refine (awake_any _).mono ?_
  rintro e w1 ⟨rfl, B1⟩
  go_wp2_with fail
  refine (awake_any _).mono ?_
  rintro e w2 ⟨rfl, B2⟩
  have HB := Lib.hid (on B1 B1.size B2)
  clear B1 B2
  go_wp2
  go_ret
  exact ⟨rfl, HB.out⟩

set_option maxHeartbeats 1000000 in
theorem sums_near (A : Option Addr) (c : Nat) (zs : List Int) (w : World) (hl : zs.length ≤ 60) (hr : Row .i32 w A zs) (hz : ∀ z ∈ zs, -2147483648 ≤ z ∧ z ≤ 2147483647) :
    Calls Try.prog 5 #[.slice A zs.length c] w fun e w' => e = .returned (.bool true) ∧ Below w.heap.size w w' := by
  have d1 : decide ((60 : Int) < (zs.length : Int)) = false := by simp; omega
  have hnil := fun W g => nil_ne W g
  have HR := Lib.hid hr
  have HZ := Lib.hid hz
  clear hr hz
  go_enter Try.func5, Try.ntmps5
  go_wp2_with fail
  refine (awake_any _).mono ?_
  rintro e w1 ⟨rfl, B1⟩
  have HB1 := Lib.hid B1
  clear B1
  go_wp2_with fail
  refine (new_int 1 1 rfl w1 w.heap.size HB1.out.size (by omega) (by omega)).mono ?_
  rintro e w2 ⟨g, gw, rfl, B2, q1, q2, H2⟩
  have B3 := Lib.hid (on HB1.out HB1.out.size B2)
  have HH3 : Hid (At w2 w.heap.size g gw [0] none 0 []) := Lib.hid H2
  clear B2 H2 HB1
  go_wp2
  go_loopw [5, 32] (fun sm i wr => ∃ (j : Nat) (s : Int) (A' : Option Addr) (c' : Nat) (ts : List Tc), j ≤ zs.length ∧ i = .int .i64 j ∧ sm = .int .i64 s ∧ ts.length = j ∧ At wr w.heap.size g gw [s] A' c' ts ∧ Below w.heap.size w wr) (fun _ i _ => zs.length - (intOf i).toNat)
  case atStart => exact ⟨0, 0, _, _, _, Nat.zero_le _, rfl, rfl, rfl, HH3.out, B3.out⟩
  case round =>
    obtain ⟨j, s, A', c', ts, hj, rfl, rfl, hts, H, B⟩ := hrel
    have HT := Lib.hid hts
    have HH := Lib.hid H
    have HB := Lib.hid B
    clear hts H B HH3 B3
    by_cases hjl : j < zs.length
    · obtain ⟨ad, rfl, c0⟩ := (HR.out.kept HB.out).at_ hjl
      have hb := HZ.out zs[j] (List.getElem_mem hjl)
      generalize zs[j] = n at c0 hb
      obtain ⟨hb0, hb1⟩ := hb
      have j0 : (0 : Int) ≤ (j : Int) := by omega
      have j1 : (j : Int) < (zs.length : Int) := by omega
      go_wp2_with fail
      refine (add_int HH.out (by have := HT.out; omega) j 0 n 0 rfl (by omega) (by omega) (by simp) s _ rfl rfl).mono ?_
      rintro e w4 ⟨rfl, D4⟩
      have B4 := Lib.hid (HB.out.trans (D4.low HH.out))
      obtain ⟨A4, c4, H4, _, _⟩ := D4
      have HH4 := Lib.hid H4
      clear H4 HB HH c0
      go_wp2
      exact ⟨⟨j + 1, _, _, _, _, by omega, by go_num, rfl, by have := HT.out; simp; omega, HH4.out, B4.out⟩, by simp [intOf]; omega⟩
    · have hj' : j = zs.length := by omega
      subst hj'
      go_wp2_with fail
      refine (load_int HH.out (by have := HT.out; omega) 0 0 0 rfl (by omega) (by omega) (by simp) s rfl).mono ?_
      rintro e w6 ⟨rfl, D6⟩
      have B6 := Lib.hid (HB.out.trans (D6.low HH.out))
      obtain ⟨A6, c6, H6, _, _⟩ := D6
      have HH6 := Lib.hid H6
      have e3 : (((ts ++ [⟨0, 0, 1, s, s⟩] : List Tc).length : Nat) : Int) = (zs.length : Int) + 1 := by have := HT.out; simp; omega
      clear H6
      generalize ts ++ [(⟨0, 0, 1, s, s⟩ : Tc)] = us at HH6 e3
      go_wp2_with fail
      refine (log_any HH6.out (by omega)).mono ?_
      rintro e w7 ⟨rfl, _, D7⟩
      have B7 := Lib.hid (on B6.out B6.out.size D7)
      clear D7
      go_wp2
      go_ret
      exact ⟨rfl, B7.out⟩

theorem sums_walk (A : Option Addr) (l c : Nat) (w : World) (hr : ∃ zs, Came .i32 w A l zs) :
    Calls Try.prog 5 #[.slice A l c] w fun e w' => e = .returned (.bool true) ∧ Below w.heap.size w w' := by
  obtain ⟨zs, rfl, h1, h2⟩ := hr
  by_cases h : 60 < zs.length
  · exact sums_far A c _ w h
  · exact sums_near A c zs w (by omega) h1 h2
end Go.Proofs.Ytcabgnfeeimeiaa
