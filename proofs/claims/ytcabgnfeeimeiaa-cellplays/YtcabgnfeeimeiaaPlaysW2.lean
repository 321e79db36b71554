/- CellPlays, whatever it is handed. -/
import Derived.Test.YtcabgnfeeimeiaaPlaysW
namespace Go.Proofs.Ytcabgnfeeimeiaa
open Go.RowKit
set_option linter.unusedVariables false
set_option linter.unusedSimpArgs false

set_option maxRecDepth 100000 in
set_option maxHeartbeats 1000000 in
theorem plays_far (s : Int) (B : Option Addr) (m c : Nat) (w : World) (h : 80 < m) :
    Calls Try.prog 3 #[.int .u8 s, .slice B m c] w fun e w' => e = .returned (.bool true) ∧ Below w.heap.size w w' := by
  have d1 : decide ((80 : Int) < (m : Int)) = true := by simp; omega
  go_enter Try.func3, Try.ntmps3
  go_wp2_with fail
  refine (awake_any _).mono ?_
  rintro e w1 ⟨rfl, B1⟩
  go_wp2_with fail
  refine (awake_any _).mono ?_
  rintro e w2 ⟨rfl, B2⟩
  have HB := Lib.hid (on B1 B1.size B2)
  clear B1 B2
  go_wp2
  go_ret
  exact ⟨rfl, HB.out⟩

set_option maxRecDepth 100000 in
set_option maxHeartbeats 1000000 in
theorem plays_none (B : Option Addr) (m c : Nat) (w : World) (h : m ≤ 80) :
    Calls Try.prog 3 #[.int .u8 0, .slice B m c] w fun e w' => e = .returned (.bool true) ∧ Below w.heap.size w w' := by
  have d1 : decide ((80 : Int) < (m : Int)) = false := by simp; omega
  have hnil := nil_nil
  go_enter Try.func3, Try.ntmps3
  go_wp2_with fail
  refine (awake_any _).mono ?_
  rintro e w1 ⟨rfl, B1⟩
  go_wp2_with fail
  refine (new_no 0 _ (by omega)).mono ?_
  rintro e w2 ⟨rfl, B2⟩
  have HB := Lib.hid (on B1 B1.size B2)
  clear B1 B2
  go_wp2
  go_ret
  exact ⟨rfl, HB.out⟩

theorem plays_walk (s : Int) (A : Option Addr) (l c : Nat) (w : World) (h0 : 0 ≤ s) (h1 : s ≤ 255) (hr : ∃ ds, CameD w A l ds) :
    Calls Try.prog 3 #[.int .u8 s, .slice A l c] w fun e w' => e = .returned (.bool true) ∧ Below w.heap.size w w' := by
  obtain ⟨ds, rfl, h2, h3⟩ := hr
  by_cases h : 80 < ds.length
  · exact plays_far s A _ c w h
  · by_cases hs : s = 0
    · subst hs; exact plays_none A _ c w (by omega)
    · obtain ⟨s, rfl⟩ := Int.eq_ofNat_of_zero_le h0
      exact plays_yes s A c ds w (by omega) (by omega) (by omega) h2 h3
end Go.Proofs.Ytcabgnfeeimeiaa
