/- HeapPlays, whatever it is handed. -/
import Derived.Test.YtccojidhghgikaaPlW
namespace Go.Proofs.Ytccojidhghgikaa
open Go.RowKit
set_option linter.unusedVariables false
set_option linter.unusedSimpArgs false

set_option maxRecDepth 100000 in
set_option maxHeartbeats 1000000 in
theorem plays_far (s : Int) (B : Option Addr) (m c : Nat) (w : World) (h : 40 < m) :
    Calls Try.prog 5 #[.int .u8 s, .slice B m c] w fun e w' => e = .returned (.bool true) ∧ Below w.heap.size w w' := by
  have d1 : decide ((40 : Int) < (m : Int)) = true := by simp; omega
  go_enter Try.func5, Try.ntmps5
  go_wp2_with fail
  refine (awake_any _).mono ?_
  rintro e w1 ⟨rfl, B1⟩
  go_wp2_with fail
  refine (awake_any _).mono ?_
  rintro e w2 ⟨rfl, B2⟩
  have HB := Lib.hid (on B1 B1.size B2)
  clear B1 B2
  go_wp2
  go_ret
  exact ⟨rfl, HB.out⟩

set_option maxRecDepth 100000 in
set_option maxHeartbeats 1000000 in
theorem plays_none (B : Option Addr) (m c : Nat) (w : World) (h : m ≤ 40) :
    Calls Try.prog 5 #[.int .u8 0, .slice B m c] w fun e w' => e = .returned (.bool true) ∧ Below w.heap.size w w' := by
  have d1 : decide ((40 : Int) < (m : Int)) = false := by simp; omega
  have hnil := nil_eq
  go_enter Try.func5, Try.ntmps5
  go_wp2_with fail
  refine (awake_any _).mono ?_
  rintro e w1 ⟨rfl, B1⟩
  go_wp2_with fail
  refine (new_bad 0 _ (by omega)).mono ?_
  rintro e w2 ⟨rfl, B2⟩
  have HB := Lib.hid (on (on B1 B1.size B2) (by have := B1.size; have := B2.size; omega) (below_one w2 (.cells #[.int .i64 0, .slice none 0 0] 41)))
  clear B1 B2
  go_wp2
  go_ret
  exact ⟨rfl, HB.out⟩

theorem plays_walk (s : Int) (B : Option Addr) (m c : Nat) (ds : List Deed) (w : World) (h0 : 0 ≤ s) (h1 : s ≤ 255) (hm : ds.length = m) (hd : Deeds w B ds) (hf : ∀ d ∈ ds, d.fit) :
    Calls Try.prog 5 #[.int .u8 s, .slice B m c] w fun e w' => e = .returned (.bool true) ∧ Below w.heap.size w w' := by
  subst hm
  by_cases h : 40 < ds.length
  · exact plays_far s B _ c w h
  · by_cases hs : s = 0
    · subst hs; exact plays_none B _ c w (by omega)
    · obtain ⟨s, rfl⟩ := Int.eq_ofNat_of_zero_le h0
      exact plays_yes s B c ds w (by omega) (by omega) (by omega) hd hf
end Go.Proofs.Ytccojidhghgikaa
