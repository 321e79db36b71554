/- The walk of AllocLarge, whatever comes in. -/
import Derived.Test.YtibfhpbklnpknaaLargeW
namespace Go.Proofs.Ytibfhpbklnpknaa
open Go.RowKit
set_option linter.unusedVariables false
set_option linter.unusedSimpArgs false

theorem large_out (x : Int) (B : Option Addr) (n c : Nat) (w : World) (h2 : 20 < n) :
    Calls Try.prog 5 #[.int .u8 x, .slice B n c] w fun e w' => e = .returned (.bool true) ∧ Below w.heap.size w w' := by
  have d1 : decide ((20 : Int) < (n : Int)) = true := by simp; omega
  go_enter Try.func5, Try.ntmps5
  go_wp2_with fail
  refine (awake_any _).mono ?_
  rintro e w1 ⟨rfl, hb1⟩
  go_wp2_with fail
  refine (awake_any _).mono ?_
  rintro e w2 ⟨rfl, hb2⟩
  go_wp2
  go_ret
  exact ⟨rfl, on hb1 hb1.size hb2⟩

theorem large_walk (x : Int) (B : Option Addr) (n c : Nat) (zs : List Int) (w : World) (hx : 0 ≤ x) (hx' : x ≤ 255) (hc : CameB w B n zs) :
    Calls Try.prog 5 #[.int .u8 x, .slice B n c] w fun e w' => e = .returned (.bool true) ∧ Below w.heap.size w w' := by
  obtain ⟨rfl, h1, h2⟩ := hc
  by_cases h : zs.length ≤ 20
  · exact large_yes x B c zs w hx hx' h h1 h2
  · exact large_out x B _ c w (by omega)
end Go.Proofs.Ytibfhpbklnpknaa
