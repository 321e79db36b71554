/- The walk of AllocApart, whatever comes in. -/
import Derived.Test.YtibfhpbklnpknaaApW2
namespace Go.Proofs.Ytibfhpbklnpknaa
open Go.RowKit
set_option linter.unusedVariables false
set_option linter.unusedSimpArgs false

set_option maxRecDepth 100000 in
theorem apart_out (x0 x1 : Int) (B : Option Addr) (n c : Nat) (w : World) (h2 : 40 < n) :
    Calls Try.prog 4 #[.int .u16 x0, .int .u8 x1, .slice B n c] w fun e w' => e = .returned (.bool true) ∧ Below w.heap.size w w' := by
  have d1 : decide ((40 : Int) < (n : Int)) = true := by simp; omega
  go_enter Try.func4, Try.ntmps4
  go_wp2_with fail
  refine (awake_any _).mono ?_
  rintro e w1 ⟨rfl, hb1⟩
  go_wp2_with fail
  refine (awake_any _).mono ?_
  rintro e w2 ⟨rfl, hb2⟩
  go_wp2
  go_ret
  exact ⟨rfl, on hb1 hb1.size hb2⟩

theorem apart_walk (x0 x1 : Int) (B : Option Addr) (n c : Nat) (ds : List Deal) (w : World) (hx : 0 ≤ x0 ∧ x0 ≤ 65535) (hy : 0 ≤ x1 ∧ x1 ≤ 255) (hc : CameD w B n ds) :
    Calls Try.prog 4 #[.int .u16 x0, .int .u8 x1, .slice B n c] w fun e w' => e = .returned (.bool true) ∧ Below w.heap.size w w' := by
  obtain ⟨rfl, h1, h2⟩ := hc
  by_cases h : ds.length ≤ 40
  · exact apart_yes x0 x1 B c ds w hx.1 hx.2 h h1 h2 hy.1 hy.2
  · exact apart_out x0 x1 B _ c w (by omega)
end Go.Proofs.Ytibfhpbklnpknaa
