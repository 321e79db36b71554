/- Marked, and that the heap was there ahead of the marks. -/
import Derived.Test.YtklhdilbmpndkaaHd
namespace Go.Proofs.Ytklhdilbmpndkaa
set_option maxRecDepth 20000
open Go.RowKit
set_option linter.unusedVariables false
set_option linter.unusedSimpArgs false

theorem below_same {B : Nat} {a b : World} (h : Below B a b) (p : Addr) (u : Value) : Below B (a.setCell p u) (b.setCell p u) := by
  refine ⟨h.os, h.tape, h.output, by simpa using h.size, fun k hk => ?_⟩
  have e := h.block k hk
  simp only [World.setCell, Array.getElem?_modify, e]
/-- The heap lies in a world ahead of the marks. -/
def Ahead (w w' : World) (ds : List Nd) (rs : List Int) (Z g gw gb base : Nat) (obs : List Ob) (tail : List Int) (A : Option Addr) (n c : Nat) (xs : List Value) (mg mw : Nat) : Prop :=
  ∃ wb, (∃ B cap rts, Built w wb ds rs Z g gw gb base obs tail A n c xs B cap rts) ∧ Below wb.heap.size wb w' ∧ wb.heap.size ≤ mg ∧ wb.heap.size ≤ mw

end Go.Proofs.Ytklhdilbmpndkaa
