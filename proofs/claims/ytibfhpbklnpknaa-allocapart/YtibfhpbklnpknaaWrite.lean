/- What Write and Read do. -/
import Derived.Test.YtibfhpbklnpknaaSplit
namespace Go.Proofs.Ytibfhpbklnpknaa
open Go.RowKit
set_option linter.unusedVariables false

theorem HeapAt.put {w : World} {g gw gb : Nat} {zs : List Int} {top : Nat} {bs : List Bool} (h : HeapAt w g gw gb zs top bs) (j : Nat) (v : Int) : HeapAt (w.setCell ⟨gw, j, none⟩ (.int .i64 v)) g gw gb (zs.set j v) top bs := by
  refine ⟨?_, ?_, h.begins.far (h.begins.apart h.words (by decide)) _, by simpa using h.same, by simpa using h.some_, by simpa using h.most, by simpa using h.fits⟩
  · have := h.own.far (p := ⟨gw, j, none⟩) (h.own.apart h.words (by decide)) (.int .i64 v)
    simpa using this
  · have := h.words.set j (.int .i64 v)
    simpa [List.map_set] using this
theorem put_else {g gw gb : Nat} (w : World) (j : Nat) (u : Value) : Else g gw gb w (w.setCell ⟨gw, j, none⟩ u) :=
  ⟨rfl, rfl, rfl, by simp [World.setCell], fun k hk h1 h2 h3 => Below.heap_setCell _ _ _ _ h2⟩

end Go.Proofs.Ytibfhpbklnpknaa
