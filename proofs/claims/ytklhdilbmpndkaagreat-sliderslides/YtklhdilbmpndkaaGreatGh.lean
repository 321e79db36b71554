/- What the reference's Of answers. The walk of HeapOfs, but for its two loops. -/
import Derived.Test.YtklhdilbmpndkaaGreatGf
import Derived.Deep.RegionLaw
import Derived.Deep.RegionHeld3
import Derived.Test.YtklhdilbmpndkaaGreatGl
import Derived.Laws.AppendOwnNone
namespace Go.Proofs.YtklhdilbmpndkaaGreat
set_option maxRecDepth 20000
open Go.RowKit
set_option linter.unusedVariables false
set_option linter.unusedSimpArgs false

end Go.Proofs.YtklhdilbmpndkaaGreat

namespace Go.Proofs.YtklhdilbmpndkaaGreat
set_option maxRecDepth 20000
open Go.RowKit
set_option linter.unusedVariables false
set_option linter.unusedSimpArgs false

/-- Both answer an error: the words are no heap's. -/
def Bad (zs : List Int) (t : Int) : Prop := ¬ (1 ≤ zs.length ∧ zs.length ≤ 65536 ∧ 0 ≤ t ∧ t ≤ zs.length) ∨ ∃ top : Nat, t = top ∧ 1 ≤ zs.length ∧ top ≤ zs.length ∧ ¬ Parses (zs.take top)

theorem own_new {B : Nat} (w : World) (hb : B ≤ w.heap.size) : (w.alloc (.cells #[] 3)).ownsRow B 3 1 (.slice (some ⟨w.heap.size, 0, none⟩) 0 0) 0 [] := by
  have := World.ownsRow_lit (base := B) (e := 3) (size := 1) w #[] 0 hb (by unfold maxLen; omega) rfl
  exact this

theorem row_news {w : World} {ad : Addr} {zs : List Int} (h : Row w (some ad) zs) : ∀ j u, (zs.map (Value.int .i64))[j]? = some u → w.cell? (ad.add j) = some u := fun j u hu => by
  have hj : 0 < zs.length := by
    have := (List.getElem?_eq_some_iff.1 hu).1
    simp at this; omega
  obtain ⟨ad', e, _, hc⟩ := h hj
  injection e with e
  subst e
  exact hc j u hu

end Go.Proofs.YtklhdilbmpndkaaGreat
