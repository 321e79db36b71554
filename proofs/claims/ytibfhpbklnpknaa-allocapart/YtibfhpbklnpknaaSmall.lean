/- The walks of the three smallest statements: HeapHeads, HeapWords and HeapOrders return true whatever they are handed, and turn nothing that was there. -/
import Derived.Test.YtibfhpbklnpknaaEq
namespace Go.Proofs.Ytibfhpbklnpknaa
open Go.RowKit
set_option linter.unusedVariables false

/-- Behind a call that turned nothing old: old cells, and old marks, are as they were. -/
theorem kept {W w1 : World} (hb : Below W.heap.size W w1) : (∀ b o, b < W.heap.size → w1.cell? ⟨b, o, none⟩ = W.cell? ⟨b, o, none⟩) ∧ (∀ b o, b < W.heap.size → w1.frozen? ⟨b, o, none⟩ = W.frozen? ⟨b, o, none⟩) :=
  ⟨fun _ _ h => hb.cell h, fun _ _ h => hb.frozen h⟩

/-- One step more, behind which nothing that was there has turned. -/
theorem on {B : Nat} {a b c : World} (h : Below B a b) (hB : B ≤ b.heap.size) (k : Below b.heap.size b c) : Below B a c := h.trans (k.mono hB)

theorem packs_lt {k l p k' l' p' : Int} (hg : goodB k l p = true) (hg' : goodB k' l' p' = true) :
    (packW k l p < packW k' l' p' ↔ l < l' ∨ (l = l' ∧ (p < p' ∨ (p = p' ∧ k < k')))) := by
  obtain ⟨b1, b2, b3, b4, b5, b6, _⟩ := (good_iff k l p).1 hg
  obtain ⟨c1, c2, c3, c4, c5, c6, _⟩ := (good_iff k' l' p').1 hg'
  unfold packW; omega
theorem packs_eq {k l p k' l' p' : Int} (hg : goodB k l p = true) (hg' : goodB k' l' p' = true) :
    (packW k l p = packW k' l' p' ↔ k = k' ∧ l = l' ∧ p = p') := by
  obtain ⟨b1, b2, b3, b4, b5, b6, _⟩ := (good_iff k l p).1 hg
  obtain ⟨c1, c2, c3, c4, c5, c6, _⟩ := (good_iff k' l' p').1 hg'
  unfold packW; omega

theorem orders_bool {x y : Int} {b : Bool} (h : x < y ↔ b = true) : (decide (x < y) == b) = true := by
  cases b <;> simp at h ⊢ <;> omega

end Go.Proofs.Ytibfhpbklnpknaa
