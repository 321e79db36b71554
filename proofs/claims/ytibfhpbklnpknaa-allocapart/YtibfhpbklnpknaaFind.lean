/- What find does: it tells whether just objects stand ahead of the top, and notes where they begin. -/
import Derived.Test.YtibfhpbklnpknaaPlain
import Derived.Test.YtibfhpbklnpknaaPlace
namespace Go.Proofs.Ytibfhpbklnpknaa
open Go.RowKit
set_option linter.unusedVariables false

/-- Where objects begin, as find notes it. -/
def noted (obs : List Ob) (n : Nat) : List Bool := marks obs ++ List.replicate n false

theorem noted_next {pre : List Ob} {a m n : Nat} {o : Ob} (ha : (flat pre).length = a) (hn : o.2.length + 1 ≤ n) :
    (noted pre n).set a true = noted (pre ++ [o]) (n - (1 + o.2.length)) := by
  have hm : (marks pre).length = a := by rw [marks_length, ha]
  unfold noted
  rw [marks_append, marks_cons]
  rw [List.set_append_right _ _ (by omega), hm, Nat.sub_self]
  obtain ⟨q, rfl⟩ : ∃ q, n = q + (1 + o.2.length) := ⟨n - (1 + o.2.length), by omega⟩
  have e : q + (1 + o.2.length) = (o.2.length + q) + 1 := by omega
  rw [Nat.add_sub_cancel, e, List.replicate_succ, List.set_cons_zero, List.append_assoc]
  simp [marks]

theorem HeapAt.mark {w : World} {g gw gb : Nat} {zs : List Int} {top : Nat} {bs : List Bool} (h : HeapAt w g gw gb zs top bs) (a : Nat) : HeapAt (w.setCell ⟨gb, a, none⟩ (.bool true)) g gw gb zs top (bs.set a true) := by
  refine ⟨h.own.far (h.own.apart h.begins (by decide)) _, h.words.far (h.words.apart h.begins (by decide)) _, ?_, by simpa using h.same, h.some_, h.most, h.fits⟩
  have := h.begins.set a (.bool true)
  simpa [List.map_set] using this
theorem marked_else {g gw gb : Nat} (w : World) (a : Nat) (u : Value) : Else g gw gb w (w.setCell ⟨gb, a, none⟩ u) :=
  ⟨rfl, rfl, rfl, by simp [World.setCell], fun j hj h1 h2 h3 => Below.heap_setCell _ _ _ _ h3⟩

end Go.Proofs.Ytibfhpbklnpknaa
