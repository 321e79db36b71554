/- What the heap's Read and Head answer, over the list of objects. -/
import Derived.Test.YtklhdilbmpndkaaWalk
namespace Go.Proofs.Ytklhdilbmpndkaa
set_option maxRecDepth 20000
open Go.RowKit
set_option linter.unusedVariables false

/-- What Read answers. -/
def readF (obs : List Ob) (a f : Int) : Int × Int :=
  match look obs a with
  | none => (0, 3)
  | some x => if 0 ≤ f ∧ f < x.2.1.1 / 65536 then (x.2.1.2.getD f.toNat 0, 0) else (0, 4)

/-- What Head answers. -/
def headF (obs : List Ob) (a : Int) : (Int × Int × Int) × Int :=
  match look obs a with
  | none => ((0, 0, 0), 3)
  | some x => ((x.2.1.1 % 16, x.2.1.1 / 65536, x.2.1.1 % 65536 / 16), 0)

theorem headF_st {w : World} {g gw gb : Nat} {obs : List Ob} {tail : List Int} (S : St w g gw gb obs tail) (a : Int) :
    Calls Try.prog 49 #[.pointer (some ⟨g, 0, none⟩), .int .i64 a] w fun e w' => e = .returned (.tuple #[.agg #[.int .i64 (headF obs a).1.1, .int .i64 (headF obs a).1.2.1, .int .i64 (headF obs a).1.2.2], .int .i64 (headF obs a).2]) ∧ Below w.heap.size w w' := by
  unfold headF
  cases hl : look obs a with
  | none => exact head_no S.lies a (start_not (look_none _ hl))
  | some x =>
    obtain ⟨pre, o, post⟩ := x
    obtain ⟨e0, rfl⟩ := look_some _ _ _ hl
    simp only at e0 ⊢
    subst e0
    exact head_st S _ rfl

end Go.Proofs.Ytklhdilbmpndkaa
