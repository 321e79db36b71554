/- The walk of HeapRefs. -/
import Derived.Test.YtibfhpbklnpknaaGd
namespace Go.Proofs.Ytibfhpbklnpknaa
open Go.RowKit Go.Sort
set_option linter.unusedVariables false
set_option linter.unusedSimpArgs false

theorem words_z {w : World} {g gw gb : Nat} {obs : List Ob} {tail : List Int} (S : St w g gw gb obs tail) (Z : Nat) (hZ : (flat obs ++ tail).length = Z) :
    Calls Try.prog 24 #[.pointer (some ⟨g, 0, none⟩)] w fun e w' => e = .returned (.slice (some ⟨w.heap.size, 0, none⟩) Z Z) ∧ Lies w' w.heap.size 3 ((flat obs ++ tail).map (Value.int .i64)) ∧ Below w.heap.size w w' := by
  subst hZ
  exact words_any S.lies

theorem check_0 {w : World} {g gw gb : Nat} {obs : List Ob} {tail : List Int} (S : St w g gw gb obs tail) (hc : Clean obs) :
    Calls Try.prog 22 #[.pointer (some ⟨g, 0, none⟩)] w fun e w' => e = .returned (.int .i64 0) ∧ Below w.heap.size w w' := by
  have h := check_any S hc.within
  rw [hc.check] at h
  exact h

end Go.Proofs.Ytibfhpbklnpknaa
