/- The walk of HeapFulls. -/
import Derived.Test.YtibfhpbklnpknaaCheck2
import Derived.Lib.QuietBelow
namespace Go.Proofs.Ytibfhpbklnpknaa
open Go.RowKit Go.Sort
set_option linter.unusedVariables false
set_option linter.unusedSimpArgs false

theorem nil_ne (w : World) (g : Nat) : (binOp .eql 26 (.pointer (some ⟨g, 0, none⟩)) (.pointer none)).run Try.prog w = .ok (.bool false) w := by kernel_rfl

theorem new_st (n : Nat) (w : World) (h1 : 1 ≤ n) (h2 : n ≤ 65536) :
    Calls Try.prog 8 #[.int .i64 (n : Int)] w fun e w' => ∃ g gw gb, e = .returned (.tuple #[.pointer (some ⟨g, 0, none⟩), .int .i64 0]) ∧ Below w.heap.size w w' ∧ w.heap.size ≤ g ∧ w.heap.size ≤ gw ∧ w.heap.size ≤ gb ∧ St w' g gw gb [] (List.replicate n 0) :=
  (new_yes n w h1 h2).mono fun e w' ⟨g, gw, gb, he, hb, h3, h4, h5, H⟩ => ⟨g, gw, gb, he, hb, h3, h4, h5, fun o ho => by simp at ho, by simpa [flat_nil] using H⟩

theorem flat_rep (o : Ob) : ∀ i : Nat, (flat (List.replicate i o)).length = i * (1 + o.2.length)
  | 0 => by simp [flat_nil]
  | i + 1 => by
    rw [List.replicate_succ, flat_cons]
    simp [flat_rep o i, Nat.add_mul]
    omega

end Go.Proofs.Ytibfhpbklnpknaa
