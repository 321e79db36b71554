/- The walk of HeapTails: it returns true, and turns nothing that was there. -/
import Derived.Test.YtibfhpbklnpknaaOf
namespace Go.Proofs.Ytibfhpbklnpknaa
open Go.RowKit
set_option linter.unusedVariables false

theorem cleared_at (zs : List Int) (i n j : Nat) (h : i + n ≤ zs.length) : (cleared zs i n).getD j 0 = if i ≤ j ∧ j < i + n then 0 else zs.getD j 0 := by
  unfold cleared
  simp only [List.getD, List.getElem?_append, List.length_take, List.length_replicate, List.getElem?_take, List.getElem?_replicate, List.getElem?_drop]
  have hm : min i zs.length = i := by omega
  rw [hm]
  by_cases h1 : j < i
  · rw [if_pos h1, if_pos h1, if_neg (by omega)]
  · rw [if_neg h1]
    by_cases h2 : j - i < n
    · rw [if_pos h2, if_pos h2, if_pos (by omega)]; rfl
    · rw [if_neg h2, if_neg (by omega)]
      have : i + n + (j - i - n) = j := by omega
      rw [this]
theorem laid_at (zs : List Int) (i l j : Nat) (v : Int) (h : i + (1 + l) ≤ zs.length) : (laid zs i l v).getD j 0 = if j = i then v else if i < j ∧ j ≤ i + l then 0 else zs.getD j 0 := by
  unfold laid
  have hl : (cleared zs i (1 + l)).length = zs.length := cleared_length _ _ _ h
  by_cases h1 : j = i
  · subst h1
    rw [if_pos rfl]
    simp [List.getD, hl, show j < zs.length by omega]
  · have e : ((cleared zs i (1 + l)).set i v).getD j 0 = (cleared zs i (1 + l)).getD j 0 := by
      simp [List.getD, Ne.symm h1]
    rw [if_neg h1, e, cleared_at _ _ _ _ h]
    by_cases h2 : i < j ∧ j ≤ i + l
    · rw [if_pos (by omega), if_pos h2]
    · rw [if_neg (by omega), if_neg h2]

theorem nil_eq (w : World) : (binOp .eql 26 (.pointer none) (.pointer none)).run Try.prog w = .ok (.bool true) w := by kernel_rfl

end Go.Proofs.Ytibfhpbklnpknaa
