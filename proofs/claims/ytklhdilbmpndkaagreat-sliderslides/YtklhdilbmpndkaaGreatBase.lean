/- What the small calls of package heap and of the document's own answers on heads do: each returns what the plain functions below say, and turns nothing that was there. No condition. -/
import Derived.Test.YtklhdilbmpndkaaGreatProg
import Derived.WalkKit
import Derived.WalkSpells
import Derived.WalkLawsBesides
namespace Go.Proofs.YtklhdilbmpndkaaGreat
set_option maxRecDepth 20000
open Go.RowKit
set_option linter.unusedVariables false

/-- May there be such a head? -/
def goodB (k l p : Int) : Bool := decide (0 ≤ k ∧ k ≤ 15 ∧ 0 ≤ l ∧ l ≤ 4095 ∧ 0 ≤ p ∧ p ≤ l ∧ (k = 15 → p = 0))

theorem good_iff (k l p : Int) : goodB k l p = true ↔ (0 ≤ k ∧ k ≤ 15 ∧ 0 ≤ l ∧ l ≤ 4095 ∧ 0 ≤ p ∧ p ≤ l ∧ (k = 15 → p = 0)) := by
  unfold goodB; exact decide_eq_true_iff
theorem good_yes {k l p : Int} (h : 0 ≤ k ∧ k ≤ 15 ∧ 0 ≤ l ∧ l ≤ 4095 ∧ 0 ≤ p ∧ p ≤ l ∧ (k = 15 → p = 0)) : goodB k l p = true := (good_iff k l p).2 h
theorem good_no {k l p : Int} (h : ¬ (0 ≤ k ∧ k ≤ 15 ∧ 0 ≤ l ∧ l ≤ 4095 ∧ 0 ≤ p ∧ p ≤ l ∧ (k = 15 → p = 0))) : goodB k l p = false := by
  unfold goodB; exact decide_eq_false h

/-- A bool is handed back. -/
theorem ret_bool {a b : Bool} (h : a = b) : Ending.returned (.bool a) = .returned (.bool b) := by rw [h]

set_option maxHeartbeats 1000000 in
theorem mayBe_any (k l p : Int) (w : World) :
    Calls Tryz.prog 73 #[.agg #[.int .i64 k, .int .i64 l, .int .i64 p]] w fun e w' => e = .returned (.bool (goodB k l p)) ∧ w' = w.alloc (.cells #[.int .i64 k, .int .i64 l, .int .i64 p] 64) := by
  by_cases h1 : k < 0
  · go_enter Tryz.func73, Tryz.ntmps73
    go_wp2
    go_ret
    exact ⟨ret_bool (good_no (by omega)).symm, rfl⟩
  by_cases h2 : 15 < k
  · go_enter Tryz.func73, Tryz.ntmps73
    go_wp2
    go_ret
    exact ⟨ret_bool (good_no (by omega)).symm, rfl⟩
  by_cases h3 : l < 0
  · go_enter Tryz.func73, Tryz.ntmps73
    go_wp2
    go_ret
    exact ⟨ret_bool (good_no (by omega)).symm, rfl⟩
  by_cases h4 : 4095 < l
  · go_enter Tryz.func73, Tryz.ntmps73
    go_wp2
    go_ret
    exact ⟨ret_bool (good_no (by omega)).symm, rfl⟩
  by_cases h5 : k = 15
  · by_cases h6 : p = 0
    · go_enter Tryz.func73, Tryz.ntmps73
      go_wp2
      go_ret
      exact ⟨ret_bool (good_yes (by omega)).symm, rfl⟩
    · have h6' : (p == 0) = false := by simp [h6]
      go_enter Tryz.func73, Tryz.ntmps73
      go_wp2
      go_ret
      exact ⟨ret_bool (good_no (by omega)).symm, rfl⟩
  · by_cases h6 : 0 ≤ p
    · by_cases h7 : p ≤ l
      · go_enter Tryz.func73, Tryz.ntmps73
        go_wp2
        go_ret
        exact ⟨ret_bool (good_yes (by omega)).symm, rfl⟩
      · go_enter Tryz.func73, Tryz.ntmps73
        go_wp2
        go_ret
        exact ⟨ret_bool (good_no (by omega)).symm, rfl⟩
    · go_enter Tryz.func73, Tryz.ntmps73
      go_wp2
      go_ret
      exact ⟨ret_bool (good_no (by omega)).symm, rfl⟩

set_option maxHeartbeats 1000000 in
theorem good_any (k l p : Int) (w : World) :
    Calls Tryz.prog 76 #[.agg #[.int .i64 k, .int .i64 l, .int .i64 p]] w fun e w' => e = .returned (.bool (goodB k l p)) ∧ w' = w.alloc (.cells #[.int .i64 k, .int .i64 l, .int .i64 p] 64) := by
  by_cases h1 : k < 0
  · go_enter Tryz.func76, Tryz.ntmps76
    go_wp2
    go_ret
    exact ⟨ret_bool (good_no (by omega)).symm, rfl⟩
  by_cases h2 : 15 < k
  · go_enter Tryz.func76, Tryz.ntmps76
    go_wp2
    go_ret
    exact ⟨ret_bool (good_no (by omega)).symm, rfl⟩
  by_cases h3 : l < 0
  · go_enter Tryz.func76, Tryz.ntmps76
    go_wp2
    go_ret
    exact ⟨ret_bool (good_no (by omega)).symm, rfl⟩
  by_cases h4 : 4095 < l
  · go_enter Tryz.func76, Tryz.ntmps76
    go_wp2
    go_ret
    exact ⟨ret_bool (good_no (by omega)).symm, rfl⟩
  by_cases h5 : p < 0
  · go_enter Tryz.func76, Tryz.ntmps76
    go_wp2
    go_ret
    exact ⟨ret_bool (good_no (by omega)).symm, rfl⟩
  by_cases h6 : l < p
  · go_enter Tryz.func76, Tryz.ntmps76
    go_wp2
    go_ret
    exact ⟨ret_bool (good_no (by omega)).symm, rfl⟩
  by_cases h7 : k = 15
  · have h7' : (k != 15) = false := by simp [h7]
    by_cases h8 : p = 0
    · have h8' : (p == 0) = true := by simp [h8]
      go_enter Tryz.func76, Tryz.ntmps76
      go_wp2
      go_ret
      exact ⟨ret_bool (good_yes (by omega)).symm, rfl⟩
    · have h8' : (p == 0) = false := by simp [h8]
      go_enter Tryz.func76, Tryz.ntmps76
      go_wp2
      go_ret
      exact ⟨ret_bool (good_no (by omega)).symm, rfl⟩
  · have h7' : (k != 15) = true := by simp [h7]
    go_enter Tryz.func76, Tryz.ntmps76
    go_wp2
    go_ret
    exact ⟨ret_bool (good_yes (by omega)).symm, rfl⟩

/-- A head's word. -/
def packW (k l p : Int) : Int := k + 16 * p + 65536 * l

set_option maxHeartbeats 1000000 in
theorem pack_yes (k l p : Int) (w : World) (hg : goodB k l p = true) :
    Calls Tryz.prog 101 #[.agg #[.int .i64 k, .int .i64 l, .int .i64 p]] w fun e w' => e = .returned (.tuple #[.int .i64 (packW k l p), .int .i64 0]) ∧ Below w.heap.size w w' := by
  obtain ⟨b1, b2, b3, b4, b5, b6, _⟩ := (good_iff k l p).1 hg
  go_enter Tryz.func101, Tryz.ntmps101
  go_wp2_with fail
  refine (mayBe_any k l p _).mono ?_
  rintro e w' ⟨rfl, rfl⟩
  rw [hg]
  go_wp2
  go_ret2
  exact ⟨rfl, ((Below.refl _ _).alloc (Nat.le_refl _) _).alloc (by simp) _⟩

set_option maxHeartbeats 1000000 in
theorem pack_no (k l p : Int) (w : World) (hg : goodB k l p = false) :
    Calls Tryz.prog 101 #[.agg #[.int .i64 k, .int .i64 l, .int .i64 p]] w fun e w' => e = .returned (.tuple #[.int .i64 0, .int .i64 1]) ∧ Below w.heap.size w w' := by
  go_enter Tryz.func101, Tryz.ntmps101
  go_wp2_with fail
  refine (mayBe_any k l p _).mono ?_
  rintro e w' ⟨rfl, rfl⟩
  rw [hg]
  go_wp2
  go_ret2
  exact ⟨rfl, ((Below.refl _ _).alloc (Nat.le_refl _) _).alloc (by simp) _⟩
end Go.Proofs.YtklhdilbmpndkaaGreat
