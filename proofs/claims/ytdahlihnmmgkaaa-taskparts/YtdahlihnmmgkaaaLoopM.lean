/- A round over a task's parts: which numbers part j has, and what is known of them. -/
import Derived.Test.YtdahlihnmmgkaaaSplitW
namespace Go.Proofs.Ytdahlihnmmgkaaa
open Go.RowKit
set_option linter.unusedVariables false
set_option linter.unusedSimpArgs false

theorem fr_mono (f m : Int) (hm : 1 ≤ m) (j : Nat) : ∀ d : Nat, fr f m j ≤ fr f m (j + d)
  | 0 => Int.le_refl _
  | d + 1 => by have := fr_mono f m hm j d; show fr f m j ≤ fr f m (j + d) + m; omega
/-- Where the parts ahead of part j end. -/
def frm (f t m : Int) (k j : Nat) : Int := if j ≤ k then fr f m j else t
theorem frm_zero (f t m : Int) (k : Nat) : frm f t m k 0 = f := by simp [frm, fr]
theorem frm_end (f t m : Int) (k : Nat) : frm f t m k (k + 1) = t := by unfold frm; rw [if_neg (by omega)]
theorem frm_next (f t m : Int) (k j : Nat) (h : j ≤ k) : frm f t m k (j + 1) = upto f t m k j := by
  unfold frm upto
  by_cases hj : j < k
  · rw [if_pos hj, if_pos (by omega)]
  · rw [if_neg hj, if_neg (by omega)]
theorem frm_at (f t m : Int) (k j : Nat) (h : j ≤ k) : frm f t m k j = fr f m j := by simp [frm, h]

section
variable {w' w : World} {a f t m : Int} {g c k : Nat}
/-- Part j's cells, in every world behind. -/
theorem Split.cells (S : Split w' w a f t m g c k) {wr : World} (hb : Below w'.heap.size w' wr) (j : Nat) (hj : j ≤ k) :
    wr.cell? ⟨g, j * 3, none⟩ = some (.int .i64 a) ∧ wr.cell? ⟨g, j * 3 + 1, none⟩ = some (.int .i64 (frm f t m k j)) ∧ wr.cell? ⟨g, j * 3 + 2, none⟩ = some (.int .i64 (frm f t m k (j + 1))) := by
  have hg : g < w'.heap.size := (S.own.lt g rfl).2
  have h : ∀ i, i < 3 → wr.cell? ⟨g, j * 3 + i, none⟩ = (part a (fr f m j) (upto f t m k j))[i]? := fun i hi => by
    rw [hb.cell (p := ⟨g, j * 3 + i, none⟩) hg, S.own.cellAt (j * 3 + i) (by omega), row_at a f t m k j i hj hi]
  rw [frm_at f t m k j hj, frm_next f t m k j hj]
  exact ⟨h 0 (by omega), h 1 (by omega), h 2 (by omega)⟩
/-- What is known of part j's numbers. -/
theorem Split.num (S : Split w' w a f t m g c k) (hm : 1 ≤ m) (hg : goodB a f t = true) (j : Nat) (hj : j ≤ k) :
    goodB a (frm f t m k j) (frm f t m k (j + 1)) = true ∧ f ≤ frm f t m k j ∧ frm f t m k (j + 1) - frm f t m k j ≤ m ∧ (j < k → frm f t m k (j + 1) - frm f t m k j = m) ∧ (1 ≤ k → frm f t m k j < frm f t m k (j + 1)) := by
  obtain ⟨b1, b2, b3, b4, b5⟩ := (good_iff a f t).1 hg
  have hge := fr_ge f m hm j
  have hle := S.le
  have hr := S.rest
  have hl := S.lt
  rw [frm_at f t m k j hj, frm_next f t m k j hj]
  unfold upto
  by_cases h : j < k
  · rw [if_pos h]
    have h1 := fr_mono f m hm (j + 1) (k - (j + 1))
    rw [show j + 1 + (k - (j + 1)) = k by omega] at h1
    have h2 : fr f m (j + 1) = fr f m j + m := rfl
    exact ⟨good_yes (by omega), by omega, by omega, fun _ => by omega, fun _ => by omega⟩
  · obtain rfl : j = k := by omega
    rw [if_neg h]
    exact ⟨good_yes (by omega), by omega, by omega, fun h => by omega, fun h => by have := hl h; omega⟩
end
end Go.Proofs.Ytdahlihnmmgkaaa
