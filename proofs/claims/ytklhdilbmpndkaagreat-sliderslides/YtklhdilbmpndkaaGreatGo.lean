/- The document's fixed fact. Of a list of objects, one by one: what the laws want to know. -/
import Derived.Test.YtklhdilbmpndkaaGreatGn
namespace Go.Proofs.YtklhdilbmpndkaaGreat
set_option maxRecDepth 20000
open Go.RowKit
set_option linter.unusedVariables false
set_option linter.unusedSimpArgs false

theorem awake_obs {obs : List Ob} (hf : Fine obs) (hh : obs.map Prod.fst = (laidG [⟨0, [], 0⟩, ⟨0, [], 1⟩] 2).1.map Prod.fst) : ∃ o p, obs = [o, p] ∧ o.1 % 16 = 0 ∧ o.2.length = 0 ∧ p.1 % 16 = 0 ∧ p.2.length = 1 := by
  have e : (laidG [⟨0, [], 0⟩, ⟨0, [], 1⟩] 2).1.map Prod.fst = [0, 65536] := by decide
  rw [e] at hh
  match obs, hh, hf with
  | [], hh, hf => simp at hh
  | [o], hh, hf => simp at hh
  | [o, p], hh, hf =>
    simp at hh
    obtain ⟨h1, h2⟩ := hh
    refine ⟨o, p, rfl, by rw [h1]; rfl, ?_, by rw [h2]; rfl, ?_⟩
    · rw [(hf o (by simp)).2, h1]; rfl
    · rw [(hf p (by simp)).2, h2]; rfl
  | o :: p :: r :: l, hh, hf => simp at hh
theorem awake_facts (o p : Ob) (f : Nat → Bool) (hf : ∀ x, f x = markB [o, p] [1] x) (h1 : o.2.length = 0) (h2 : p.1 % 16 = 0) (h3 : p.2.length = 1) :
    isK f (adr 0 [o, p]) 1 = true ∧ goS f (adr 0 [o, p]) 1 = 0 ∧ sumL ((adr 0 [o, p]).filter (keepB f)) = 2 := by
  have ha : atI [o, p] 1 = 1 := by simp [atI, flat, h1]
  have f0 : f 0 = false := by rw [hf]; simp [markB, ha]
  have f1 : f 1 = true := by rw [hf]; simp [markB, ha]
  have e : adr 0 [o, p] = [(0, o), (1, p)] := by simp [adr, h1]
  have k0 : keepB f (0, o) = false := by simp [keepB, f0]
  have k1 : keepB f (1, p) = true := by simp [keepB, f1, h2]
  rw [e]
  refine ⟨?_, ?_, ?_⟩
  · simp [isK, k0, k1]
  · simp [goS, k0, sumL]
  · simp [k0, k1, sumL, h3]

end Go.Proofs.YtklhdilbmpndkaaGreat

namespace Go.Proofs.YtklhdilbmpndkaaGreat
set_option maxRecDepth 20000
open Go.RowKit
set_option linter.unusedVariables false
set_option linter.unusedSimpArgs false

theorem sum_take : ∀ (a : Nat) (obs : List Ob) (j : Nat), sumL ((adr a obs).take j) = atI obs j
  | a, [], j => by simp [adr, atI, flat, sumL]
  | a, o :: l, 0 => by simp [atI, flat, sumL]
  | a, o :: l, j + 1 => by
    rw [adr, List.take_succ_cons]
    show 1 + o.2.length + sumL _ = _
    rw [sum_take]
    unfold atI
    rw [List.take_succ_cons, flat_cons]; simp; omega
/-- All that stays among the first so many. -/
def endS (f : Nat → Bool) (obs : List Ob) (j : Nat) : Nat := sumL (((adr 0 obs).take j).filter (keepB f))
theorem end_zero (f : Nat → Bool) (obs : List Ob) : endS f obs 0 = 0 := by simp [endS, sumL]
theorem end_all (f : Nat → Bool) (obs : List Ob) (n : Nat) (hn : obs.length = n) : endS f obs n = sumL ((adr 0 obs).filter (keepB f)) := by
  unfold endS
  rw [List.take_of_length_le (by rw [adr_len]; omega)]
theorem end_le (f : Nat → Bool) (obs : List Ob) (j : Nat) : endS f obs j ≤ atI obs j := by
  rw [← sum_take 0]; exact sumL_filter _ _
theorem obj_go (f : Nat → Bool) {obs : List Ob} {j p : Nat} {o : Ob} (h : (adr 0 obs)[j]? = some (p, o)) :
    isK f (adr 0 obs) p = keepB f (p, o) ∧ goS f (adr 0 obs) p = endS f obs j ∧ endS f obs j ≤ p ∧ endS f obs (j + 1) = endS f obs j + if keepB f (p, o) then 1 + o.2.length else 0 := by
  refine ⟨isK_at (x := (p, o)) (adr_sorted 0 obs) (List.mem_of_getElem? h), go_take (x := (p, o)) (adr_sorted 0 obs) h, ?_, ?_⟩
  · have h1 := end_le f obs j
    have h2 := (adr_get h).2
    simp only at h2; omega
  · unfold endS
    rw [take_more h, keep_more]

theorem many_le {obs : List Ob} {top : Nat} (ht : (flat obs).length = top) : obs.length ≤ top := by rw [← ht]; exact count_le obs
end Go.Proofs.YtklhdilbmpndkaaGreat
