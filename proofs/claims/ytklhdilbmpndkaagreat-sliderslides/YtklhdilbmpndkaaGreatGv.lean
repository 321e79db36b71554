/- Marked, and that the heap was there ahead of the marks. Plain facts for SliderNews: which are marked, and stay. -/
import Derived.Test.YtklhdilbmpndkaaGreatHd
import Derived.Test.YtklhdilbmpndkaaGreatGs
namespace Go.Proofs.YtklhdilbmpndkaaGreat
set_option maxRecDepth 20000
open Go.RowKit
set_option linter.unusedVariables false
set_option linter.unusedSimpArgs false

theorem below_same {B : Nat} {a b : World} (h : Below B a b) (p : Addr) (u : Value) : Below B (a.setCell p u) (b.setCell p u) := by
  refine ⟨h.os, h.tape, h.output, by simpa using h.size, fun k hk => ?_⟩
  have e := h.block k hk
  simp only [World.setCell, Array.getElem?_modify, e]
/-- The heap lies in a world ahead of the marks. -/
def Ahead (w w' : World) (ds : List Nd) (rs : List Int) (Z g gw gb base : Nat) (obs : List Ob) (tail : List Int) (A : Option Addr) (n c : Nat) (xs : List Value) (mg mw : Nat) : Prop :=
  ∃ wb, (∃ B cap rts, Built w wb ds rs Z g gw gb base obs tail A n c xs B cap rts) ∧ Below wb.heap.size wb w' ∧ wb.heap.size ≤ mg ∧ wb.heap.size ≤ mw

end Go.Proofs.YtklhdilbmpndkaaGreat

namespace Go.Proofs.YtklhdilbmpndkaaGreat
set_option maxRecDepth 20000
open Go.RowKit
set_option linter.unusedVariables false
set_option linter.unusedSimpArgs false


theorem atI_inj {obs : List Ob} {i j : Nat} (hi : i < obs.length) (hj : j < obs.length) (h : atI obs i = atI obs j) : i = j := by
  have key : ∀ {a b : Nat}, a < b → b ≤ obs.length → atI obs a < atI obs b := by
    intro a b hab hb
    induction b with
    | zero => omega
    | succ b ih =>
      obtain ⟨o, ho⟩ : ∃ o, obs[b]? = some o := ⟨_, List.getElem?_eq_getElem (by omega)⟩
      have h1 := atI_succ ho
      rcases Nat.lt_or_ge a b with h2 | h2
      · have := ih h2 (by omega); omega
      · obtain rfl : a = b := by omega
        omega
  rcases Nat.lt_trichotomy i j with h1 | h1 | h1
  · have := key h1 (by omega); omega
  · exact h1
  · have := key h1 (by omega); omega
/-- Which objects stay, by their places in the list. -/
def stL (f : Nat → Bool) (obs : List Ob) : List Bool := (List.range obs.length).map fun k => keepB f (atI obs k, obs.getD k (0, []))
theorem stL_len (f : Nat → Bool) (obs : List Ob) : (stL f obs).length = obs.length := by simp [stL]
theorem stL_at {f : Nat → Bool} {obs : List Ob} {k : Nat} {o : Ob} (h : obs[k]? = some o) : (stL f obs)[k]? = some (keepB f (atI obs k, o)) := by
  have hk := (List.getElem?_eq_some_iff.1 h).1
  have e : obs.getD k (0, []) = o := by simp [List.getD, h]
  unfold stL
  rw [List.getElem?_map, List.getElem?_range hk]
  show some (keepB f (atI obs k, obs.getD k (0, []))) = _
  rw [e]
theorem stb_of (f : Nat → Bool) (obs : List Ob) : Stb (stL f obs) f obs := ⟨stL_len f obs, fun k o h => stL_at h⟩
theorem stL_none {f : Nat → Bool} (obs : List Ob) (h : ∀ p, f p = false) : stL f obs = List.replicate obs.length false := by
  refine List.ext_getElem? fun i => ?_
  by_cases hi : i < obs.length
  · obtain ⟨o, ho⟩ : ∃ o, obs[i]? = some o := ⟨_, List.getElem?_eq_getElem hi⟩
    rw [stL_at ho]; simp [keepB, h, hi]
  · rw [List.getElem?_eq_none (by rw [stL_len]; omega), List.getElem?_eq_none (by simp; omega)]
theorem stL_set {f f' : Nat → Bool} {obs : List Ob} {i : Nat} {o : Ob} (ho : obs[i]? = some o) (h : ∀ p, f' p = (decide (p = atI obs i) || f p)) : (stL f obs).set i (decide (o.1 % 16 ≠ 15)) = stL f' obs := by
  have hi := (List.getElem?_eq_some_iff.1 ho).1
  refine List.ext_getElem? fun j => ?_
  rw [List.getElem?_set]
  by_cases hij : i = j
  · subst hij
    rw [if_pos rfl, if_pos (by rw [stL_len]; exact hi), stL_at ho]
    simp [keepB, h]
  · rw [if_neg hij]
    by_cases hj : j < obs.length
    · obtain ⟨o2, ho2⟩ : ∃ o2, obs[j]? = some o2 := ⟨_, List.getElem?_eq_getElem hj⟩
      rw [stL_at ho2, stL_at ho2]
      have hne : atI obs j ≠ atI obs i := fun e => hij (atI_inj hi hj e.symm)
      simp [keepB, h, hne]
    · rw [List.getElem?_eq_none (by rw [stL_len]; omega), List.getElem?_eq_none (by rw [stL_len]; omega)]
theorem size_small {ds : List Nd} (he : ∀ d ∈ ds, d.edges.length ≤ 10) (n room : Nat) (hl : ds.length ≤ 14) : sizeG ds room n ≤ 1 + room + 16 * 14 := by
  unfold sizeG
  have key : ∀ l : List Nd, (∀ d ∈ l, d.edges.length ≤ 10) → (l.map szN).sum ≤ 16 * l.length := by
    intro l hl
    induction l with
    | nil => simp
    | cons d l ih =>
      have h1 := ih fun x hx => hl x (List.mem_cons_of_mem _ hx)
      have h2 := hl d (List.mem_cons_self ..)
      have h3 := Int.emod_lt_of_pos d.more (show (0 : Int) < 4 by omega)
      have h4 := Int.emod_nonneg d.more (show (4 : Int) ≠ 0 by omega)
      have h5 : szN d ≤ 16 := by
        unfold szN
        generalize d.more % 4 = t at *
        omega
      rw [List.map_cons, List.sum_cons, List.length_cons]
      omega
  have h1 := key (ds.take n) fun d hd => he d (List.mem_of_mem_take hd)
  rw [List.length_take] at h1
  omega
theorem good_inr {obs : List Ob} {r : Int} (h : astrayO obs r = false) (hm : (flat obs).length ≤ 65536) : InR r := by
  unfold InR
  rcases live_astray h with rfl | ⟨pre, o, post, e, e2, -⟩
  · omega
  · have : (flat obs).length = (flat pre).length + (1 + o.2.length) + (flat post).length := by rw [e, flat_append, flat_cons]; simp; omega
    omega
end Go.Proofs.YtklhdilbmpndkaaGreat
