/- What stays in a region, of a list of objects: plain facts. -/
import Derived.Test.YtehmcbpkhknpcaaRgS
namespace Go.Proofs.Ytehmcbpkhknpcaa
set_option maxRecDepth 20000
open Go.RowKit
set_option linter.unusedVariables false
set_option linter.unusedSimpArgs false

/-- Does it stay? -/
def keepB (f : Nat → Bool) (x : Nat × Ob) : Bool := decide (x.2.1 % 16 ≠ 15) && f x.1
/-- Those that stay and begin in a region. -/
def inR (f : Nat → Bool) (n k : Nat) (L : List (Nat × Ob)) : List (Nat × Ob) := L.filter fun x => keepB f x && decide (x.1 / n = k)
def stayR (f : Nat → Bool) (n k : Nat) (L : List (Nat × Ob)) : List Int := (inR f n k L).map fun x => (x.1 : Int)
def sumL (L : List (Nat × Ob)) : Nat := (L.map fun x => 1 + x.2.2.length).sum
def liveR (f : Nat → Bool) (n k : Nat) (L : List (Nat × Ob)) : Nat := sumL (inR f n k L)
theorem inR_more (f : Nat → Bool) (n k : Nat) (L : List (Nat × Ob)) (x : Nat × Ob) : inR f n k (L ++ [x]) = inR f n k L ++ (if keepB f x && decide (x.1 / n = k) then [x] else []) := by
  unfold inR
  rw [List.filter_append]
  congr 1
  simp [List.filter_cons]
theorem sumL_append (L M : List (Nat × Ob)) : sumL (L ++ M) = sumL L + sumL M := by simp [sumL]
theorem sumL_one (x : Nat × Ob) : sumL [x] = 1 + x.2.2.length := by simp [sumL]
theorem sumL_filter (p : Nat × Ob → Bool) : ∀ L : List (Nat × Ob), sumL (L.filter p) ≤ sumL L
  | [] => Nat.le_refl _
  | x :: L => by
    have ih := sumL_filter p L
    rw [List.filter_cons]
    split
    · show 1 + x.2.2.length + sumL (L.filter p) ≤ 1 + x.2.2.length + sumL L
      omega
    · show sumL (L.filter p) ≤ 1 + x.2.2.length + sumL L
      omega
theorem sumL_adr : ∀ (a : Nat) (obs : List Ob), sumL (adr a obs) = (flat obs).length
  | _, [] => rfl
  | a, o :: l => by
    rw [adr, flat_cons]
    show 1 + o.2.length + sumL (adr _ l) = _
    rw [sumL_adr]; simp; omega
/-- The regions, of the objects that were gone through. -/
def regsOf (l : List Reg) (f : Nat → Bool) (n K : Nat) (L : List (Nat × Ob)) : Prop := l.length = K ∧ ∀ k, k < K → ∃ x, l[k]? = some x ∧ x.row = stayR f n k L ∧ x.live = liveR f n k L ∧ x.first = 0
theorem regs_skip {l : List Reg} {f : Nat → Bool} {n K : Nat} {L : List (Nat × Ob)} {x : Nat × Ob} (h : regsOf l f n K L) (hx : keepB f x = false) : regsOf l f n K (L ++ [x]) := by
  refine ⟨h.1, fun k hk => ?_⟩
  obtain ⟨r, h1, h2, h3, h4⟩ := h.2 k hk
  have e : inR f n k (L ++ [x]) = inR f n k L := by rw [inR_more, hx]; simp
  exact ⟨r, h1, by unfold stayR; rw [e]; exact h2, by unfold liveR; rw [e]; exact h3, h4⟩
theorem regs_add {l : List Reg} {f : Nat → Bool} {n K : Nat} {L : List (Nat × Ob)} {x : Nat × Ob} (h : regsOf l f n K L) (hx : keepB f x = true) {r : Reg} (hr : l[x.1 / n]? = some r) (B : Option Addr) (cap : Nat) :
    regsOf (l.set (x.1 / n) ⟨B, cap, r.row ++ [(x.1 : Int)], r.live + (1 + x.2.2.length), r.first⟩) f n K (L ++ [x]) := by
  have hk0 : x.1 / n < l.length := (List.getElem?_eq_some_iff.1 hr).1
  refine ⟨by simpa using h.1, fun k hk => ?_⟩
  obtain ⟨y, h1, h2, h3, h4⟩ := h.2 k hk
  by_cases hkk : x.1 / n = k
  · subst hkk
    rw [hr] at h1
    injection h1 with h1
    subst h1
    have e : inR f n (x.1 / n) (L ++ [x]) = inR f n (x.1 / n) L ++ [x] := by rw [inR_more, hx]; simp
    refine ⟨_, List.getElem?_set_self hk0, ?_, ?_, h4⟩
    · show r.row ++ [(x.1 : Int)] = _
      unfold stayR
      rw [e, List.map_append, h2]; rfl
    · show r.live + (1 + x.2.2.length) = _
      unfold liveR
      rw [e, sumL_append, sumL_one, h3]; rfl
  · have e : inR f n k (L ++ [x]) = inR f n k L := by rw [inR_more, hx]; simp [hkk]
    refine ⟨y, by rw [List.getElem?_set_ne hkk]; exact h1, by unfold stayR; rw [e]; exact h2, by unfold liveR; rw [e]; exact h3, h4⟩
theorem regs_nil (K : Nat) (f : Nat → Bool) (n : Nat) : regsOf (List.replicate K ⟨none, 0, [], 0, 0⟩) f n K [] := by
  refine ⟨by simp, fun k hk => ⟨⟨none, 0, [], 0, 0⟩, by simp [hk], rfl, rfl, rfl⟩⟩
theorem stay_len (f : Nat → Bool) (n k : Nat) (L : List (Nat × Ob)) : (stayR f n k L).length ≤ L.length := by
  unfold stayR inR
  rw [List.length_map]
  exact List.length_filter_le _ _
theorem sum_bound {L : List (Nat × Ob)} (h : ∀ x ∈ L, x.2.2.length ≤ 4095) : sumL L ≤ L.length * 4096 := by
  induction L with
  | nil => simp [sumL]
  | cons x l ih =>
    have h1 := h x (by simp)
    have h2 := ih (fun y hy => h y (by simp [hy]))
    show 1 + x.2.2.length + sumL l ≤ _
    simp; omega
/-- Where a region goes. -/
def firstR (f : Nat → Bool) (n : Nat) (L : List (Nat × Ob)) : Nat → Nat
  | 0 => 0
  | k + 1 => firstR f n L k + liveR f n k L
/-- The regions, once all is reckoned for the first j of them. -/
def regsAll (l : List Reg) (f : Nat → Bool) (n K j : Nat) (L : List (Nat × Ob)) : Prop := l.length = K ∧ ∀ k, k < K → ∃ x, l[k]? = some x ∧ x.row = stayR f n k L ∧ x.live = liveR f n k L ∧ x.first = if k < j then firstR f n L k else 0
theorem regs_zero {l : List Reg} {f : Nat → Bool} {n K : Nat} {L : List (Nat × Ob)} (h : regsOf l f n K L) : regsAll l f n K 0 L :=
  ⟨h.1, fun k hk => by obtain ⟨x, h1, h2, h3, h4⟩ := h.2 k hk; exact ⟨x, h1, h2, h3, by simpa using h4⟩⟩
theorem regs_step {l : List Reg} {f : Nat → Bool} {n K j : Nat} {L : List (Nat × Ob)} (h : regsAll l f n K j L) {r : Reg} (hr : l[j]? = some r) : regsAll (l.set j { r with live := r.live, first := firstR f n L j }) f n K (j + 1) L := by
  have hj := (List.getElem?_eq_some_iff.1 hr).1
  refine ⟨by simpa using h.1, fun k hk => ?_⟩
  obtain ⟨x, h1, h2, h3, h4⟩ := h.2 k hk
  by_cases hkj : j = k
  · subst hkj
    rw [hr] at h1
    injection h1 with h1
    subst h1
    exact ⟨_, List.getElem?_set_self hj, h2, h3, by simp⟩
  · refine ⟨x, by rw [List.getElem?_set_ne hkj]; exact h1, h2, h3, ?_⟩
    rw [h4]
    by_cases hlt : k < j
    · rw [if_pos hlt, if_pos (by omega)]
    · rw [if_neg hlt, if_neg (by omega)]
/-- All that stays, whose region is ahead of one. -/
theorem first_sum (f : Nat → Bool) (n : Nat) (L : List (Nat × Ob)) : ∀ k, firstR f n L k = sumL (L.filter fun x => keepB f x && decide (x.1 / n < k))
  | 0 => by
    have : (L.filter fun x => keepB f x && decide (x.1 / n < 0)) = [] := by
      rw [List.filter_eq_nil_iff]; intro x _; simp
    rw [this]; rfl
  | k + 1 => by
    rw [firstR, first_sum f n L k]
    unfold liveR inR
    induction L with
    | nil => rfl
    | cons x l ih =>
      simp only [List.filter_cons]
      by_cases h1 : keepB f x = true
      · simp only [h1, Bool.true_and, decide_eq_true_eq]
        by_cases h2 : x.1 / n < k
        · rw [if_pos h2, if_neg (by omega), if_pos (by omega)]
          simp only [sumL, List.map_cons, List.sum_cons] at ih ⊢; omega
        · by_cases h3 : x.1 / n = k
          · rw [if_neg h2, if_pos h3, if_pos (by omega)]
            simp only [sumL, List.map_cons, List.sum_cons] at ih ⊢; omega
          · rw [if_neg h2, if_neg h3, if_neg (by omega)]
            exact ih
      · simp only [h1, Bool.false_and, Bool.false_eq_true, if_false]
        exact ih
theorem first_le (f : Nat → Bool) (n : Nat) (L : List (Nat × Ob)) (k : Nat) : firstR f n L k ≤ sumL L := by
  rw [first_sum]; exact sumL_filter _ _
end Go.Proofs.Ytehmcbpkhknpcaa
