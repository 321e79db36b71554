/- Of a list of objects, what stays (pure), and the law's Stays. Where what stays goes: plain facts. -/
import Derived.Test.YtklhdilbmpndkaaGreatRgO
namespace Go.Proofs.YtklhdilbmpndkaaGreat
set_option maxRecDepth 20000
open Go.RowKit
set_option linter.unusedVariables false
set_option linter.unusedSimpArgs false

theorem kdiv_le {top W : Nat} (h1 : 1 ≤ W) (h2 : top ≤ 65536) (h3 : W ≤ 65536) : (top + W - 1) / W ≤ 65536 := by
  rcases Nat.eq_zero_or_pos top with h0 | h0
  · rw [h0, Nat.zero_add]
    have := Nat.div_le_self (W - 1) W
    omega
  · have h1 : (top + W - 1) / W ≤ top := by
      rw [Nat.div_le_iff_le_mul_add_pred (by omega)]
      have : top ≤ W * top := Nat.le_mul_of_pos_left top (by omega)
      omega
    omega
theorem len_sum (L : List (Nat × Ob)) : L.length ≤ sumL L := by
  induction L with
  | nil => exact Nat.le_refl _
  | cons x l ih => show l.length + 1 ≤ 1 + x.2.2.length + sumL l; omega
theorem stay_live (f : Nat → Bool) (n k : Nat) (L : List (Nat × Ob)) : (stayR f n k L).length ≤ liveR f n k L := by
  unfold stayR liveR
  rw [List.length_map]
  exact len_sum _
theorem stay_at {f : Nat → Bool} {n k : Nat} {L : List (Nat × Ob)} {z : Int} (h : z ∈ stayR f n k L) : ∃ a : Nat, z = (a : Int) ∧ a / n = k ∧ ∃ o, (a, o) ∈ L := by
  unfold stayR inR at h
  obtain ⟨x, hx, rfl⟩ := List.mem_map.1 h
  obtain ⟨h1, h2⟩ := List.mem_filter.1 hx
  simp only [Bool.and_eq_true, decide_eq_true_eq] at h2
  exact ⟨x.1, rfl, h2.2, x.2, h1⟩
theorem adr_lt : ∀ {a : Nat} {obs : List Ob} {x : Nat × Ob}, x ∈ adr a obs → x.1 < a + (flat obs).length
  | _, [], x, h => by simp [adr] at h
  | a, o :: l, x, h => by
    rw [adr] at h
    rw [flat_cons]
    rcases List.mem_cons.1 h with rfl | h
    · simp
    · have := adr_lt h
      simp at this ⊢; omega
theorem adr_ge : ∀ {a : Nat} {obs : List Ob} {x : Nat × Ob}, x ∈ adr a obs → a ≤ x.1
  | _, [], x, h => by simp [adr] at h
  | a, o :: l, x, h => by
    rw [adr] at h
    rcases List.mem_cons.1 h with rfl | h
    · exact Nat.le_refl _
    · have := adr_ge h
      omega
theorem stay_at2 {f : Nat → Bool} {n k : Nat} {L : List (Nat × Ob)} {z : Int} (h : z ∈ stayR f n k L) : ∃ a : Nat, z = (a : Int) ∧ ∃ o, (a, o) ∈ L ∧ keepB f (a, o) = true := by
  unfold stayR inR at h
  obtain ⟨x, hx, rfl⟩ := List.mem_map.1 h
  obtain ⟨h1, h2⟩ := List.mem_filter.1 hx
  simp only [Bool.and_eq_true, decide_eq_true_eq] at h2
  exact ⟨x.1, rfl, x.2, h1, h2.1⟩
theorem sumL_imp {p q : Nat × Ob → Bool} : ∀ (L : List (Nat × Ob)), (∀ x ∈ L, p x = true → q x = true) → sumL (L.filter p) ≤ sumL (L.filter q)
  | [], _ => Nat.le_refl _
  | x :: L, h => by
    have ih := sumL_imp L fun y hy => h y (List.mem_cons_of_mem _ hy)
    have hx := h x (List.mem_cons_self ..)
    have hc : ∀ M, sumL (x :: M) = 1 + x.2.2.length + sumL M := fun _ => rfl
    rw [List.filter_cons, List.filter_cons]
    cases hp : p x with
    | true => rw [if_pos rfl, if_pos (hx hp), hc, hc]; omega
    | false =>
      rw [if_neg (by simp)]
      split
      · rw [hc]; omega
      · exact ih
/-- What lies ahead of an object has room there. -/
theorem ahead_le : ∀ {b : Nat} {obs : List Ob} {a : Nat} {o : Ob}, (a, o) ∈ adr b obs → sumL ((adr b obs).filter fun x => decide (x.1 < a)) + b ≤ a
  | _, [], _, _, h => by simp [adr] at h
  | b, o' :: l, a, o, h => by
    have hc : ∀ M, sumL ((b, o') :: M) = 1 + o'.2.length + sumL M := fun _ => rfl
    rw [adr] at h ⊢
    rw [List.filter_cons]
    rcases List.mem_cons.1 h with e | h
    · injection e with e1 e2
      subst e1
      rw [if_neg (by simp)]
      have h0 : ((adr (a + 1 + o'.2.length) l).filter fun x => decide (x.1 < a)) = [] := by
        rw [List.filter_eq_nil_iff]
        intro y hy
        have := adr_ge hy
        simp; omega
      rw [h0]
      have : sumL [] = 0 := rfl
      omega
    · have h1 := adr_ge h
      have h2 := ahead_le h
      simp only at h1
      rw [if_pos (by simp; omega), hc]
      omega
/-- All that stays, in regions of any size. -/
theorem in_all (f : Nat → Bool) {n top : Nat} {L : List (Nat × Ob)} (hn : 1 ≤ n) (h : ∀ x ∈ L, x.1 < top) : firstR f n L ((top + n - 1) / n) = sumL (L.filter (keepB f)) := by
  rw [first_sum]
  congr 1
  refine List.filter_congr fun x hx => ?_
  have h0 := h x hx
  have h1 : x.1 / n < (top + n - 1) / n := by
    rw [Nat.div_lt_iff_lt_mul (by omega), Nat.mul_comm]
    have h2 := Nat.div_add_mod (top + n - 1) n
    have h3 := Nat.mod_lt (top + n - 1) (show n > 0 by omega)
    omega
  simp [h1]
theorem adr_at : ∀ {a : Nat} {obs : List Ob} {i : Nat} {o : Ob}, obs[i]? = some o → (adr a obs)[i]? = some (a + atI obs i, o)
  | _, [], i, o, h => by simp at h
  | a, x :: l, 0, o, h => by simp at h; subst h; simp [adr, atI_zero]
  | a, x :: l, i + 1, o, h => by
    simp at h
    rw [adr, List.getElem?_cons_succ, adr_at h]
    have e : atI (x :: l) (i + 1) = 1 + x.2.length + atI l i := by
      unfold atI; rw [List.take_succ_cons, flat_cons]; simp; omega
    rw [e]; congr 2; omega
theorem adr_len : ∀ (a : Nat) (obs : List Ob), (adr a obs).length = obs.length
  | _, [] => rfl
  | a, o :: l => by rw [adr, List.length_cons, adr_len, List.length_cons]
theorem take_more {L : List (Nat × Ob)} {i : Nat} {x : Nat × Ob} (h : L[i]? = some x) : L.take (i + 1) = L.take i ++ [x] := by
  obtain ⟨hi, e⟩ := List.getElem?_eq_some_iff.1 h
  rw [← List.take_append_getElem hi, e]
theorem live_le (f : Nat → Bool) (n k : Nat) (obs : List Ob) (i : Nat) : liveR f n k ((adr 0 obs).take i) ≤ (flat obs).length := by
  unfold liveR inR
  have h1 := sumL_filter (fun x => keepB f x && decide (x.1 / n = k)) ((adr 0 obs).take i)
  have h2 := sumL_append ((adr 0 obs).take i) ((adr 0 obs).drop i)
  rw [List.take_append_drop, sumL_adr] at h2
  omega
end Go.Proofs.YtklhdilbmpndkaaGreat

namespace Go.Proofs.YtklhdilbmpndkaaGreat
set_option maxRecDepth 20000
open Go.RowKit
set_option linter.unusedVariables false
set_option linter.unusedSimpArgs false

/-- What lies ahead, in its region, of what begins at p. -/
def valR (f : Nat → Bool) (n : Nat) (L : List (Nat × Ob)) (p : Nat) : Nat := sumL (L.filter fun x => keepB f x && decide (x.1 / n = p / n) && decide (x.1 < p))
/-- Something that stays begins at p. -/
def isK (f : Nat → Bool) (L : List (Nat × Ob)) (p : Nat) : Bool := L.any fun x => keepB f x && decide (x.1 = p)
/-- All that stays ahead of p. -/
def goS (f : Nat → Bool) (L : List (Nat × Ob)) (p : Nat) : Nat := sumL (L.filter fun x => keepB f x && decide (x.1 < p))
/-- A row with a number for each place of a set, and -1 for all others. -/
def rowV (v : Nat → Nat) (D : Nat → Bool) (top : Nat) : List Int := (List.range top).map fun p => if D p then (v p : Int) else -1

section
variable {v : Nat → Nat} {D E : Nat → Bool} {top p : Nat}
theorem rowV_len : (rowV v D top).length = top := by simp [rowV]
theorem rowV_at (hp : p < top) : (rowV v D top)[p]? = some (if D p then (v p : Int) else -1) := by simp [rowV, hp]
theorem rowV_get (hp : p < top) : (rowV v D top).getD p 0 = if D p then (v p : Int) else -1 := by rw [List.getD_eq_getElem?_getD, rowV_at hp]; rfl
theorem rowV_set (hp : p < top) (n : Nat) (hn : n = v p) : (rowV v D top).set p (n : Nat) = rowV v (fun q => D q || decide (q = p)) top := by
  subst hn
  refine List.ext_getElem? fun i => ?_
  by_cases hi : p = i
  · subst hi
    rw [List.getElem?_set_self (by rw [rowV_len]; exact hp), rowV_at hp]; simp
  · rw [List.getElem?_set_ne hi]
    by_cases h2 : i < top
    · rw [rowV_at h2, rowV_at h2]
      have : decide (i = p) = false := by simp; omega
      simp [this]
    · rw [List.getElem?_eq_none (by rw [rowV_len]; omega), List.getElem?_eq_none (by rw [rowV_len]; omega)]
theorem rowV_congr (h : ∀ p, p < top → D p = E p) : rowV v D top = rowV v E top := by
  unfold rowV
  exact List.map_congr_left fun p hp => by rw [h p (by simpa using hp)]
theorem rowV_none : rowV v (fun _ => false) top = List.replicate top (-1) := by
  refine List.ext_getElem? fun i => ?_
  by_cases h2 : i < top
  · rw [rowV_at h2]; simp [h2]
  · rw [List.getElem?_eq_none (by rw [rowV_len]; omega), List.getElem?_eq_none (by simp; omega)]
end

theorem sumL_split {a b c : Nat × Ob → Bool} : ∀ (L : List (Nat × Ob)), (∀ x ∈ L, c x = (a x || b x) ∧ (a x && b x) = false) → sumL (L.filter a) + sumL (L.filter b) = sumL (L.filter c)
  | [], _ => rfl
  | x :: L, h => by
    have ih := sumL_split L fun y hy => h y (List.mem_cons_of_mem _ hy)
    obtain ⟨h1, h2⟩ := h x (List.mem_cons_self ..)
    have hc : ∀ M, sumL (x :: M) = 1 + x.2.2.length + sumL M := fun _ => rfl
    rw [List.filter_cons, List.filter_cons, List.filter_cons, h1]
    cases ha : a x with
    | true =>
      have hb : b x = false := by rw [ha] at h2; simpa using h2
      rw [hb, if_pos rfl, if_neg (by simp), if_pos (by simp), hc, hc]; omega
    | false =>
      cases hb : b x with
      | true => rw [if_neg (by simp), if_pos rfl, if_pos (by simp), hc, hc]; omega
      | false => rw [if_neg (by simp), if_neg (by simp), if_neg (by simp)]; exact ih

section
variable {f : Nat → Bool} {n k p : Nat} {L : List (Nat × Ob)}
theorem go_sum : firstR f n L (p / n) + valR f n L p = goS f L p := by
  rw [first_sum]
  unfold valR goS
  refine sumL_split L fun x _ => ?_
  cases hk : keepB f x with
  | false => simp
  | true =>
    simp only [Bool.true_and]
    by_cases h : x.1 < p
    · have h1 := Nat.div_le_div_right (c := n) (Nat.le_of_lt h)
      rcases Nat.lt_or_eq_of_le h1 with h2 | h2
      · have h3 : ¬ x.1 / n = p / n := by omega
        simp [h, h2, h3]
      · simp [h, h2]
    · have h1 := Nat.div_le_div_right (c := n) (Nat.le_of_not_lt h)
      have h2 : ¬ x.1 / n < p / n := by omega
      simp [h, h2]
theorem adr_sorted : ∀ (a : Nat) (obs : List Ob), (adr a obs).Pairwise fun x y => x.1 < y.1
  | _, [] => by simp [adr]
  | a, o :: l => by
    rw [adr]
    refine List.Pairwise.cons (fun y hy => ?_) (adr_sorted _ l)
    have := adr_ge hy
    simp only; omega
theorem filter_take : ∀ {M : List (Nat × Ob)}, (M.Pairwise fun x y => x.1 < y.1) → ∀ {j : Nat} {x : Nat × Ob}, M[j]? = some x → (M.filter fun y => decide (y.1 < x.1)) = M.take j
  | [], _, j, x, h => by simp at h
  | y :: M, hs, 0, x, h => by
    simp at h; subst h
    rw [List.pairwise_cons] at hs
    rw [List.take_zero, List.filter_eq_nil_iff]
    intro z hz
    rcases List.mem_cons.1 hz with rfl | hz
    · simp
    · have := hs.1 z hz; simp; omega
  | y :: M, hs, j + 1, x, h => by
    rw [List.getElem?_cons_succ] at h
    rw [List.pairwise_cons] at hs
    have h1 := hs.1 x (List.mem_of_getElem? h)
    rw [List.filter_cons, if_pos (by simpa using h1), filter_take hs.2 h, List.take_succ_cons]
theorem val_take (hs : L.Pairwise fun x y => x.1 < y.1) {j : Nat} {x : Nat × Ob} (h : (inR f n k L)[j]? = some x) : valR f n L x.1 = sumL ((inR f n k L).take j) := by
  have hx := List.mem_of_getElem? h
  unfold inR at hx
  rw [List.mem_filter] at hx
  simp only [Bool.and_eq_true, decide_eq_true_eq] at hx
  rw [← filter_take (show (inR f n k L).Pairwise _ from hs.filter _) h]
  unfold valR inR
  rw [List.filter_filter]
  congr 1
  refine List.filter_congr fun y _ => ?_
  rw [hx.2.2, Bool.and_comm]
theorem go_take (hs : L.Pairwise fun x y => x.1 < y.1) {j : Nat} {x : Nat × Ob} (h : L[j]? = some x) : goS f L x.1 = sumL ((L.take j).filter (keepB f)) := by
  rw [← filter_take hs h, List.filter_filter]
  rfl
theorem adr_uniq : ∀ {L : List (Nat × Ob)}, (L.Pairwise fun x y => x.1 < y.1) → ∀ {x y : Nat × Ob}, x ∈ L → y ∈ L → x.1 = y.1 → x = y
  | [], _, _, _, h, _, _ => by simp at h
  | z :: L, hs, x, y, hx, hy, e => by
    rw [List.pairwise_cons] at hs
    rcases List.mem_cons.1 hx with e1 | h1
    · rcases List.mem_cons.1 hy with e2 | h2
      · rw [e1, e2]
      · have := hs.1 y h2; rw [← e1] at this; omega
    · rcases List.mem_cons.1 hy with e2 | h2
      · have := hs.1 x h1; rw [← e2] at this; omega
      · exact adr_uniq hs.2 h1 h2 e
theorem isK_at (hs : L.Pairwise fun x y => x.1 < y.1) {x : Nat × Ob} (h : x ∈ L) : isK f L x.1 = keepB f x := by
  unfold isK
  cases hk : keepB f x with
  | true => rw [List.any_eq_true]; exact ⟨x, h, by simp [hk]⟩
  | false =>
    rw [List.any_eq_false]
    intro y hy
    simp only [Bool.and_eq_true, decide_eq_true_eq, not_and]
    intro h1 h2
    have : y = x := adr_uniq hs hy h h2
    rw [this, hk] at h1; cases h1
theorem isK_more (L : List (Nat × Ob)) (x : Nat × Ob) (p : Nat) : isK f (L ++ [x]) p = (isK f L p || (keepB f x && decide (x.1 = p))) := by simp [isK]
theorem isK_nil (p : Nat) : isK f [] p = false := rfl
theorem isK_lt {a : Nat} {obs : List Ob} (h : isK f (adr a obs) p = true) : p < a + (flat obs).length ∧ ∃ o, (p, o) ∈ adr a obs ∧ keepB f (p, o) = true := by
  unfold isK at h
  rw [List.any_eq_true] at h
  obtain ⟨⟨a', o⟩, h1, h2⟩ := h
  simp only [Bool.and_eq_true, decide_eq_true_eq] at h2
  obtain ⟨h2, rfl⟩ := h2
  exact ⟨adr_lt h1, o, h1, h2⟩
/-- What was gone through: all regions ahead of one, and some of that one. -/
def dk (f : Nat → Bool) (n : Nat) (L : List (Nat × Ob)) (k : Nat) (M : List (Nat × Ob)) (p : Nat) : Bool := (isK f L p && decide (p / n < k)) || M.any fun x => decide (x.1 = p)
theorem dk_zero : dk f n L 0 [] = fun _ => false := by funext p; simp [dk]
theorem dk_more (M : List (Nat × Ob)) (x : Nat × Ob) : dk f n L k (M ++ [x]) = fun p => dk f n L k M p || decide (p = x.1) := by
  funext p
  have e : decide (x.1 = p) = decide (p = x.1) := by simp [eq_comm]
  simp [dk, Bool.or_assoc, e]
theorem dk_next : dk f n L k (inR f n k L) = dk f n L (k + 1) [] := by
  funext p
  rw [Bool.eq_iff_iff]
  simp only [dk, isK, inR, Bool.or_eq_true, Bool.and_eq_true, List.any_eq_true, List.mem_filter, decide_eq_true_eq, List.not_mem_nil, false_and, exists_false, or_false]
  constructor
  · rintro (⟨⟨x, h1, h2, h3⟩, h4⟩ | ⟨x, ⟨h1, h2, h3⟩, h4⟩)
    · exact ⟨⟨x, h1, h2, h3⟩, by omega⟩
    · exact ⟨⟨x, h1, h2, h4⟩, by rw [← h4, h3]; omega⟩
  · rintro ⟨⟨x, h1, h2, h3⟩, h4⟩
    by_cases h5 : p / n < k
    · exact Or.inl ⟨⟨x, h1, h2, h3⟩, h5⟩
    · exact Or.inr ⟨x, ⟨h1, h2, by rw [h3]; omega⟩, h3⟩
theorem dk_end {top : Nat} (hn : 1 ≤ n) (hp : p < top) : dk f n L ((top + n - 1) / n) [] p = isK f L p := by
  have h1 : p / n < (top + n - 1) / n := by
    rw [Nat.div_lt_iff_lt_mul (by omega), Nat.mul_comm]
    have h2 := Nat.div_add_mod (top + n - 1) n
    have h3 := Nat.mod_lt (top + n - 1) (show n > 0 by omega)
    omega
  simp [dk, h1]
theorem go_le {obs : List Ob} (h : isK f (adr 0 obs) p = true) : goS f (adr 0 obs) p ≤ p := by
  obtain ⟨_, o, h1, _⟩ := isK_lt h
  have h2 := ahead_le h1
  have h3 := sumL_imp (p := fun x => keepB f x && decide (x.1 < p)) (q := fun x => decide (x.1 < p)) (adr 0 obs) fun x _ hx => by
    simp only [Bool.and_eq_true] at hx; exact hx.2
  unfold goS
  omega
theorem in_take_le (j : Nat) : sumL ((inR f n k L).take j) ≤ sumL L := by
  have h1 := sumL_append ((inR f n k L).take j) ((inR f n k L).drop j)
  rw [List.take_append_drop] at h1
  have h2 : sumL (inR f n k L) ≤ sumL L := sumL_filter _ _
  omega
theorem keep_take_le (j : Nat) : sumL ((L.take j).filter (keepB f)) ≤ sumL L := by
  have h1 := sumL_append (L.take j) (L.drop j)
  rw [List.take_append_drop] at h1
  have h2 := sumL_filter (keepB f) (L.take j)
  omega
theorem keep_more (M : List (Nat × Ob)) (x : Nat × Ob) : sumL ((M ++ [x]).filter (keepB f)) = sumL (M.filter (keepB f)) + if keepB f x then 1 + x.2.2.length else 0 := by
  rw [List.filter_append, sumL_append]
  cases h : keepB f x with
  | true => rw [List.filter_cons, if_pos h, if_pos rfl]; rfl
  | false => rw [List.filter_cons, if_neg (by simp [h]), if_neg (by simp)]; rfl
end
end Go.Proofs.YtklhdilbmpndkaaGreat
