/- Of RegionSame: what lies ahead of a region (pure). -/
import Derived.Test.YthjbechbioeglaaAllsW
namespace Go.Proofs.Ythjbechbioeglaa
open Go.RowKit
set_option linter.unusedVariables false
set_option linter.unusedSimpArgs false

theorem sumL_imp {p q : Nat × Ob → Bool} : ∀ (L : List (Nat × Ob)), (∀ x ∈ L, p x = true → q x = true) → sumL (L.filter p) ≤ sumL (L.filter q)
  | [], _ => Nat.le_refl _
  | x :: L, h => by
    have ih := sumL_imp L fun y hy => h y (List.mem_cons_of_mem _ hy)
    have hx := h x (List.mem_cons_self ..)
    have hc : ∀ M, sumL (x :: M) = 1 + x.2.2.length + sumL M := fun _ => rfl
    rw [List.filter_cons, List.filter_cons]
    cases hp : p x with
    | true => rw [if_pos rfl, if_pos (hx hp), hc, hc]; omega
    | false =>
      rw [if_neg (by simp)]
      split
      · rw [hc]; omega
      · exact ih
/-- What lies ahead of an object has room there. -/
theorem ahead_le : ∀ {b : Nat} {obs : List Ob} {a : Nat} {o : Ob}, (a, o) ∈ adr b obs → sumL ((adr b obs).filter fun x => decide (x.1 < a)) + b ≤ a
  | _, [], _, _, h => by simp [adr] at h
  | b, o' :: l, a, o, h => by
    have hc : ∀ M, sumL ((b, o') :: M) = 1 + o'.2.length + sumL M := fun _ => rfl
    rw [adr] at h ⊢
    rw [List.filter_cons]
    rcases List.mem_cons.1 h with e | h
    · injection e with e1 e2
      subst e1
      rw [if_neg (by simp)]
      have h0 : ((adr (a + 1 + o'.2.length) l).filter fun x => decide (x.1 < a)) = [] := by
        rw [List.filter_eq_nil_iff]
        intro y hy
        have := adr_ge hy
        simp; omega
      rw [h0]
      have : sumL [] = 0 := rfl
      omega
    · have h1 := adr_ge h
      have h2 := ahead_le h
      simp only at h1
      rw [if_pos (by simp; omega), hc]
      omega
/-- A region goes nowhere behind the first that stays in it. -/
theorem first_le_stay {f : Nat → Bool} {n k : Nat} {obs : List Ob} {a : Nat} (h : (a : Int) ∈ stayR f n k (adr 0 obs)) : firstR f n (adr 0 obs) k ≤ a := by
  obtain ⟨a', e, hk, o, ho⟩ := stay_at h
  have e2 : a' = a := by omega
  subst e2
  rw [first_sum]
  have h1 := ahead_le ho
  have h2 := sumL_imp (p := fun x => keepB f x && decide (x.1 / n < k)) (q := fun x => decide (x.1 < a')) (adr 0 obs) fun x _ hx => by
    simp only [Bool.and_eq_true, decide_eq_true_eq] at hx ⊢
    rw [← hk] at hx
    exact Nat.lt_of_not_le fun hle => absurd hx.2 (Nat.not_lt.2 (Nat.div_le_div_right hle))
  omega
/-- All that stays, in regions of any size. -/
theorem in_all (f : Nat → Bool) {n top : Nat} {L : List (Nat × Ob)} (hn : 1 ≤ n) (h : ∀ x ∈ L, x.1 < top) : firstR f n L ((top + n - 1) / n) = sumL (L.filter (keepB f)) := by
  rw [first_sum]
  congr 1
  refine List.filter_congr fun x hx => ?_
  have h0 := h x hx
  have h1 : x.1 / n < (top + n - 1) / n := by
    rw [Nat.div_lt_iff_lt_mul (by omega), Nat.mul_comm]
    have h2 := Nat.div_add_mod (top + n - 1) n
    have h3 := Nat.mod_lt (top + n - 1) (show n > 0 by omega)
    omega
  simp [h1]
end Go.Proofs.Ythjbechbioeglaa
