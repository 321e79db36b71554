/- Shares of numbers that aren't great are ordered as fractions are. Plain facts. -/
import Derived.Test.YtphiimgfbigogaaSignsW
namespace Go.Proofs.Ytphiimgfbigogaa
open Ieee Go.RowKit
set_option linter.unusedVariables false

/-- A share's place in the order of numbers. -/
def shP (x y : Int) : Int := if x = 0 then 0 else pm (decide (x < 0) ^^ decide (y < 0)) (rungQ x.natAbs y.natAbs)

theorem shP_word {x y : Int} (hy : y ≠ 0) (hx2 : x.natAbs < 1048576) (hy2 : y.natAbs < 1048576) : ∃ r, shareW x y = some r ∧ r < 18446744073709551616 ∧ nanB r = false ∧ place r = shP x y := by
  unfold shP
  by_cases hx : x = 0
  · subst hx
    refine ⟨_, share_0 hy (by omega), word_64 _ (by omega), word_nan (by omega) _, ?_⟩
    rw [if_pos rfl, zero_place]
  · obtain ⟨b1, b2⟩ := rung_bd (m := x.natAbs) (n := y.natAbs) (by omega) (by omega) (by omega) (by omega)
    refine ⟨_, share_rung hx hy (by omega) (by omega), word_64 _ (by omega), word_nan b2 _, ?_⟩
    rw [if_neg hx, word_place b2]

theorem shP_neg {x y : Int} (hy : y ≠ 0) : shP (-x) (-y) = shP x y := by
  unfold shP
  by_cases hx : x = 0
  · rw [hx, Int.neg_zero, if_pos rfl, if_pos rfl]
  · rw [if_neg hx, if_neg (by omega), Int.natAbs_neg, Int.natAbs_neg]
    congr 1
    by_cases s1 : x < 0 <;> by_cases s2 : y < 0
    · simp [s1, s2, show ¬ 0 < x by omega, show ¬ 0 < y by omega]
    · simp [s1, s2, show ¬ 0 < x by omega, show 0 < y by omega]
    · simp [s1, s2, show 0 < x by omega, show ¬ 0 < y by omega]
    · simp [s1, s2, show 0 < x by omega, show 0 < y by omega]

theorem nat_mul_lt {m v u n : Nat} : ((m : Int) * v < (u : Int) * n ↔ m * v < u * n) ∧ ((m : Int) * v = (u : Int) * n ↔ m * v = u * n) := by
  refine ⟨?_, ?_⟩ <;> (rw [← Int.natCast_mul, ← Int.natCast_mul]; omega)

theorem rung_iff {m n u v : Nat} (m1 : 1 ≤ m) (m2 : m < 1048576) (n1 : 1 ≤ n) (n2 : n < 1048576) (u1 : 1 ≤ u) (u2 : u < 1048576) (v1 : 1 ≤ v) (v2 : v < 1048576) : (rungQ m n < rungQ u v ↔ m * v < u * n) ∧ (rungQ m n = rungQ u v ↔ m * v = u * n) := by
  have b1 : m * v < 4503599627370496 := Nat.lt_of_le_of_lt (Nat.mul_le_mul (Nat.le_of_lt m2) (Nat.le_of_lt v2)) (by decide)
  have b2 : u * n < 4503599627370496 := Nat.lt_of_le_of_lt (Nat.mul_le_mul (Nat.le_of_lt u2) (Nat.le_of_lt n2)) (by decide)
  rcases Nat.lt_trichotomy (m * v) (u * n) with h | h | h
  · have := rung_lt m1 (by omega) n1 (by omega) u1 (by omega) v1 (by omega) h b1
    omega
  · have := rung_eq m1 (by omega) n1 (by omega) u1 (by omega) v1 (by omega) h
    omega
  · have := rung_lt u1 (by omega) v1 (by omega) m1 (by omega) n1 (by omega) h b2
    omega

theorem shP_pos {m n : Nat} (m1 : 1 ≤ m) (n1 : 1 ≤ n) : shP (m : Int) (n : Int) = rungQ m n ∧ shP (-(m : Int)) (n : Int) = -rungQ m n := by
  unfold shP
  refine ⟨?_, ?_⟩
  · rw [if_neg (by omega), Int.natAbs_natCast, Int.natAbs_natCast, show decide ((m : Int) < 0) = false from decide_eq_false (by omega), show decide ((n : Int) < 0) = false from decide_eq_false (by omega)]
    rfl
  · rw [if_neg (by omega), Int.natAbs_neg, Int.natAbs_natCast, Int.natAbs_natCast, show decide (-(m : Int) < 0) = true from decide_eq_true (by omega), show decide ((n : Int) < 0) = false from decide_eq_false (by omega)]
    rfl
theorem shP_0 (y : Int) : shP 0 y = 0 := by unfold shP; rw [if_pos rfl]

theorem three (x : Int) : x = 0 ∨ (∃ m : Nat, 1 ≤ m ∧ x = m) ∨ (∃ m : Nat, 1 ≤ m ∧ x = -(m : Int)) := by
  rcases Int.lt_trichotomy x 0 with h | h | h
  · exact .inr (.inr ⟨x.natAbs, by omega, by omega⟩)
  · exact .inl h
  · exact .inr (.inl ⟨x.natAbs, by omega, by omega⟩)
theorem two {y : Int} (hy : y ≠ 0) (hy2 : y.natAbs < 1048576) : (∃ n : Nat, 1 ≤ n ∧ n < 1048576 ∧ y = n) ∨ (∃ n : Nat, 1 ≤ n ∧ n < 1048576 ∧ y = -(n : Int)) := by
  rcases Int.lt_trichotomy y 0 with h | h | h
  · exact .inr ⟨y.natAbs, by omega, by omega, by omega⟩
  · exact absurd h hy
  · exact .inl ⟨y.natAbs, by omega, by omega, by omega⟩
/-- Below denominators above 0. -/
theorem shP_above {x z : Int} {n v : Nat} (hx : x.natAbs < 1048576) (hz : z.natAbs < 1048576) (n1 : 1 ≤ n) (n2 : n < 1048576) (v1 : 1 ≤ v) (v2 : v < 1048576) :
    (shP x n < shP z v ↔ x * v < z * n) ∧ (shP x n = shP z v ↔ x * v = z * n) := by
  have hx' := three x
  have hz' := three z
  have pos : ∀ m k : Nat, 1 ≤ m → 1 ≤ k → 0 < (m : Int) * k := fun m k h1 h2 => Int.mul_pos (by omega) (by omega)
  have rp : ∀ m k : Nat, 1 ≤ m → m < 1048576 → 1 ≤ k → k < 1048576 → 0 < (rungQ m k : Int) := fun m k a b c d => by
    have := (rung_bd (m := m) (n := k) a (by omega) c (by omega)).1; omega
  rcases hx' with rfl | ⟨m, m1, rfl⟩ | ⟨m, m1, rfl⟩ <;> rcases hz' with rfl | ⟨u, u1, rfl⟩ | ⟨u, u1, rfl⟩
  · rw [shP_0, shP_0, Int.zero_mul, Int.zero_mul]; simp
  · have := pos u n u1 n1
    have := rp u v u1 (by omega) v1 v2
    rw [shP_0, (shP_pos u1 v1).1, Int.zero_mul]; omega
  · have := pos u n u1 n1
    have := rp u v u1 (by omega) v1 v2
    rw [shP_0, (shP_pos u1 v1).2, Int.zero_mul, Int.neg_mul]; omega
  · have := pos m v m1 v1
    have := rp m n m1 (by omega) n1 n2
    rw [shP_0, (shP_pos m1 n1).1, Int.zero_mul]; omega
  · have h := rung_iff m1 (by omega) n1 n2 u1 (by omega) v1 v2
    have k := @nat_mul_lt m v u n
    rw [(shP_pos m1 n1).1, (shP_pos u1 v1).1, k.1, k.2]; omega
  · have := pos m v m1 v1
    have := pos u n u1 n1
    have := rp m n m1 (by omega) n1 n2
    have := rp u v u1 (by omega) v1 v2
    rw [(shP_pos m1 n1).1, (shP_pos u1 v1).2, Int.neg_mul]; omega
  · have := pos m v m1 v1
    have := rp m n m1 (by omega) n1 n2
    rw [shP_0, (shP_pos m1 n1).2, Int.zero_mul, Int.neg_mul]; omega
  · have := pos m v m1 v1
    have := pos u n u1 n1
    have := rp m n m1 (by omega) n1 n2
    have := rp u v u1 (by omega) v1 v2
    rw [(shP_pos m1 n1).2, (shP_pos u1 v1).1, Int.neg_mul]; omega
  · have h := rung_iff u1 (by omega) v1 v2 m1 (by omega) n1 n2
    have h' := rung_iff m1 (by omega) n1 n2 u1 (by omega) v1 v2
    have k := @nat_mul_lt u n m v
    have k' := @nat_mul_lt m v u n
    rw [(shP_pos m1 n1).2, (shP_pos u1 v1).2, Int.neg_mul, Int.neg_mul]
    have e1 : -((m : Int) * v) < -((u : Int) * n) ↔ u * n < m * v := by rw [← k.1]; omega
    have e2 : -((m : Int) * v) = -((u : Int) * n) ↔ m * v = u * n := by rw [← k'.2]; omega
    rw [e1, e2]; omega

/-- The order of two shares, and of the products that the statement makes. -/
theorem shP_order {x y z w : Int} (hy : y ≠ 0) (hw : w ≠ 0) (hx2 : x.natAbs < 1048576) (hy2 : y.natAbs < 1048576) (hz2 : z.natAbs < 1048576) (hw2 : w.natAbs < 1048576) :
    ((decide (y < 0) != decide (w < 0)) = true → ((shP x y < shP z w ↔ -(x * w) < -(z * y)) ∧ (shP x y = shP z w ↔ -(x * w) = -(z * y)))) ∧
    ((decide (y < 0) != decide (w < 0)) = false → ((shP x y < shP z w ↔ x * w < z * y) ∧ (shP x y = shP z w ↔ x * w = z * y))) := by
  have hy' := two hy hy2
  have hw' := two hw hw2
  rcases hy' with ⟨n, n1, n2, rfl⟩ | ⟨n, n1, n2, rfl⟩ <;> rcases hw' with ⟨v, v1, v2, rfl⟩ | ⟨v, v1, v2, rfl⟩
  · have k := shP_above hx2 hz2 n1 n2 v1 v2
    rw [show decide ((n : Int) < 0) = false from decide_eq_false (by omega), show decide ((v : Int) < 0) = false from decide_eq_false (by omega)]
    exact ⟨fun h => (by cases h), fun _ => k⟩
  · have k := shP_above (x := x) (z := -z) hx2 (by omega) n1 n2 v1 v2
    have e : shP z (-(v : Int)) = shP (-z) v := by
      have := shP_neg (x := -z) (y := (v : Int)) (by omega); rw [Int.neg_neg] at this; exact this
    rw [show decide ((n : Int) < 0) = false from decide_eq_false (by omega), show decide (-(v : Int) < 0) = true from decide_eq_true (by omega), e]
    refine ⟨fun _ => ?_, fun h => (by cases h)⟩
    rw [Int.mul_neg, Int.neg_neg]
    rw [Int.neg_mul] at k
    exact k
  · have k := shP_above (x := -x) (z := z) (by omega) hz2 n1 n2 v1 v2
    have e : shP x (-(n : Int)) = shP (-x) n := by
      have := shP_neg (x := -x) (y := (n : Int)) (by omega); rw [Int.neg_neg] at this; exact this
    rw [show decide (-(n : Int) < 0) = true from decide_eq_true (by omega), show decide ((v : Int) < 0) = false from decide_eq_false (by omega), e]
    refine ⟨fun _ => ?_, fun h => (by cases h)⟩
    rw [Int.mul_neg z, Int.neg_neg]
    rw [Int.neg_mul] at k
    exact k
  · have k := shP_above (x := -x) (z := -z) (by omega) (by omega) n1 n2 v1 v2
    have e : shP x (-(n : Int)) = shP (-x) n := by
      have := shP_neg (x := -x) (y := (n : Int)) (by omega); rw [Int.neg_neg] at this; exact this
    have e' : shP z (-(v : Int)) = shP (-z) v := by
      have := shP_neg (x := -z) (y := (v : Int)) (by omega); rw [Int.neg_neg] at this; exact this
    rw [show decide (-(n : Int) < 0) = true from decide_eq_true (by omega), show decide (-(v : Int) < 0) = true from decide_eq_true (by omega), e, e']
    refine ⟨fun h => (by cases h), fun _ => ?_⟩
    rw [Int.mul_neg, Int.mul_neg]
    rw [Int.neg_mul, Int.neg_mul] at k
    exact k
theorem shP_zero {x y : Int} (hy : y ≠ 0) (hx2 : x.natAbs < 1048576) (hy2 : y.natAbs < 1048576) : shP x y = 0 ↔ x = 0 := by
  refine ⟨fun h => ?_, fun h => by rw [h, shP_0]⟩
  by_cases hx : x = 0
  · exact hx
  · unfold shP at h
    rw [if_neg hx] at h
    have := (rung_bd (m := x.natAbs) (n := y.natAbs) (by omega) (by omega) (by omega) (by omega)).1
    generalize rungQ x.natAbs y.natAbs = R at *
    unfold pm at h
    split at h <;> omega
end Go.Proofs.Ytphiimgfbigogaa
