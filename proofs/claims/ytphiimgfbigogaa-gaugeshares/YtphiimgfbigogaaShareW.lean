/- The word of a share of two whole numbers that are not great. Plain facts. -/
import Derived.Test.YtphiimgfbigogaaRatio
import Derived.Test.YtphiimgfbigogaaShare
namespace Go.Proofs.Ytphiimgfbigogaa
open Ieee Go.RowKit
set_option linter.unusedVariables false

/-- The word of a / b; none: a NaN's. -/
def shareW (a b : Int) : Option Nat := floatBits .quo .f64 (floatOfInt .f64 a) (floatOfInt .f64 b)
theorem shareW_div (a b : Int) : shareW a b = double.div (double.nearest (decide (a < 0)) a.natAbs 0) (double.nearest (decide (b < 0)) b.natAbs 0) := rfl

theorem share_rung {a b : Int} (ha : a ≠ 0) (hb : b ≠ 0) (ha2 : a.natAbs < 4294967296) (hb2 : b.natAbs < 4294967296) : shareW a b = some (double.word (decide (a < 0) ^^ decide (b < 0)) (rungQ a.natAbs b.natAbs)) := by
  rw [shareW_div]
  exact (div_rung (by omega) ha2 (by omega) hb2).1 _ _
theorem near_0 (s : Bool) : double.nearest s 0 0 = double.word s 0 := rfl
theorem read_0 : double.read (double.word false 0) = .number false 0 (-1074) := by decide
theorem share_0 {b : Int} (hb : b ≠ 0) (hb2 : b.natAbs < 4294967296) : shareW 0 b = some (double.word (decide (b < 0)) 0) := by
  rw [shareW_div]
  have hL : b.natAbs.log2 < 32 := (Nat.log2_lt (by omega)).2 hb2
  obtain ⟨r, h1, h2⟩ := read_int (decide (b < 0)) (m := b.natAbs) (by omega) rfl (by omega)
  unfold Format.div
  rw [r, show (decide ((0 : Int) < 0)) = false from rfl, show (0 : Int).natAbs = 0 from rfl, near_0, read_0]
  simp only [Datum.quotient]
  rw [if_neg (by omega)]
  simp [Format.write, Format.nearest]
theorem share_inf {a : Int} (ha : a ≠ 0) (ha2 : a.natAbs < 4294967296) : shareW a 0 = some (double.word (decide (a < 0)) 9218868437227405312) := by
  rw [shareW_div]
  have hL : a.natAbs.log2 < 32 := (Nat.log2_lt (by omega)).2 ha2
  obtain ⟨r, h1, h2⟩ := read_int (decide (a < 0)) (m := a.natAbs) (by omega) rfl (by omega)
  unfold Format.div
  rw [r, show (decide ((0 : Int) < 0)) = false from rfl, show (0 : Int).natAbs = 0 from rfl, near_0, read_0]
  simp only [Datum.quotient]
  rw [if_pos trivial, if_neg (by omega)]
  simp [Format.write, show double.infRung = 9218868437227405312 by decide]
theorem share_nan : shareW 0 0 = none := share_00

section
variable {R : Nat} (h1 : 0 < R) (h2 : R < 9218868437227405312)
theorem wordN (s : Bool) (R : Nat) : double.word s R = if s then 9223372036854775808 + R else R := by
  unfold Format.word; rw [show double.signWeight = 9223372036854775808 by decide]
theorem word_64 (s : Bool) {R : Nat} (h : R < 9223372036854775808) : double.word s R < 18446744073709551616 := by
  rw [wordN]; split <;> omega
include h1 h2 in
theorem word_class (s : Bool) : classN (double.word s R) = if s then 2 else 5 := by
  rw [wordN]; unfold classN
  cases s <;> simp only [if_true, Bool.false_eq_true, if_false] <;> (repeat' split) <;> omega
include h2 in
theorem word_nan (s : Bool) : nanB (double.word s R) = false := by
  rw [nanB_not, wordN]
  cases s <;> simp only [if_true, Bool.false_eq_true, if_false] <;> omega
include h2 in
theorem word_place (s : Bool) : place (double.word s R) = pm s R := by
  rw [wordN]; unfold place pm
  cases s <;> simp only [if_true, Bool.false_eq_true, if_false] <;> (repeat' split) <;> omega
end
theorem zero_class (s : Bool) : classN (double.word s 0) = if s then 3 else 4 := by cases s <;> decide
theorem inf_class (s : Bool) : classN (double.word s 9218868437227405312) = if s then 1 else 6 := by cases s <;> decide
theorem zero_place (s : Bool) : place (double.word s 0) = 0 := by cases s <;> decide

theorem xor_lt {a b : Int} : (decide (a < 0) ^^ decide (b < 0)) = decide ((a < 0) ≠ (b < 0)) := by
  by_cases h : a < 0 <;> by_cases h' : b < 0 <;> simp [h, h']

/-- As many times as much of both is the same share. -/
theorem share_scale {n a b : Int} (hn : 1 ≤ n) (ha : a.natAbs < 4294967296) (hb : b.natAbs < 4294967296) (hna : (n * a).natAbs < 4294967296) (hnb : (n * b).natAbs < 4294967296) : shareW (n * a) (n * b) = shareW a b := by
  have sg : ∀ x : Int, (n * x < 0 ↔ x < 0) ∧ (n * x = 0 ↔ x = 0) := by
    intro x
    refine ⟨⟨fun h => ?_, fun h => Int.mul_neg_of_pos_of_neg (by omega) h⟩, ⟨fun h => ?_, fun h => by rw [h, Int.mul_zero]⟩⟩
    · by_cases hx : 0 ≤ x
      · have := Int.mul_nonneg (show 0 ≤ n by omega) hx; omega
      · omega
    · rcases Int.mul_eq_zero.1 h with h | h <;> omega
  by_cases ha0 : a = 0
  · subst ha0
    by_cases hb0 : b = 0
    · subst hb0; rw [Int.mul_zero]
    · rw [Int.mul_zero, share_0 (fun h => hb0 ((sg b).2.1 h)) hnb, share_0 hb0 hb]
      simp only [(sg b).1]
  · by_cases hb0 : b = 0
    · subst hb0
      rw [Int.mul_zero, share_inf (fun h => ha0 ((sg a).2.1 h)) hna, share_inf ha0 ha]
      simp only [(sg a).1]
    · have ha0' : n * a ≠ 0 := fun h => ha0 ((sg a).2.1 h)
      have hb0' : n * b ≠ 0 := fun h => hb0 ((sg b).2.1 h)
      rw [share_rung ha0' hb0' hna hnb, share_rung ha0 hb0 ha hb]
      simp only [(sg a).1, (sg b).1]
      rw [rung_eq (by omega) hna (by omega) hnb (by omega) ha (by omega) hb (by rw [Int.natAbs_mul, Int.natAbs_mul]; ac_rfl)]

theorem rung_one : rungQ 1 1 = 4607182418800017408 := by decide
theorem rung_1 {m n : Nat} (m1 : 1 ≤ m) (m2 : m < 4294967296) (n1 : 1 ≤ n) (n2 : n < 4294967296) : rungQ m n = 4607182418800017408 ↔ m = n := by
  rw [← rung_one]
  rcases Nat.lt_trichotomy m n with h | h | h
  · have := rung_lt m1 m2 n1 n2 (Nat.le_refl 1) (by omega) (Nat.le_refl 1) (by omega) (by omega) (by omega)
    omega
  · have := rung_eq m1 m2 n1 n2 (Nat.le_refl 1) (by omega) (Nat.le_refl 1) (by omega) (by omega)
    omega
  · have := rung_lt (Nat.le_refl 1) (by omega) (Nat.le_refl 1) (by omega) m1 m2 n1 n2 (by omega) (by omega)
    omega
end Go.Proofs.Ytphiimgfbigogaa
