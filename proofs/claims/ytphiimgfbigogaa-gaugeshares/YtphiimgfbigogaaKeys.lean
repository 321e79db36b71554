/- Classes, keys and the order of doubles by their bits: plain facts, nothing of the program. -/
import Derived.Test.YtphiimgfbigogaaFp
namespace Go.Proofs.Ytphiimgfbigogaa
open Ieee
set_option linter.unusedVariables false

/-- A word's class. -/
def classN (b : Nat) : Int :=
  if 9218868437227405312 < b % 9223372036854775808 then 0
  else if b % 9223372036854775808 = 9218868437227405312 then (if 9223372036854775808 ≤ b then 1 else 6)
  else if b % 9223372036854775808 = 0 then (if 9223372036854775808 ≤ b then 3 else 4)
  else if 9223372036854775808 ≤ b then 2 else 5
/-- A word's key. -/
def keyN (b : Nat) : Nat :=
  if 9218868437227405312 < b % 9223372036854775808 then 0
  else if 9223372036854775808 ≤ b then 18446744073709551615 - b else b + 9223372036854775808
/-- The order of two numbers. -/
def cmpN (x y : Nat) : Int := if x < y then -1 else if x = y then 0 else 1
/-- The order of two words. -/
def ordN (a b : Nat) : Int := cmpN (keyN a) (keyN b)

theorem nan_self {b : Nat} (hb : b < 18446744073709551616) : (double.order b b != some .eq) = nanB b := by
  rw [order_bits hb hb]
  cases nanB b
  · simp
  · rfl

theorem order_gt {a b : Nat} (ha : a < 18446744073709551616) (hb : b < 18446744073709551616) :
    (double.order a b == some .gt) = (!nanB a && !nanB b && decide (place b < place a)) := by
  rw [order_bits ha hb]
  cases nanB a <;> cases nanB b <;> simp [compare_int]
  by_cases h : place a < place b
  · simp [h]; omega
  · by_cases h' : place a = place b
    · simp [h']
    · simp [h, h']; omega
theorem order_lt {a b : Nat} (ha : a < 18446744073709551616) (hb : b < 18446744073709551616) :
    (double.order a b == some .lt) = (!nanB a && !nanB b && decide (place a < place b)) := by
  rw [order_bits ha hb]
  cases nanB a <;> cases nanB b <;> simp [compare_int]
  by_cases h : place a < place b
  · simp [h]
  · by_cases h' : place a = place b
    · simp [h']
    · simp [h, h']
theorem order_eq {a b : Nat} (ha : a < 18446744073709551616) (hb : b < 18446744073709551616) :
    (double.order a b == some .eq) = (!nanB a && !nanB b && decide (place a = place b)) := by
  rw [order_bits ha hb]
  cases nanB a <;> cases nanB b <;> simp [compare_int]
  by_cases h : place a < place b
  · simp [h]; omega
  · by_cases h' : place a = place b
    · simp [h']
    · simp [h, h']

theorem nanB_iff (b : Nat) : nanB b = true ↔ 9218868437227405312 < b % 9223372036854775808 := by simp [nanB]
theorem nanB_not (b : Nat) : nanB b = false ↔ ¬ 9218868437227405312 < b % 9223372036854775808 := by simp [nanB]

theorem cmpN_lt {x y : Nat} (h : x < y) : cmpN x y = -1 := by simp [cmpN, h]
theorem cmpN_eq {x y : Nat} (h : x = y) : cmpN x y = 0 := by simp [cmpN, h]
theorem cmpN_gt {x y : Nat} (h : y < x) : cmpN x y = 1 := by simp [cmpN, show ¬ x < y by omega, show ¬ x = y by omega]

/-- By classes first. -/
theorem class_lt {a b : Nat} (ha : a < 18446744073709551616) (hb : b < 18446744073709551616) (h : classN a < classN b) : keyN a < keyN b := by
  unfold classN at h; unfold keyN
  repeat' split at h
  all_goals first | omega | (repeat' split) <;> omega
theorem class_eq {a b : Nat} (ha : a < 18446744073709551616) (hb : b < 18446744073709551616) (h : classN a = classN b) (hn : nanB a = false) :
    nanB b = false ∧ (place a < place b ↔ keyN a < keyN b) ∧ (place a = place b ↔ keyN a = keyN b) := by
  rw [nanB_not] at *
  unfold classN at h; unfold keyN place
  repeat' split at h
  all_goals first | omega | skip
  all_goals simp only [if_neg hn]
  all_goals refine ⟨by omega, ?_⟩
  all_goals (repeat' split) <;> omega
theorem class_nan {b : Nat} : classN b = 0 ↔ nanB b = true := by
  rw [nanB_iff]; unfold classN
  repeat' split
  all_goals simp_all
theorem key_nan {b : Nat} (h : nanB b = true) : keyN b = 0 := by
  rw [nanB_iff] at h; simp [keyN, h]
theorem key_pos {b : Nat} (hb : b < 18446744073709551616) (h : nanB b = false) : 0 < keyN b := by
  rw [nanB_not] at h; unfold keyN; rw [if_neg h]; split <;> omega
theorem key_lt (b : Nat) (hb : b < 18446744073709551616) : keyN b < 18446744073709551616 := by
  unfold keyN; repeat' split
  all_goals omega
theorem class_bd (b : Nat) : 0 ≤ classN b ∧ classN b ≤ 6 := by
  unfold classN; repeat' split
  all_goals omega

theorem ord_class_lt {a b : Nat} (ha : a < 18446744073709551616) (hb : b < 18446744073709551616) (h : classN a < classN b) : ordN a b = -1 := cmpN_lt (class_lt ha hb h)
theorem ord_class_gt {a b : Nat} (ha : a < 18446744073709551616) (hb : b < 18446744073709551616) (h : classN b < classN a) : ordN a b = 1 := cmpN_gt (class_lt hb ha h)
theorem ord_nan {a b : Nat} (h : nanB a = true) (h' : nanB b = true) : ordN a b = 0 := cmpN_eq (by rw [key_nan h, key_nan h'])

/-- The words of the two infinities, and of the greatest number. -/
theorem inf_above {b : Nat} (hb : b < 18446744073709551616) : (double.order b 9218868437227405311 == some .gt) = decide (classN b = 6) := by
  rw [order_gt hb (by omega), show nanB 9218868437227405311 = false by decide, show place 9218868437227405311 = 9218868437227405311 by decide]
  unfold nanB classN place
  rw [Bool.eq_iff_iff]
  simp only [Bool.and_eq_true, Bool.not_eq_true', decide_eq_false_iff_not, decide_eq_true_eq, Bool.not_false, and_true]
  repeat' split
  all_goals (first | omega | (simp; done) | (simp; omega))
theorem below_0 {b : Nat} (hb : b < 18446744073709551616) (h : nanB b = false) : (double.order b 0 == some .lt) = decide (classN b = 1 ∨ classN b = 2) := by
  rw [order_lt hb (by omega), h, show nanB 0 = false by decide, show place 0 = 0 by decide]
  rw [nanB_not] at h
  unfold classN place
  rw [Bool.eq_iff_iff]
  simp only [Bool.and_eq_true, decide_eq_true_eq, Bool.not_false, true_and]
  rw [if_neg h]
  repeat' split
  all_goals (first | omega | (simp; done) | (simp; omega))
theorem is_0 {b : Nat} (hb : b < 18446744073709551616) (h : nanB b = false) : (double.order b 0 == some .eq) = decide (classN b = 3 ∨ classN b = 4) := by
  rw [order_eq hb (by omega), h, show nanB 0 = false by decide, show place 0 = 0 by decide]
  rw [nanB_not] at h
  unfold classN place
  rw [Bool.eq_iff_iff]
  simp only [Bool.and_eq_true, decide_eq_true_eq, Bool.not_false, true_and]
  rw [if_neg h]
  repeat' split
  all_goals (first | omega | (simp; done) | (simp; omega))

/-- A word, turned. -/
def negN (b : Nat) : Nat := if 9223372036854775808 ≤ b then b - 9223372036854775808 else b + 9223372036854775808
theorem xor_top (b : Nat) (hb : b < 18446744073709551616) : b ^^^ 2 ^ 63 = negN b := by
  have h := Nat.xor_mod_two_pow (a := b) (b := 2 ^ 63) (n := 63)
  have h2 : (b ^^^ 2 ^ 63) / 2 ^ 63 = (b / 2 ^ 63) ^^^ 1 := by
    have := Nat.shiftRight_xor_distrib (a := b) (b := 2 ^ 63) (i := 63)
    simpa [Nat.shiftRight_eq_div_pow] using this
  have e1 : b % 2 ^ 63 ^^^ 2 ^ 63 % 2 ^ 63 = b % 2 ^ 63 := by simp
  rw [e1] at h
  unfold negN
  have hd := Nat.div_add_mod (b ^^^ 2 ^ 63) (2 ^ 63)
  rw [h2, h] at hd
  by_cases hh : 9223372036854775808 ≤ b
  · have : b / 2 ^ 63 = 1 := by omega
    rw [this] at hd
    rw [if_pos hh]
    simp at hd ⊢
    omega
  · have : b / 2 ^ 63 = 0 := by omega
    rw [this] at hd
    rw [if_neg hh]
    simp at hd ⊢
    omega
theorem neg_lt {b : Nat} (hb : b < 18446744073709551616) : negN b < 18446744073709551616 := by unfold negN; split <;> omega
theorem class_neg {b : Nat} (hb : b < 18446744073709551616) (h : nanB b = false) : classN (negN b) = 7 - classN b := by
  rw [nanB_not] at h
  unfold classN negN
  repeat' split
  all_goals omega
theorem nan_neg {b : Nat} (hb : b < 18446744073709551616) : nanB (negN b) = nanB b := by
  rw [Bool.eq_iff_iff, nanB_iff, nanB_iff]
  unfold negN; split <;> omega
theorem key_neg {b : Nat} (hb : b < 18446744073709551616) (h : nanB b = false) : keyN (negN b) = 18446744073709551615 - keyN b := by
  rw [nanB_not] at h
  unfold keyN negN
  repeat' split
  all_goals omega
end Go.Proofs.Ytphiimgfbigogaa
