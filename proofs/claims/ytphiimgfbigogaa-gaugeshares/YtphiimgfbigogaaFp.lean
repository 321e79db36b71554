/- The order of IEEE 754 doubles told by their bits: plain facts, nothing of the program. -/
import Ieee.Arith
namespace Go.Proofs.Ytphiimgfbigogaa
open Ieee

/-- A rung's magnitude, in units of the least place. -/
def magn (r : Nat) : Nat := if r < 4503599627370496 then r else (4503599627370496 + r % 4503599627370496) * 2 ^ (r / 4503599627370496 - 1)

theorem magn_lt_succ (r : Nat) : magn r < magn (r + 1) := by
  unfold magn
  by_cases h1 : r + 1 < 4503599627370496
  · rw [if_pos (by omega), if_pos h1]; omega
  · by_cases h2 : r < 4503599627370496
    · have : r = 4503599627370495 := by omega
      subst this
      decide
    · rw [if_neg h2, if_neg h1]
      by_cases h3 : r % 4503599627370496 = 4503599627370495
      · have e1 : (r + 1) % 4503599627370496 = 0 := by omega
        have e2 : (r + 1) / 4503599627370496 - 1 = (r / 4503599627370496 - 1) + 1 := by omega
        rw [e1, e2, h3, Nat.pow_succ]
        have := Nat.two_pow_pos (r / 4503599627370496 - 1)
        generalize 2 ^ (r / 4503599627370496 - 1) = x at *
        omega
      · have e1 : (r + 1) % 4503599627370496 = r % 4503599627370496 + 1 := by omega
        have e2 : (r + 1) / 4503599627370496 - 1 = (r / 4503599627370496 - 1) := by omega
        rw [e1, e2]
        exact Nat.mul_lt_mul_of_pos_right (by omega) (Nat.two_pow_pos _)

theorem magn_mono {r s : Nat} (h : r < s) : magn r < magn s := by
  induction s with
  | zero => omega
  | succ n ih =>
    rcases Nat.lt_or_eq_of_le (Nat.le_of_lt_succ h) with h1 | h1
    · exact Nat.lt_trans (ih h1) (magn_lt_succ n)
    · subst h1; exact magn_lt_succ _
theorem magn_lt_iff {r s : Nat} : magn r < magn s ↔ r < s := by
  refine ⟨fun h => ?_, magn_mono⟩
  rcases Nat.lt_trichotomy r s with h1 | h1 | h1
  · exact h1
  · subst h1; omega
  · have := magn_mono h1; omega
theorem magn_eq_iff {r s : Nat} : magn r = magn s ↔ r = s := by
  refine ⟨fun h => ?_, fun h => by rw [h]⟩
  rcases Nat.lt_trichotomy r s with h1 | h1 | h1
  · have := magn_mono h1; omega
  · exact h1
  · have := magn_mono h1; omega
theorem magn_zero : magn 0 = 0 := rfl

/-- A word's place in the order of numbers: both noughts at 0. -/
def place (b : Nat) : Int := if b < 9223372036854775808 then (b : Int) else -((b % 9223372036854775808 : Nat) : Int)
/-- Is it a NaN? -/
def nanB (b : Nat) : Bool := decide (9218868437227405312 < b % 9223372036854775808)

theorem read_fin {b : Nat} (hb : b < 18446744073709551616) (h : b % 9223372036854775808 < 9218868437227405312) :
    ∃ m : Nat, ∃ e : Nat, double.read b = .number (decide (9223372036854775808 ≤ b)) m (-1074 + (e : Int)) ∧ m * 2 ^ e = magn (b % 9223372036854775808) := by
  have hs : (b / 9223372036854775808 % 2 == 1) = decide (9223372036854775808 ≤ b) := by
    by_cases h1 : 9223372036854775808 ≤ b
    · have : b / 9223372036854775808 = 1 := by omega
      simp [h1, this]
    · have : b / 9223372036854775808 = 0 := by omega
      simp [h1, this]
  have e1 : double.signWeight = 9223372036854775808 := by decide
  have e2 : double.binade = 4503599627370496 := by decide
  have e3 : double.infRung = 9218868437227405312 := by decide
  have e4 : double.leastPlace = -1074 := by decide
  unfold Format.read
  simp only [e1, e2, e3, e4, hs]
  by_cases h2 : b % 9223372036854775808 < 4503599627370496
  · rw [if_pos h2]
    exact ⟨_, 0, rfl, by simp [magn, h2]⟩
  · rw [if_neg h2, if_pos h]
    exact ⟨_, _, rfl, by simp [magn, h2]⟩

theorem read_inf {b : Nat} (hb : b < 18446744073709551616) (h : b % 9223372036854775808 = 9218868437227405312) :
    double.read b = .infinity (decide (9223372036854775808 ≤ b)) := by
  have hs : (b / 9223372036854775808 % 2 == 1) = decide (9223372036854775808 ≤ b) := by
    by_cases h1 : 9223372036854775808 ≤ b
    · have : b / 9223372036854775808 = 1 := by omega
      simp [h1, this]
    · have : b / 9223372036854775808 = 0 := by omega
      simp [h1, this]
  have e1 : double.signWeight = 9223372036854775808 := by decide
  have e2 : double.binade = 4503599627370496 := by decide
  have e3 : double.infRung = 9218868437227405312 := by decide
  unfold Format.read
  simp only [e1, e2, e3, hs]
  rw [if_neg (by omega), if_neg (by omega), if_pos h]

theorem read_nan {b : Nat} (h : 9218868437227405312 < b % 9223372036854775808) : ∃ s t, double.read b = .nan s t := by
  have e1 : double.signWeight = 9223372036854775808 := by decide
  have e2 : double.binade = 4503599627370496 := by decide
  have e3 : double.infRung = 9218868437227405312 := by decide
  unfold Format.read
  simp only [e1, e2, e3]
  rw [if_neg (by omega), if_neg (by omega), if_neg (by omega)]
  exact ⟨_, _, rfl⟩

theorem compare_int (a b : Int) : compare a b = if a < b then .lt else if a = b then .eq else .gt := by
  simp only [compare, compareOfLessAndEq]

theorem compare_cong {a b c d : Int} (h1 : a < b ↔ c < d) (h2 : a = b ↔ c = d) : compare a b = compare c d := by
  rw [compare_int, compare_int]
  by_cases h : a < b
  · rw [if_pos h, if_pos (h1.1 h)]
  · rw [if_neg h, if_neg (fun x => h (h1.2 x))]
    by_cases k : a = b
    · rw [if_pos k, if_pos (h2.1 k)]
    · rw [if_neg k, if_neg (fun x => k (h2.2 x))]

/-- ± a magnitude. -/
def pm (s : Bool) (m : Nat) : Int := if s then -(m : Int) else (m : Int)

theorem signed_scale (s : Bool) (m up k : Nat) : signed s m up * (2 ^ k : Nat) = pm s (m * 2 ^ (up + k)) := by
  unfold signed pm
  rw [Nat.shiftLeft_eq, Nat.pow_add, ← Nat.mul_assoc]
  cases s
  · simp
  · simp [Int.neg_mul]

theorem order_fin {s t : Bool} {m n : Nat} {e f : Nat} :
    Datum.order (.number s m (-1074 + (e : Int))) (.number t n (-1074 + (f : Int))) = some (compare (pm s (m * 2 ^ e)) (pm t (n * 2 ^ f))) := by
  simp only [Datum.order]
  congr 1
  have hk : ∃ k : Nat, min (-1074 + (e : Int)) (-1074 + (f : Int)) = -1074 + (k : Int) ∧ k ≤ e ∧ k ≤ f := by
    by_cases h : e ≤ f
    · exact ⟨e, by omega, by omega, h⟩
    · exact ⟨f, by omega, by omega, by omega⟩
  obtain ⟨k, hk, h1, h2⟩ := hk
  have a1 := signed_scale s m (-1074 + (e : Int) - min (-1074 + (e : Int)) (-1074 + (f : Int))).toNat k
  have a2 := signed_scale t n (-1074 + (f : Int) - min (-1074 + (e : Int)) (-1074 + (f : Int))).toNat k
  rw [hk] at *
  rw [show (-1074 + (e : Int) - (-1074 + (k : Int))).toNat + k = e by omega] at a1
  rw [show (-1074 + (f : Int) - (-1074 + (k : Int))).toNat + k = f by omega] at a2
  rw [← a1, ← a2]
  have hp : (0 : Int) < ((2 ^ k : Nat) : Int) := by exact_mod_cast Nat.two_pow_pos k
  refine compare_cong ⟨fun h => Int.mul_lt_mul_of_pos_right h hp, fun h => Int.lt_of_mul_lt_mul_right h (Int.le_of_lt hp)⟩ ⟨fun h => by rw [h], fun h => Int.eq_of_mul_eq_mul_right (by omega) h⟩

theorem pm_lt {s t : Bool} {a b : Nat} : pm s (magn a) < pm t (magn b) ↔ pm s a < pm t b := by
  have h := @magn_lt_iff a b
  have h' := @magn_lt_iff b a
  have h0 := @magn_eq_iff a 0
  have h0' := @magn_eq_iff b 0
  rw [magn_zero] at h0 h0'
  generalize magn a = x at *
  generalize magn b = y at *
  cases s <;> cases t <;> simp only [pm, if_true, Bool.false_eq_true, if_false] <;> omega
theorem pm_eq {s t : Bool} {a b : Nat} : pm s (magn a) = pm t (magn b) ↔ pm s a = pm t b := by
  have h := @magn_eq_iff a b
  have h0 := @magn_eq_iff a 0
  have h0' := @magn_eq_iff b 0
  rw [magn_zero] at h0 h0'
  generalize magn a = x at *
  generalize magn b = y at *
  cases s <;> cases t <;> simp only [pm, if_true, Bool.false_eq_true, if_false] <;> omega

theorem place_pm {b : Nat} : place b = pm (decide (9223372036854775808 ≤ b)) (b % 9223372036854775808) := by
  unfold place pm
  by_cases h : b < 9223372036854775808
  · rw [if_pos h, if_neg (by simpa using h), Nat.mod_eq_of_lt h]
  · rw [if_neg h, if_pos (by simpa using h)]

/-- The order of two doubles, told by their bits. -/
theorem order_bits {a b : Nat} (ha : a < 18446744073709551616) (hb : b < 18446744073709551616) :
    double.order a b = if nanB a || nanB b then none else some (compare (place a) (place b)) := by
  unfold Format.order nanB
  by_cases hna : 9218868437227405312 < a % 9223372036854775808
  · obtain ⟨s, t, h⟩ := read_nan hna
    rw [h]; simp [hna, Datum.order]
  · by_cases hnb : 9218868437227405312 < b % 9223372036854775808
    · obtain ⟨s, t, h⟩ := read_nan hnb
      rw [h]
      cases double.read a <;> simp [hnb, Datum.order]
    · simp only [hna, hnb, decide_false, Bool.or_self, Bool.false_eq_true, if_false]
      rw [place_pm, place_pm]
      rcases Nat.lt_or_eq_of_le (Nat.le_of_not_lt hna) with h1 | h1
      · obtain ⟨m, e, r1, m1⟩ := read_fin ha h1
        rcases Nat.lt_or_eq_of_le (Nat.le_of_not_lt hnb) with h2 | h2
        · obtain ⟨n, f, r2, m2⟩ := read_fin hb h2
          rw [r1, r2, order_fin, m1, m2]
          exact congrArg some (compare_cong pm_lt pm_eq)
        · rw [r1, read_inf hb h2, h2]
          simp only [Datum.order]
          congr 1
          rw [compare_int]
          cases decide (9223372036854775808 ≤ b) <;> cases decide (9223372036854775808 ≤ a) <;> simp only [pm, if_true, Bool.false_eq_true, if_false] <;> repeat (first | rw [if_pos (by first | rfl | omega)] | rw [if_neg (by first | omega | simp)] | rfl)
      · rcases Nat.lt_or_eq_of_le (Nat.le_of_not_lt hnb) with h2 | h2
        · obtain ⟨n, f, r2, m2⟩ := read_fin hb h2
          rw [r2, read_inf ha h1, h1]
          simp only [Datum.order]
          congr 1
          rw [compare_int]
          cases decide (9223372036854775808 ≤ b) <;> cases decide (9223372036854775808 ≤ a) <;> simp only [pm, if_true, Bool.false_eq_true, if_false] <;> repeat (first | rw [if_pos (by first | rfl | omega)] | rw [if_neg (by first | omega | simp)] | rfl)
        · rw [read_inf ha h1, read_inf hb h2, h1, h2]
          simp only [Datum.order]
          congr 1
          cases decide (9223372036854775808 ≤ b) <;> cases decide (9223372036854775808 ≤ a) <;> simp only [pm] <;> decide
end Go.Proofs.Ytphiimgfbigogaa
