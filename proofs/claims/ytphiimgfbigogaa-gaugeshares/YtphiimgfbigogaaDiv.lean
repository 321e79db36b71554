/- A share of two whole numbers as a double: which word it is. Plain facts, nothing of the program. -/
import Derived.Test.YtphiimgfbigogaaFp
namespace Go.Proofs.Ytphiimgfbigogaa
open Ieee
set_option linter.unusedVariables false

/-- a / d, to the nearest whole number; between two, the even one. -/
def rne (a d : Nat) : Nat := a / d + (if d < 2 * (a % d) ∨ (d = 2 * (a % d) ∧ a / d % 2 = 1) then 1 else 0)

theorem rne_scale (c a d : Nat) (hc : 0 < c) : rne (c * a) (c * d) = rne a d := by
  unfold rne
  rw [Nat.mul_div_mul_left _ _ hc, Nat.mul_mod_mul_left]
  have e1 : c * d < 2 * (c * (a % d)) ↔ d < 2 * (a % d) := by
    rw [Nat.mul_left_comm]
    exact ⟨fun h => Nat.lt_of_mul_lt_mul_left h, fun h => Nat.mul_lt_mul_of_pos_left h hc⟩
  have e2 : c * d = 2 * (c * (a % d)) ↔ d = 2 * (a % d) := by
    rw [Nat.mul_left_comm]
    exact ⟨fun h => Nat.eq_of_mul_eq_mul_left hc h, fun h => by rw [← h]⟩
  simp only [e1, e2]
theorem rne_ratio {a d b e : Nat} (hd : 0 < d) (he : 0 < e) (h : a * e = b * d) : rne a d = rne b e := by
  rw [← rne_scale e a d he, ← rne_scale d b e hd, Nat.mul_comm e a, h, Nat.mul_comm e d, Nat.mul_comm d b]
theorem rne_hi (a d : Nat) (hd : 0 < d) : rne a d * (2 * d) ≤ 2 * a + d := by
  have h := Nat.div_add_mod a d
  have hm := Nat.mod_lt a hd
  unfold rne
  generalize a % d = r at *
  generalize a / d = q at *
  subst h
  split
  · rw [Nat.add_mul]
    have : q * (2 * d) = 2 * (d * q) := by rw [Nat.mul_left_comm, Nat.mul_comm q d]
    omega
  · have : (q + 0) * (2 * d) = 2 * (d * q) := by rw [Nat.add_zero, Nat.mul_left_comm, Nat.mul_comm q d]
    omega
theorem rne_lo (a d : Nat) (hd : 0 < d) : 2 * a ≤ rne a d * (2 * d) + d := by
  have h := Nat.div_add_mod a d
  have hm := Nat.mod_lt a hd
  unfold rne
  generalize a % d = r at *
  generalize a / d = q at *
  subst h
  split
  · rw [Nat.add_mul]
    have : q * (2 * d) = 2 * (d * q) := by rw [Nat.mul_left_comm, Nat.mul_comm q d]
    omega
  · have : (q + 0) * (2 * d) = 2 * (d * q) := by rw [Nat.add_zero, Nat.mul_left_comm, Nat.mul_comm q d]
    omega

theorem log2_is {n k : Nat} (h1 : 2 ^ k ≤ n) (h2 : n < 2 ^ (k + 1)) : n.log2 = k := by
  have hn : n ≠ 0 := by have := Nat.two_pow_pos k; omega
  have a : k ≤ n.log2 := (Nat.le_log2 hn).2 h1
  have b : n.log2 < k + 1 := (Nat.log2_lt hn).2 h2
  omega

/-- A whole number as a double. -/
theorem near_int (s : Bool) {m L : Nat} (hm : m ≠ 0) (hL : m.log2 = L) (h52 : L ≤ 52) :
    double.nearest s m 0 = double.word s ((L + 1022) * 4503599627370496 + m * 2 ^ (52 - L)) := by
  have e2 : double.binade = 4503599627370496 := by decide
  have e3 : double.infRung = 9218868437227405312 := by decide
  have e4 : double.leastPlace = -1074 := by decide
  have e5 : double.fractionBits = 52 := rfl
  have hlt : m < 2 ^ (L + 1) := by rw [← hL]; exact Nat.lt_log2_self
  have hM : m * 2 ^ (52 - L) < 9007199254740992 := by
    have := Nat.mul_lt_mul_of_pos_right hlt (Nat.two_pow_pos (52 - L))
    rw [← Nat.pow_add, show L + 1 + (52 - L) = 53 by omega] at this
    exact this
  unfold Format.nearest
  rw [if_neg hm]
  simp only [e2, e3, e4, e5, hL]
  have l1 : max ((0 : Int) + L - ((52 : Nat) : Int)) (-1074) = L - 52 := by omega
  rw [l1]
  have l2 : ((0 : Int) - (L - 52)).toNat = 52 - L := by omega
  have l3 : ((L : Int) - 52 - 0).toNat = 0 := by omega
  have l4 : ((L : Int) - 52 - -1074).toNat = L + 1022 := by omega
  rw [l2, l3, l4, Nat.shiftLeft_eq]
  have hcut : Toward.even.cut s (m * 2 ^ (52 - L)) 0 = m * 2 ^ (52 - L) := by
    unfold Toward.cut
    simp [Nat.mod_one]
  rw [hcut, Nat.min_eq_left (by omega)]

theorem read_word (s : Bool) {r : Nat} (h1 : 4503599627370496 ≤ r) (h2 : r < 9218868437227405312) :
    double.read (double.word s r) = .number s (4503599627370496 + r % 4503599627370496) (-1074 + (r / 4503599627370496 - 1 : Nat)) := by
  have e0 : double.signWeight = 9223372036854775808 := by decide
  have e2 : double.binade = 4503599627370496 := by decide
  have e3 : double.infRung = 9218868437227405312 := by decide
  have e4 : double.leastPlace = -1074 := by decide
  unfold Format.read Format.word
  simp only [e0, e2, e3, e4]
  cases s
  · simp only [Bool.false_eq_true, if_false]
    rw [show r / 9223372036854775808 = 0 by omega, show r % 9223372036854775808 = r by omega, if_neg (by omega), if_pos h2]
    rfl
  · simp only [if_true]
    rw [show (9223372036854775808 + r) / 9223372036854775808 = 1 by omega, show (9223372036854775808 + r) % 9223372036854775808 = r by omega, if_neg (by omega), if_pos h2]
    rfl

theorem read_int (s : Bool) {m L : Nat} (hm : m ≠ 0) (hL : m.log2 = L) (h52 : L ≤ 52) :
    double.read (double.nearest s m 0) = .number s (m * 2 ^ (52 - L)) ((L : Int) - 52) ∧ 4503599627370496 ≤ m * 2 ^ (52 - L) ∧ m * 2 ^ (52 - L) < 9007199254740992 := by
  have hlt : m < 2 ^ (L + 1) := by rw [← hL]; exact Nat.lt_log2_self
  have hle : 2 ^ L ≤ m := by rw [← hL]; exact Nat.log2_self_le hm
  have hM : m * 2 ^ (52 - L) < 9007199254740992 := by
    have := Nat.mul_lt_mul_of_pos_right hlt (Nat.two_pow_pos (52 - L))
    rw [← Nat.pow_add, show L + 1 + (52 - L) = 53 by omega] at this
    exact this
  have hM2 : 4503599627370496 ≤ m * 2 ^ (52 - L) := by
    have := Nat.mul_le_mul_right (2 ^ (52 - L)) hle
    rw [← Nat.pow_add, show L + (52 - L) = 52 by omega] at this
    exact this
  refine ⟨?_, hM2, hM⟩
  rw [near_int s hm hL h52]
  generalize m * 2 ^ (52 - L) = M at *
  rw [read_word s (by omega) (by omega)]
  have a1 : ((L + 1022) * 4503599627370496 + M) % 4503599627370496 = M - 4503599627370496 := by omega
  have a2 : ((L + 1022) * 4503599627370496 + M) / 4503599627370496 = L + 1023 := by omega
  have a3 : 4503599627370496 + (M - 4503599627370496) = M := by omega
  have a4 : (-1074 : Int) + ((L + 1023 - 1 : Nat) : Int) = (L : Int) - 52 := by omega
  rw [a1, a2, a3, a4]

/-- The last step: from the quotient with one digit more to the word. -/
theorem kept_is {A D d : Nat} (hD : 0 < D) (hd : d = 2 ∨ d = 3) (s : Bool) (g : Nat) (hg : d ≤ g) (hlog : (2 * (A * 2 ^ (d - 1) / D) + (A * 2 ^ (d - 1) % D != 0).toNat).log2 = g) :
    Toward.even.cut s (2 * (A * 2 ^ (d - 1) / D) + (A * 2 ^ (d - 1) % D != 0).toNat) d = rne A D := by
  unfold Toward.cut
  rw [hlog, Nat.min_eq_left (by omega)]
  have h := Nat.div_add_mod A D
  have hm := Nat.mod_lt A hD
  unfold rne
  generalize hk : A / D = k at *
  generalize hr : A % D = r at *
  rcases hd with rfl | rfl
  · have e1 : A * 2 ^ (2 - 1) / D = 2 * k + 2 * r / D := by
      rw [← h, show (D * k + r) * 2 ^ (2 - 1) = 2 * r + D * (2 * k) by rw [show (2 : Nat) ^ (2 - 1) = 2 from rfl, Nat.add_mul, Nat.mul_assoc, Nat.mul_comm k 2]; omega, Nat.add_mul_div_left _ _ hD, Nat.add_comm]
    have e2 : A * 2 ^ (2 - 1) % D = 2 * r % D := by
      rw [← h, show (D * k + r) * 2 ^ (2 - 1) = 2 * r + D * (2 * k) by rw [show (2 : Nat) ^ (2 - 1) = 2 from rfl, Nat.add_mul, Nat.mul_assoc, Nat.mul_comm k 2]; omega, Nat.add_mul_mod_self_left]
    rw [e1, e2]
    have f := Nat.div_add_mod (2 * r) D
    have fm := Nat.mod_lt (2 * r) hD
    have hu : 2 * r / D = 0 ∨ 2 * r / D = 1 := by
      have : 2 * r / D < 2 := (Nat.div_lt_iff_lt_mul hD).2 (by omega)
      generalize 2 * r / D = u at *
      omega
    generalize 2 * r % D = v at *
    have hs : ((v != 0).toNat = 0 ∧ v = 0) ∨ ((v != 0).toNat = 1 ∧ v ≠ 0) := by
      by_cases hv : v = 0 <;> simp [hv]
    generalize (v != 0).toNat = t at *
    simp only [Nat.shiftLeft_eq, Nat.one_mul, show (2 : Nat) ^ 2 = 4 by decide]
    rcases hu with hu | hu <;> rw [hu] at f ⊢ <;> rcases hs with ⟨rfl, hv⟩ | ⟨rfl, hv⟩
    · rw [show (2 * (2 * k + 0) + 0) / 4 = k by omega, show (2 * (2 * k + 0) + 0) % 4 = 0 by omega, if_neg (by omega)]; simp
    · rw [show (2 * (2 * k + 0) + 1) / 4 = k by omega, show (2 * (2 * k + 0) + 1) % 4 = 1 by omega, if_neg (by omega)]; simp
    · rw [show (2 * (2 * k + 1) + 0) / 4 = k by omega, show (2 * (2 * k + 1) + 0) % 4 = 2 by omega]
      by_cases hp : k % 2 = 1
      · rw [if_pos (by omega)]; simp [hp]
      · rw [if_neg (by omega)]; simp [hp]
    · rw [show (2 * (2 * k + 1) + 1) / 4 = k by omega, show (2 * (2 * k + 1) + 1) % 4 = 3 by omega, if_pos (by omega)]; simp
  · have e1 : A * 2 ^ (3 - 1) / D = 4 * k + 4 * r / D := by
      rw [← h, show (D * k + r) * 2 ^ (3 - 1) = 4 * r + D * (4 * k) by rw [show (2 : Nat) ^ (3 - 1) = 4 from rfl, Nat.add_mul, Nat.mul_assoc, Nat.mul_comm k 4]; omega, Nat.add_mul_div_left _ _ hD, Nat.add_comm]
    have e2 : A * 2 ^ (3 - 1) % D = 4 * r % D := by
      rw [← h, show (D * k + r) * 2 ^ (3 - 1) = 4 * r + D * (4 * k) by rw [show (2 : Nat) ^ (3 - 1) = 4 from rfl, Nat.add_mul, Nat.mul_assoc, Nat.mul_comm k 4]; omega, Nat.add_mul_mod_self_left]
    rw [e1, e2]
    have f := Nat.div_add_mod (4 * r) D
    have fm := Nat.mod_lt (4 * r) hD
    have hu : 4 * r / D = 0 ∨ 4 * r / D = 1 ∨ 4 * r / D = 2 ∨ 4 * r / D = 3 := by
      have : 4 * r / D < 4 := (Nat.div_lt_iff_lt_mul hD).2 (by omega)
      generalize 4 * r / D = u at *
      omega
    generalize 4 * r % D = v at *
    have hs : ((v != 0).toNat = 0 ∧ v = 0) ∨ ((v != 0).toNat = 1 ∧ v ≠ 0) := by
      by_cases hv : v = 0 <;> simp [hv]
    generalize (v != 0).toNat = t at *
    simp only [Nat.shiftLeft_eq, Nat.one_mul, show (2 : Nat) ^ 3 = 8 by decide]
    rcases hu with hu | hu | hu | hu <;> rw [hu] at f ⊢ <;> rcases hs with ⟨rfl, hv⟩ | ⟨rfl, hv⟩
    · rw [show (2 * (4 * k + 0) + 0) / 8 = k by omega, show (2 * (4 * k + 0) + 0) % 8 = 0 by omega, if_neg (by omega)]; simp
    · rw [show (2 * (4 * k + 0) + 1) / 8 = k by omega, show (2 * (4 * k + 0) + 1) % 8 = 1 by omega, if_neg (by omega)]; simp
    · rw [show (2 * (4 * k + 1) + 0) / 8 = k by omega, show (2 * (4 * k + 1) + 0) % 8 = 2 by omega, if_neg (by omega)]; simp
    · rw [show (2 * (4 * k + 1) + 1) / 8 = k by omega, show (2 * (4 * k + 1) + 1) % 8 = 3 by omega, if_neg (by omega)]; simp
    · rw [show (2 * (4 * k + 2) + 0) / 8 = k by omega, show (2 * (4 * k + 2) + 0) % 8 = 4 by omega]
      by_cases hp : k % 2 = 1
      · rw [if_pos (by omega)]; simp [hp]
      · rw [if_neg (by omega)]; simp [hp]
    · rw [show (2 * (4 * k + 2) + 1) / 8 = k by omega, show (2 * (4 * k + 2) + 1) % 8 = 5 by omega, if_pos (by omega)]; simp
    · rw [show (2 * (4 * k + 3) + 0) / 8 = k by omega, show (2 * (4 * k + 3) + 0) % 8 = 6 by omega, if_pos (by omega)]; simp
    · rw [show (2 * (4 * k + 3) + 1) / 8 = k by omega, show (2 * (4 * k + 3) + 1) % 8 = 7 by omega, if_pos (by omega)]; simp
end Go.Proofs.Ytphiimgfbigogaa
