/- Shares of whole numbers are ordered as fractions are. Plain facts, nothing of the program. -/
import Derived.Test.YtphiimgfbigogaaQuo
import Derived.Test.YtphiimgfbigogaaKeys
import Derived.Laws.FloatArith
namespace Go.Proofs.Ytphiimgfbigogaa
open Ieee
set_option linter.unusedVariables false

/-- The rung of a share of two numbers above 0. -/
def rungQ (m n : Nat) : Nat := (double.div (double.nearest false m 0) (double.nearest false n 0)).getD 0

theorem word_false (r : Nat) : double.word false r = r := rfl

theorem div_rung {m n : Nat} (m1 : 1 ≤ m) (m2 : m < 4294967296) (n1 : 1 ≤ n) (n2 : n < 4294967296) :
    (∀ s t, double.div (double.nearest s m 0) (double.nearest t n 0) = some (double.word (s ^^ t) (rungQ m n))) ∧
    ∃ K, 8 ≤ K ∧ K ≤ 72 ∧ 2 ^ K * n ≤ m * 2 ^ 40 ∧ m * 2 ^ 40 < 2 ^ (K + 1) * n ∧ rungQ m n = (K + 982) * 4503599627370496 + rne (m * 2 ^ (92 - K)) n := by
  obtain ⟨K, k1, k2, k3, k4, h⟩ := div_word m1 m2 n1 n2
  have e : rungQ m n = (K + 982) * 4503599627370496 + rne (m * 2 ^ (92 - K)) n := by
    unfold rungQ; rw [h false false]; rfl
  exact ⟨fun s t => by rw [h s t, e], K, k1, k2, k3, k4, e⟩

theorem pow_split (K : Nat) (h : K ≤ 92) : 2 ^ (92 - K) * 2 ^ K = 2 ^ 92 := by rw [← Nat.pow_add]; congr 1; omega

/-- How far the numerator reaches. -/
theorem reach {m n K : Nat} (hK : K ≤ 92) (n1 : 1 ≤ n) (h : 2 ^ K * n ≤ m * 2 ^ 40) (h' : m * 2 ^ 40 < 2 ^ (K + 1) * n) : 2 ^ 52 * n ≤ m * 2 ^ (92 - K) ∧ m * 2 ^ (92 - K) < 2 ^ 53 * n := by
  have hs := pow_split K hK
  have hx := Nat.two_pow_pos K
  rw [show 2 ^ (K + 1) = 2 ^ K * 2 from Nat.pow_succ _ _] at h'
  generalize 2 ^ (92 - K) = c at *
  generalize 2 ^ K = x at *
  constructor
  · -- x n ≤ m 2^40; c x = 2^92
    apply Nat.le_of_mul_le_mul_right _ hx
    have e1 : m * c * x = m * 2 ^ 40 * 2 ^ 52 := by rw [Nat.mul_assoc, hs, Nat.mul_assoc, ← Nat.pow_add]
    have e2 : 2 ^ 52 * n * x = x * n * 2 ^ 52 := by ac_rfl
    rw [e1, e2]
    exact Nat.mul_le_mul_right _ h
  · apply Nat.lt_of_mul_lt_mul_right (a := x)
    have e1 : m * c * x = m * 2 ^ 40 * 2 ^ 52 := by rw [Nat.mul_assoc, hs, Nat.mul_assoc, ← Nat.pow_add]
    have e2 : 2 ^ 53 * n * x = x * 2 * n * 2 ^ 52 := by
      rw [show (2 : Nat) ^ 53 = 2 * 2 ^ 52 by decide]; ac_rfl
    rw [e1, e2]
    exact Nat.mul_lt_mul_of_pos_right h' (by decide)

theorem mul_pos_lt {a b c : Nat} (h : a < b) (hc : 0 < c) : a * c < b * c := Nat.mul_lt_mul_of_pos_right h hc

/-- Of two fractions that are far enough apart, with the same unit, the rounded ones are ordered. -/
theorem rne_lt {m n u v c : Nat} (n1 : 1 ≤ n) (v1 : 1 ≤ v) (h : m * v < u * n) (hc : n * v < c) : rne (m * c) n < rne (u * c) v := by
  refine Nat.lt_of_not_le fun hle => ?_
  have a := rne_hi (m * c) n n1
  have b := rne_lo (u * c) v v1
  have a' := Nat.mul_le_mul_right v a
  have b' := Nat.mul_le_mul_right n b
  have h1 : c ≤ u * n * c - m * v * c := by
    have : (m * v + 1) * c ≤ u * n * c := Nat.mul_le_mul_right _ h
    rw [Nat.add_mul] at this
    omega
  have h2 : rne (u * c) v * (2 * v) * n ≤ rne (m * c) n * (2 * n) * v := by
    have e : rne (u * c) v * (2 * v) * n = rne (u * c) v * (2 * n * v) := by ac_rfl
    have e' : rne (m * c) n * (2 * n) * v = rne (m * c) n * (2 * n * v) := by ac_rfl
    rw [e, e']
    exact Nat.mul_le_mul_right _ hle
  have e1 : (2 * (m * c) + n) * v = 2 * (m * v * c) + n * v := by rw [Nat.add_mul]; congr 1; ac_rfl
  have e2 : 2 * (u * c) * n = 2 * (u * n * c) := by ac_rfl
  have e3 : (rne (u * c) v * (2 * v) + v) * n = rne (u * c) v * (2 * v) * n + n * v := by rw [Nat.add_mul, Nat.mul_comm v n]
  rw [e1] at a'
  rw [e2, e3] at b'
  omega

theorem K_mono {m n u v K K' : Nat} (n1 : 1 ≤ n) (v1 : 1 ≤ v) (h : m * v ≤ u * n) (k3 : 2 ^ K * n ≤ m * 2 ^ 40) (k4 : u * 2 ^ 40 < 2 ^ (K' + 1) * v) : K ≤ K' := by
  refine Nat.le_of_not_lt fun hlt => ?_
  have hp : 2 ^ (K' + 1) ≤ 2 ^ K := Nat.pow_le_pow_right (by decide) hlt
  have a := Nat.mul_le_mul_right v k3
  have b := mul_pos_lt k4 n1
  have c := Nat.mul_le_mul_right (2 ^ 40) h
  have d := Nat.mul_le_mul_right (n * v) hp
  have e1 : 2 ^ K * n * v = 2 ^ K * (n * v) := by ac_rfl
  have e2 : m * 2 ^ 40 * v = m * v * 2 ^ 40 := by ac_rfl
  have e3 : u * 2 ^ 40 * n = u * n * 2 ^ 40 := by ac_rfl
  have e4 : 2 ^ (K' + 1) * v * n = 2 ^ (K' + 1) * (n * v) := by ac_rfl
  rw [e1, e2] at a
  rw [e3, e4] at b
  omega

/-- What is rounded stays below the next power. -/
theorem rne_top {m n K : Nat} (m1 : 1 ≤ m) (m2 : m < 4294967296) (n1 : 1 ≤ n) (n2 : n < 4294967296) (k1 : 8 ≤ K) (k2 : K ≤ 72) (k3 : 2 ^ K * n ≤ m * 2 ^ 40) (k4 : m * 2 ^ 40 < 2 ^ (K + 1) * n) : rne (m * 2 ^ (92 - K)) n < 9007199254740992 := by
  obtain ⟨r1, r2⟩ := reach (by omega) n1 k3 k4
  have hs := pow_split K (by omega)
  -- m c ≤ 2^53 n - (a multiple that is more than n)
  refine Nat.lt_of_not_le fun hle => ?_
  have a := rne_hi (m * 2 ^ (92 - K)) n n1
  have b := Nat.mul_le_mul_right (2 * n) hle
  -- 2 * 2^53 * n ≤ 2 m c + n
  by_cases hK : 39 ≤ K
  · -- c divides 2^53: 2^53 = c * 2^(K - 39)
    have e : 2 ^ (92 - K) * 2 ^ (K - 39) = 2 ^ 53 := by rw [← Nat.pow_add]; congr 1; omega
    have hlt : m < 2 ^ (K - 39) * n := by
      apply Nat.lt_of_mul_lt_mul_right (a := 2 ^ (92 - K))
      have : 2 ^ (K - 39) * n * 2 ^ (92 - K) = 2 ^ 53 * n := by rw [← e]; ac_rfl
      rw [this]; exact r2
    have h1 : (m + 1) * 2 ^ (92 - K) ≤ 2 ^ (K - 39) * n * 2 ^ (92 - K) := Nat.mul_le_mul_right _ hlt
    have h2 : 2 ^ (K - 39) * n * 2 ^ (92 - K) = 2 ^ 53 * n := by rw [← e]; ac_rfl
    rw [h2, Nat.add_mul, Nat.one_mul] at h1
    -- so c ≤ n / 2: but c m ≥ 2^52 n
    have h3 : m * 2 ^ (92 - K) ≤ m * n := Nat.mul_le_mul_left _ (by omega)
    have h4 : m * n < 4294967296 * n := mul_pos_lt m2 n1
    omega
  · -- 2^53 divides c
    have e : 2 ^ (92 - K) = 2 ^ 53 * 2 ^ (39 - K) := by rw [← Nat.pow_add]; congr 1; omega
    have hlt : m * 2 ^ (39 - K) < n := by
      apply Nat.lt_of_mul_lt_mul_left (a := 2 ^ 53)
      have : 2 ^ 53 * (m * 2 ^ (39 - K)) = m * 2 ^ (92 - K) := by rw [e]; ac_rfl
      rw [this]; exact r2
    have h1 : m * 2 ^ (92 - K) = 2 ^ 53 * (m * 2 ^ (39 - K)) := by rw [e]; ac_rfl
    generalize m * 2 ^ (39 - K) = x at *
    omega

/-- The greater fraction has the greater word. -/
theorem rung_lt {m n u v : Nat} (m1 : 1 ≤ m) (m2 : m < 4294967296) (n1 : 1 ≤ n) (n2 : n < 4294967296) (u1 : 1 ≤ u) (u2 : u < 4294967296) (v1 : 1 ≤ v) (v2 : v < 4294967296) (h : m * v < u * n) (hb : m * v < 4503599627370496) : rungQ m n < rungQ u v := by
  obtain ⟨_, K, k1, k2, k3, k4, e⟩ := div_rung m1 m2 n1 n2
  obtain ⟨_, K', l1, l2, l3, l4, e'⟩ := div_rung u1 u2 v1 v2
  rw [e, e']
  have hK := K_mono n1 v1 (Nat.le_of_lt h) k3 l4
  obtain ⟨r1, r2⟩ := reach (by omega) n1 k3 k4
  obtain ⟨s1, s2⟩ := reach (by omega) v1 l3 l4
  rcases Nat.lt_or_eq_of_le hK with hlt | rfl
  · have t := rne_top m1 m2 n1 n2 k1 k2 k3 k4
    have t' : 4503599627370496 ≤ rne (u * 2 ^ (92 - K')) v := rne_ge v1 s1
    clear r1 r2 s1 s2 k3 k4 l3 l4 e e'
    generalize rne (u * 2 ^ (92 - K')) v = x at *
    generalize rne (m * 2 ^ (92 - K)) n = y at *
    omega
  · have hc : n * v < 2 ^ (92 - K) := by
      refine Nat.lt_of_not_le fun hle => ?_
      have a : m * 2 ^ (92 - K) ≤ m * (n * v) := Nat.mul_le_mul_left _ hle
      have b : m * (n * v) = m * v * n := by ac_rfl
      have c : m * v * n < 2 ^ 52 * n := mul_pos_lt hb n1
      rw [b] at a
      exact Nat.lt_irrefl _ (Nat.lt_of_lt_of_le (Nat.lt_of_le_of_lt a c) r1)
    have := rne_lt n1 v1 h hc
    exact Nat.add_lt_add_left this _
/-- The same fraction has the same word. -/
theorem rung_eq {m n u v : Nat} (m1 : 1 ≤ m) (m2 : m < 4294967296) (n1 : 1 ≤ n) (n2 : n < 4294967296) (u1 : 1 ≤ u) (u2 : u < 4294967296) (v1 : 1 ≤ v) (v2 : v < 4294967296) (h : m * v = u * n) : rungQ m n = rungQ u v := by
  obtain ⟨_, K, k1, k2, k3, k4, e⟩ := div_rung m1 m2 n1 n2
  obtain ⟨_, K', l1, l2, l3, l4, e'⟩ := div_rung u1 u2 v1 v2
  rw [e, e']
  have a := K_mono n1 v1 (Nat.le_of_eq h) k3 l4
  have b := K_mono v1 n1 (Nat.le_of_eq h.symm) l3 k4
  obtain rfl : K = K' := by omega
  have : rne (m * 2 ^ (92 - K)) n = rne (u * 2 ^ (92 - K)) v := by
    refine rne_ratio n1 v1 ?_
    have e1 : m * 2 ^ (92 - K) * v = m * v * 2 ^ (92 - K) := by ac_rfl
    have e2 : u * 2 ^ (92 - K) * n = u * n * 2 ^ (92 - K) := by ac_rfl
    rw [e1, e2, h]
  rw [this]
theorem rung_bd {m n : Nat} (m1 : 1 ≤ m) (m2 : m < 4294967296) (n1 : 1 ≤ n) (n2 : n < 4294967296) : 4503599627370496 ≤ rungQ m n ∧ rungQ m n < 9218868437227405312 := by
  obtain ⟨_, K, k1, k2, k3, k4, e⟩ := div_rung m1 m2 n1 n2
  have t := rne_top m1 m2 n1 n2 k1 k2 k3 k4
  rw [e]
  omega
end Go.Proofs.Ytphiimgfbigogaa
