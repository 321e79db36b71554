/- The quotient of two doubles that stand for whole numbers. Plain facts, nothing of the program. -/
import Derived.Test.YtphiimgfbigogaaDiv
namespace Go.Proofs.Ytphiimgfbigogaa
open Ieee
set_option linter.unusedVariables false

theorem near_q (s : Bool) {mag g d : Nat} {p : Int} (hg : mag.log2 = g) (h0 : mag ≠ 0) (hd : g = d + 52) (hp : -200 ≤ p) (hp2 : p ≤ 200) (hd2 : d = 2 ∨ d = 3) {k : Nat} (hk : Toward.even.cut s mag d = k) (hk2 : k ≤ 9007199254740992) :
    double.nearest s mag p = double.word s ((p + d + 1074).toNat * 4503599627370496 + k) := by
  have e2 : double.binade = 4503599627370496 := by decide
  have e3 : double.infRung = 9218868437227405312 := by decide
  have e4 : double.leastPlace = -1074 := by decide
  have e5 : double.fractionBits = 52 := rfl
  unfold Format.nearest
  rw [if_neg h0]
  simp only [e2, e3, e4, e5, hg]
  have l1 : max (p + g - ((52 : Nat) : Int)) (-1074) = p + d := by omega
  rw [l1]
  have l2 : (p - (p + d)).toNat = 0 := by omega
  have l3 : (p + d - p).toNat = d := by omega
  have l4 : (p + d - -1074).toNat = (p + d + 1074).toNat := by omega
  rw [l2, l3, l4, Nat.shiftLeft_zero, hk, Nat.min_eq_left (by omega)]

theorem rne_le {a d c : Nat} (hd : 0 < d) (h : a ≤ c * d) : rne a d ≤ c := by
  have h1 := rne_hi a d hd
  refine Nat.le_of_not_lt fun hlt => ?_
  have h2 : (c + 1) * (2 * d) ≤ rne a d * (2 * d) := Nat.mul_le_mul_right _ hlt
  have e : (c + 1) * (2 * d) = 2 * (c * d) + 2 * d := by rw [Nat.add_mul, Nat.mul_left_comm]; omega
  omega
theorem rne_ge {a d c : Nat} (hd : 0 < d) (h : c * d ≤ a) : c ≤ rne a d := by
  have h1 := rne_lo a d hd
  refine Nat.le_of_not_lt fun hlt => ?_
  have h2 : (rne a d + 1) * (2 * d) ≤ c * (2 * d) := Nat.mul_le_mul_right _ hlt
  have e : (rne a d + 1) * (2 * d) = rne a d * (2 * d) + 2 * d := by rw [Nat.add_mul]; omega
  have e2 : c * (2 * d) = 2 * (c * d) := by rw [Nat.mul_left_comm]
  omega

theorem quo_core (s t : Bool) {M N : Nat} {i j : Int} (m1 : 4503599627370496 ≤ M) (m2 : M < 9007199254740992) (n1 : 4503599627370496 ≤ N) (n2 : N < 9007199254740992) (hij : -100 ≤ i - j) (hij2 : i - j ≤ 100) :
    ∃ d : Nat, ((N ≤ M ∧ d = 3) ∨ (M < N ∧ d = 2)) ∧ (Datum.quotient 54 (.number s M i) (.number t N j)).map double.write = some (double.word (s ^^ t) ((i - j + d + 1019).toNat * 4503599627370496 + rne (M * 2 ^ (55 - d)) N)) := by
  have lm : M.log2 = 52 := log2_is m1 m2
  have ln : N.log2 = 52 := log2_is n1 n2
  have hN : 0 < N := by omega
  simp only [Datum.quotient]
  rw [if_neg (by omega), lm, ln]
  simp only [Option.map_some, Format.write, Nat.shiftLeft_eq, show 54 + 52 - 52 = 54 by decide]
  by_cases h : N ≤ M
  · refine ⟨3, .inl ⟨h, rfl⟩, ?_⟩
    have hA : M * 2 ^ 54 = M * 2 ^ (55 - 3) * 2 ^ (3 - 1) := by rw [Nat.mul_assoc, ← Nat.pow_add]
    have q1 : 2 ^ 54 ≤ M * 2 ^ 54 / N := by
      rw [Nat.le_div_iff_mul_le hN]
      rw [Nat.mul_comm]
      exact Nat.mul_le_mul_right _ h
    have q2 : M * 2 ^ 54 / N < 2 ^ 55 := by
      rw [Nat.div_lt_iff_lt_mul hN]
      omega
    have ht : (M * 2 ^ 54 % N != 0).toNat ≤ 1 := Bool.toNat_le _
    have hlog : (2 * (M * 2 ^ 54 / N) + (M * 2 ^ 54 % N != 0).toNat).log2 = 55 := log2_is (by omega) (by omega)
    have h0 : 2 * (M * 2 ^ 54 / N) + (M * 2 ^ 54 % N != 0).toNat ≠ 0 := by omega
    have hk := kept_is (A := M * 2 ^ (55 - 3)) (D := N) (d := 3) hN (.inr rfl) (s ^^ t) 55 (by omega) (by rw [← hA]; exact hlog)
    rw [← hA] at hk
    have hle : rne (M * 2 ^ (55 - 3)) N ≤ 9007199254740992 := rne_le hN (by omega)
    rw [near_q (s ^^ t) hlog h0 (by omega) (by omega) (by omega) (.inr rfl) hk hle]
    have hx : (i - j - ((54 : Nat) : Int) - 1 + ((3 : Nat) : Int) + 1074).toNat = (i - j + ((3 : Nat) : Int) + 1019).toNat := by omega
    rw [hx]
  · refine ⟨2, .inr ⟨by omega, rfl⟩, ?_⟩
    have hA : M * 2 ^ 54 = M * 2 ^ (55 - 2) * 2 ^ (2 - 1) := by rw [Nat.mul_assoc, ← Nat.pow_add]
    have q1 : 2 ^ 53 ≤ M * 2 ^ 54 / N := by
      rw [Nat.le_div_iff_mul_le hN]
      omega
    have q2 : M * 2 ^ 54 / N < 2 ^ 54 := by
      rw [Nat.div_lt_iff_lt_mul hN]
      rw [Nat.mul_comm]
      exact Nat.mul_lt_mul_of_pos_left (by omega) (by decide)
    have ht : (M * 2 ^ 54 % N != 0).toNat ≤ 1 := Bool.toNat_le _
    have hlog : (2 * (M * 2 ^ 54 / N) + (M * 2 ^ 54 % N != 0).toNat).log2 = 54 := log2_is (by omega) (by omega)
    have h0 : 2 * (M * 2 ^ 54 / N) + (M * 2 ^ 54 % N != 0).toNat ≠ 0 := by omega
    have hk := kept_is (A := M * 2 ^ (55 - 2)) (D := N) (d := 2) hN (.inl rfl) (s ^^ t) 54 (by omega) (by rw [← hA]; exact hlog)
    rw [← hA] at hk
    have hle : rne (M * 2 ^ (55 - 2)) N ≤ 9007199254740992 := rne_le hN (by omega)
    rw [near_q (s ^^ t) hlog h0 (by omega) (by omega) (by omega) (.inl rfl) hk hle]
    have hx : (i - j - ((54 : Nat) : Int) - 1 + ((2 : Nat) : Int) + 1074).toNat = (i - j + ((2 : Nat) : Int) + 1019).toNat := by omega
    rw [hx]

/-- A share's word: of which rung it is. -/
theorem div_word {m n : Nat} (m1 : 1 ≤ m) (m2 : m < 4294967296) (n1 : 1 ≤ n) (n2 : n < 4294967296) :
    ∃ K, 8 ≤ K ∧ K ≤ 72 ∧ 2 ^ K * n ≤ m * 2 ^ 40 ∧ m * 2 ^ 40 < 2 ^ (K + 1) * n ∧ ∀ s t, double.div (double.nearest s m 0) (double.nearest t n 0) = some (double.word (s ^^ t) ((K + 982) * 4503599627370496 + rne (m * 2 ^ (92 - K)) n)) := by
  obtain ⟨L, hL⟩ : ∃ L, m.log2 = L := ⟨_, rfl⟩
  obtain ⟨J, hJ⟩ : ∃ J, n.log2 = J := ⟨_, rfl⟩
  have L31 : L < 32 := by rw [← hL]; exact (Nat.log2_lt (by omega)).2 m2
  have J31 : J < 32 := by rw [← hJ]; exact (Nat.log2_lt (by omega)).2 n2
  have hr : ∀ s, _ := fun s => read_int s (m := m) (L := L) (by omega) hL (by omega)
  have hs : ∀ s, _ := fun s => read_int s (m := n) (L := J) (by omega) hJ (by omega)
  obtain ⟨_, b1, b2⟩ := hr true
  obtain ⟨_, c1, c2⟩ := hs true
  obtain ⟨d, hd, _⟩ := quo_core true true (i := (L : Int) - 52) (j := (J : Int) - 52) b1 b2 c1 c2 (by omega) (by omega)
  have hdd : d = 2 ∨ d = 3 := by rcases hd with ⟨_, h⟩ | ⟨_, h⟩ <;> omega
  refine ⟨37 + L + d - J, by omega, by omega, ?_, ?_, ?_⟩
  · -- 2^K n ≤ m 2^40: times 2^(52-J)
    apply Nat.le_of_mul_le_mul_right _ (Nat.two_pow_pos (52 - J))
    have e1 : 2 ^ (37 + L + d - J) * n * 2 ^ (52 - J) = n * 2 ^ (52 - J) * 2 ^ (37 + L + d - J) := by
      rw [Nat.mul_comm (2 ^ (37 + L + d - J)) n, Nat.mul_right_comm]
    have e2 : m * 2 ^ 40 * 2 ^ (52 - J) = m * 2 ^ (52 - L) * 2 ^ (40 + L - J) := by
      rw [Nat.mul_assoc, Nat.mul_assoc, ← Nat.pow_add, ← Nat.pow_add]; congr 2; omega
    rw [e1, e2]
    rcases hd with ⟨h, rfl⟩ | ⟨h, rfl⟩
    · rw [show 37 + L + 3 - J = 40 + L - J by omega]
      exact Nat.mul_le_mul_right _ h
    · rw [show 40 + L - J = 1 + (37 + L + 2 - J) by omega, Nat.pow_add, ← Nat.mul_assoc]
      exact Nat.mul_le_mul_right _ (by omega)
  · apply Nat.lt_of_mul_lt_mul_right (a := 2 ^ (52 - J))
    have e1 : 2 ^ (37 + L + d - J + 1) * n * 2 ^ (52 - J) = n * 2 ^ (52 - J) * 2 ^ (37 + L + d - J + 1) := by
      rw [Nat.mul_comm (2 ^ (37 + L + d - J + 1)) n, Nat.mul_right_comm]
    have e2 : m * 2 ^ 40 * 2 ^ (52 - J) = m * 2 ^ (52 - L) * 2 ^ (40 + L - J) := by
      rw [Nat.mul_assoc, Nat.mul_assoc, ← Nat.pow_add, ← Nat.pow_add]; congr 2; omega
    rw [e1, e2]
    rcases hd with ⟨h, rfl⟩ | ⟨h, rfl⟩
    · rw [show 37 + L + 3 - J + 1 = 1 + (40 + L - J) by omega, Nat.pow_add, ← Nat.mul_assoc]
      exact Nat.mul_lt_mul_of_pos_right (by omega) (Nat.two_pow_pos _)
    · rw [show 37 + L + 2 - J + 1 = 40 + L - J by omega]
      exact Nat.mul_lt_mul_of_pos_right h (Nat.two_pow_pos _)
  · intro s t
    obtain ⟨d', hd', hq⟩ := quo_core s t (i := (L : Int) - 52) (j := (J : Int) - 52) b1 b2 c1 c2 (by omega) (by omega)
    have : d' = d := by rcases hd with ⟨_, h⟩ | ⟨_, h⟩ <;> rcases hd' with ⟨_, h'⟩ | ⟨_, h'⟩ <;> omega
    subst this
    unfold Format.div
    rw [(hr s).1, (hs t).1]
    refine hq.trans ?_
    have a1 : ((L : Int) - 52 - ((J : Int) - 52) + d' + 1019).toNat = 37 + L + d' - J + 982 := by omega
    have a2 : rne (m * 2 ^ (52 - L) * 2 ^ (55 - d')) (n * 2 ^ (52 - J)) = rne (m * 2 ^ (92 - (37 + L + d' - J))) n := by
      refine rne_ratio (by omega) (by omega) ?_
      have p : 2 ^ (52 - L) * 2 ^ (55 - d') = 2 ^ (92 - (37 + L + d' - J)) * 2 ^ (52 - J) := by
        rw [← Nat.pow_add, ← Nat.pow_add]; congr 1; omega
      rw [Nat.mul_assoc m, p]
      generalize 2 ^ (92 - (37 + L + d' - J)) = X
      generalize 2 ^ (52 - J) = Y
      ac_rfl
    rw [a1, a2]
end Go.Proofs.Ytphiimgfbigogaa
