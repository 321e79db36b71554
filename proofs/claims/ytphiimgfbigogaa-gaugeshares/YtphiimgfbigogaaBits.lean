/- The highest bit of a word: plain facts. -/
import Derived.Laws.BitsAllLaws
import Derived.Laws.Entries
namespace Go.Proofs.Ytphiimgfbigogaa
set_option linter.unusedVariables false

theorem top_and (b : Nat) (hb : b < 18446744073709551616) : b &&& 9223372036854775808 = if 9223372036854775808 ≤ b then 9223372036854775808 else 0 := by
  have h := Nat.and_mod_two_pow (a := b) (b := 2 ^ 63) (n := 63)
  have h2 : (b &&& 2 ^ 63) / 2 ^ 63 = (b / 2 ^ 63) &&& 1 := by
    have := Nat.shiftRight_and_distrib (a := b) (b := 2 ^ 63) (i := 63)
    simpa [Nat.shiftRight_eq_div_pow] using this
  have e1 : b % 2 ^ 63 &&& 2 ^ 63 % 2 ^ 63 = 0 := by simp
  rw [e1] at h
  have hd := Nat.div_add_mod (b &&& 2 ^ 63) (2 ^ 63)
  rw [h2, h] at hd
  rw [show (2 : Nat) ^ 63 = 9223372036854775808 by decide] at *
  by_cases hh : 9223372036854775808 ≤ b
  · rw [show b / 9223372036854775808 = 1 by omega] at hd
    rw [if_pos hh]; simp at hd; omega
  · rw [show b / 9223372036854775808 = 0 by omega] at hd
    rw [if_neg hh]; simp at hd; omega
theorem top_or (b : Nat) (hb : b < 9223372036854775808) : b ||| 9223372036854775808 = b + 9223372036854775808 := by
  have h := Nat.or_mod_two_pow (a := b) (b := 2 ^ 63) (n := 63)
  have h2 : (b ||| 2 ^ 63) / 2 ^ 63 = (b / 2 ^ 63) ||| 1 := by
    have := Nat.shiftRight_or_distrib (a := b) (b := 2 ^ 63) (i := 63)
    simpa [Nat.shiftRight_eq_div_pow] using this
  have e1 : b % 2 ^ 63 ||| 2 ^ 63 % 2 ^ 63 = b % 2 ^ 63 := by simp
  rw [e1] at h
  have hd := Nat.div_add_mod (b ||| 2 ^ 63) (2 ^ 63)
  rw [h2, h] at hd
  rw [show (2 : Nat) ^ 63 = 9223372036854775808 by decide] at *
  rw [show b / 9223372036854775808 = 0 by omega] at hd
  simp at hd; omega
theorem all_xor (b : Nat) (hb : b < 18446744073709551616) : 18446744073709551615 ^^^ b = 18446744073709551615 - b := by
  have h := congrArg BitVec.toNat (BitVec.allOnes_xor (x := BitVec.ofNat 64 b))
  rw [BitVec.toNat_xor, BitVec.toNat_not, BitVec.toNat_allOnes, BitVec.toNat_ofNat, Nat.mod_eq_of_lt (by simpa using hb)] at h
  simpa using h
theorem top_andnot (b : Nat) : b &&& 9223372036854775807 = b % 9223372036854775808 := Nat.and_two_pow_sub_one_eq_mod b 63

theorem key_and (n : Int) (h0 : 0 ≤ n) (hb : n ≤ 18446744073709551615) : bits .and .u64 n 9223372036854775808 = if 9223372036854775808 ≤ n then 9223372036854775808 else 0 := by
  obtain ⟨b, rfl⟩ := Int.eq_ofNat_of_zero_le h0
  have h := u64_and_nat b 9223372036854775808 (by omega) (by omega)
  rw [top_and b (by omega)] at h
  refine h.trans ?_
  split <;> split <;> omega
theorem key_xor (n : Int) (h0 : 0 ≤ n) (hb : n ≤ 18446744073709551615) : bits .xor .u64 IntKind.u64.max n = 18446744073709551615 - n := by
  obtain ⟨b, rfl⟩ := Int.eq_ofNat_of_zero_le h0
  have h := u64_xor_nat 18446744073709551615 b (by omega) (by omega)
  rw [all_xor b (by omega)] at h
  refine Eq.trans ?_ (h.trans (by omega))
  rfl
theorem key_or (n : Int) (h0 : 0 ≤ n) (hb : n < 9223372036854775808) : bits .or .u64 n 9223372036854775808 = n + 9223372036854775808 := by
  obtain ⟨b, rfl⟩ := Int.eq_ofNat_of_zero_le h0
  have h := u64_or_nat b 9223372036854775808 (by omega) (by omega)
  rw [top_or b (by omega)] at h
  exact h.trans (by omega)
theorem key_andnot (n : Int) (h0 : 9223372036854775808 ≤ n) (hb : n ≤ 18446744073709551615) : bits .andNot .u64 n 9223372036854775808 = n - 9223372036854775808 := by
  obtain ⟨b, rfl⟩ := Int.eq_ofNat_of_zero_le (show 0 ≤ n by omega)
  have h := u64_andNot_nat b 9223372036854775808 (by omega) (by omega)
  rw [show (18446744073709551615 - 9223372036854775808 : Nat) = 9223372036854775807 by decide, top_andnot b] at h
  exact h.trans (by omega)
end Go.Proofs.Ytphiimgfbigogaa
