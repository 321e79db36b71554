/- Count. -/
import Derived.Test.YtiomiaciaefbaaaDoorNew
namespace Go.Proofs.YtiomiaciaefbaaaDoor
open Go.RowKit
set_option linter.unusedVariables false
set_option linter.unusedSimpArgs false

theorem count_bits (x s m : Nat) (h1 : 1 ≤ m) (h : s + m ≤ 64) : pop 64 (x / 2 ^ s * 2 ^ (64 - m) % 18446744073709551616) = cnt (fun i => x.testBit (s + i)) m := by
  have e : (18446744073709551616 : Nat) = 2 ^ 64 := by decide
  rw [e, pop_mod 64 64 _ (Nat.le_refl _)]
  obtain ⟨k, hk⟩ : ∃ k, 64 - m = k := ⟨_, rfl⟩
  rw [hk]
  have h64 : 64 = k + m := by omega
  rw [show pop 64 = pop (k + m) from by rw [← h64]]
  unfold pop
  rw [cnt_add, cnt_none k fun i hi => ?_, Nat.zero_add]
  · apply cnt_congr
    intro i hi
    rw [Nat.testBit_mul_two_pow, Nat.testBit_div_two_pow]
    simp only [Nat.le_add_right, decide_true, Bool.true_and]
    congr 1
    omega
  · rw [Nat.testBit_mul_two_pow]
    simp; omega
theorem count_word (ws : List Nat) (a m : Nat) (h1 : 1 ≤ m) (h : a % 64 + m ≤ 64) : pop 64 (ws.getD (a / 64) 0 / 2 ^ (a % 64) * 2 ^ (64 - m) % 18446744073709551616) = span (bit ws) a (a + m) := by
  rw [count_bits _ _ _ h1 h]
  unfold span
  rw [show a + m - a = m from by omega]
  apply cnt_congr
  intro i hi
  unfold bit
  rw [show (a + i) / 64 = a / 64 from by omega, show (a + i) % 64 = a % 64 + i from by omega]

theorem ones_int (z : Int) (y : Nat) (w : World) (hz : z = y) (hy : y < 18446744073709551616) (r : Nat) (hr : pop 64 y = r) :
    Calls Tryd.prog 19 #[.int .u64 z] w fun e w' => e = .returned (.int .i64 r) ∧ w = w' := by
  subst hz hr
  exact ones_any y hy w
theorem shl_eq (x s k : Nat) : IntKind.u64.wrap ((x : Int) / 2 ^ s * 2 ^ k) = ((x / 2 ^ s * 2 ^ k % 18446744073709551616 : Nat) : Int) := by
  rw [IntKind.wrap_u64]
  simp

section
variable {w : World} {g gw n : Nat} {ws : List Nat}
set_option maxRecDepth 100000 in
set_option maxHeartbeats 1000000 in
theorem count_yes (h : At w g gw n ws) (a b : Nat) (hab : a ≤ b) (hb : b ≤ n) :
    Calls Tryd.prog 11 #[.pointer (some ⟨g, 0, none⟩), .int .i64 a, .int .i64 b] w fun e w' => e = .returned (.tuple #[.int .i64 (span (bit ws) a b), .int .i64 0]) ∧ w = w' := by
  have hn := h.most
  have hc0 := h.c0
  have hc1 := h.c1
  have d1 : decide ((a : Int) < 0) = false := by simp
  have d2 : decide (b < a) = false := by simp; omega
  have d3 : decide (n < b) = false := by simp; omega
  obtain ⟨L, hL⟩ : ∃ L, ws.length = L := ⟨_, rfl⟩
  rw [hL] at hc1
  have HL := Lib.hid hL
  have hL2 : L ≤ 1024 := by have := h.many; omega
  have H := Lib.hid h
  clear h hL
  have HS := Lib.hid (span_self (bit ws) a)
  go_enter Tryd.func11, Tryd.ntmps11
  go_wp2
  go_loop [8, 9] (fun c i => ∃ j k : Nat, a ≤ j ∧ j ≤ b ∧ i = .int .i64 j ∧ c = .int .i64 k ∧ k = span (bit ws) a j) (fun _ i => b - (intOf i).toNat)
  case atStart => exact ⟨a, 0, Nat.le_refl _, hab, rfl, rfl, HS.out.symm⟩
  case round =>
    obtain ⟨j, k, h1, h2, rfl, rfl, hk⟩ := hrel
    have HK := Lib.hid hk
    have hkb : k ≤ j - a := by rw [hk]; exact span_le _ _ _
    clear hk
    by_cases hlt : j < b
    · have hq := H.out.place (p := j) (by omega)
      have hc2 := H.out.word hq
      have hxl := H.out.lt (j / 64)
      rw [HL.out] at hq
      obtain ⟨x, hx⟩ : ∃ x, ws.getD (j / 64) 0 = x := ⟨_, rfl⟩
      rw [hx] at hc2 hxl
      have HX := Lib.hid hx
      clear hx
      have hq2 : (j : Int) / 64 < (L : Int) := by omega
      have hq3 : (0 : Int) ≤ (j : Int) / 64 := by omega
      have hq4 : ((j : Int) / 64).toNat = j / 64 := by omega
      by_cases hmin : b - j ≤ 64 - j % 64
      · obtain ⟨r, hr⟩ : ∃ r, span (bit ws) j b = r := ⟨_, rfl⟩
        have hrb : r ≤ b - j := by rw [← hr]; exact span_le _ _ _
        have hw := count_word ws j (b - j) (by omega) (by omega)
        rw [HX.out, show j + (b - j) = b from by omega, hr] at hw
        have HR := Lib.hid hr
        have HW := Lib.hid hw
        clear hr hw
        go_wp2_with fail
        refine (ones_int _ _ _ (shl_eq _ _ _) (Nat.mod_lt _ (by decide)) r HW.out).mono ?_
        rintro e w1 ⟨rfl, rfl⟩
        go_wp2
        exact ⟨⟨b, k + r, by omega, Nat.le_refl _, by go_num, by go_num, by rw [HK.out, ← HR.out]; exact (span_add _ _ _ _ h1 h2).symm⟩, by simp [intOf]; omega⟩
      · obtain ⟨r, hr⟩ : ∃ r, span (bit ws) j (j + (64 - j % 64)) = r := ⟨_, rfl⟩
        have hrb : r ≤ 64 - j % 64 := by
          rw [← hr]
          have := span_le (bit ws) j (j + (64 - j % 64))
          omega
        have hw := count_word ws j (64 - j % 64) (by omega) (by omega)
        rw [HX.out, hr] at hw
        have HR := Lib.hid hr
        have HW := Lib.hid hw
        clear hr hw
        go_wp2_with fail
        refine (ones_int _ _ _ (shl_eq _ _ _) (Nat.mod_lt _ (by decide)) r HW.out).mono ?_
        rintro e w1 ⟨rfl, rfl⟩
        go_wp2
        exact ⟨⟨j + (64 - j % 64), k + r, by omega, by omega, by go_num, by go_num, by rw [HK.out, ← HR.out]; exact (span_add _ _ _ _ h1 (by omega)).symm⟩, by simp [intOf]; omega⟩
    · have hj : j = b := by omega
      subst hj
      go_wp2
      go_ret2
      refine ⟨?_, rfl⟩
      rw [← HK.out]
      rfl

set_option maxHeartbeats 1000000 in
theorem count_no (h : At w g gw n ws) (a b : Int) (hz : a < 0 ∨ b < a ∨ (n : Int) < b) :
    Calls Tryd.prog 11 #[.pointer (some ⟨g, 0, none⟩), .int .i64 a, .int .i64 b] w fun e w' => e = .returned (.tuple #[.int .i64 0, .int .i64 1]) ∧ w = w' := by
  have hc0 := h.c0
  clear h
  by_cases h1 : a < 0
  · have d1 : decide (a < 0) = true := by simp; omega
    go_enter Tryd.func11, Tryd.ntmps11
    go_wp2
    go_ret2
    exact ⟨rfl, rfl⟩
  have d1 : decide (a < 0) = false := by simp; omega
  by_cases h2 : b < a
  · have d2 : decide (b < a) = true := by simp; omega
    go_enter Tryd.func11, Tryd.ntmps11
    go_wp2
    go_ret2
    exact ⟨rfl, rfl⟩
  have d2 : decide (b < a) = false := by simp; omega
  have d3 : decide ((n : Int) < b) = true := by simp; omega
  go_enter Tryd.func11, Tryd.ntmps11
  go_wp2
  go_ret2
  exact ⟨rfl, rfl⟩
end
end Go.Proofs.YtiomiaciaefbaaaDoor
