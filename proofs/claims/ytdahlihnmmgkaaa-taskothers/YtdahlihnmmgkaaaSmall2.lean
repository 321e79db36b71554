/- The walks of TaskWords and TaskOthers: they return true whatever they are handed, and turn nothing that was there. -/
import Derived.Test.YtdahlihnmmgkaaaBase
import Derived.Lib.Hide
namespace Go.Proofs.Ytdahlihnmmgkaaa
open Go.RowKit
set_option linter.unusedVariables false

set_option maxHeartbeats 1000000 in
theorem words_walk (n : Int) (w : World) (hw : n < 9223372036854775808) :
    Calls Try.prog 4 #[.int .i64 n] w fun e w' => e = .returned (.bool true) ∧ Below w.heap.size w w' := by
  cases hh : wordB n with
  | false =>
    go_enter Try.func4, Try.ntmps4
    go_wp2_with fail
    refine (awake_any _).mono ?_
    rintro e w1 ⟨rfl, hb1⟩
    have hz1 := hb1.size
    go_wp2_with fail
    refine (unpack_no n _ hh hw).mono ?_
    rintro e w2 ⟨rfl, hb2⟩
    have hB2 : Below w.heap.size w w2 := on hb1 (by omega) hb2
    have hz2 := hb2.size
    go_wp2_with fail
    refine (refUnpack_no n _ hh hw).mono ?_
    rintro e w3 ⟨rfl, hb3⟩
    obtain ⟨hc3, hf3⟩ := kept hb3
    have hB3 : Below w.heap.size w w3 := on (hB2.alloc (by omega) _) (by simp; omega) hb3
    have hlt3 : w2.heap.size < w3.heap.size := by have := hb3.size; simp at this; omega
    go_wp2
    go_ret
    exact ⟨rfl, hB3⟩
  | true =>
    have hg := word_good hh
    have hp := pack_word hh
    go_enter Try.func4, Try.ntmps4
    go_wp2_with fail
    refine (awake_any _).mono ?_
    rintro e w1 ⟨rfl, hb1⟩
    have hz1 := hb1.size
    go_wp2_with fail
    refine (unpack_yes n _ hh).mono ?_
    rintro e w2 ⟨rfl, hb2⟩
    have hB2 : Below w.heap.size w w2 := on hb1 (by omega) hb2
    have hz2 := hb2.size
    go_wp2_with fail
    refine (refUnpack_yes n _ hh).mono ?_
    rintro e w3 ⟨rfl, hb3⟩
    obtain ⟨hc3, hf3⟩ := kept hb3
    have hB3 : Below w.heap.size w w3 := on (hB2.alloc (by omega) _) (by simp; omega) hb3
    have hlt3 : w2.heap.size < w3.heap.size := by have := hb3.size; simp at this; omega
    generalize (n - 1) % 65536 = a at *
    generalize (n - 1) / 268435456 = b at *
    generalize (n - 1) % 268435456 / 65536 = c at *
    go_wp2_with fail
    refine (pack_yes a c b _ hg).mono ?_
    rintro e w4 ⟨rfl, hb4⟩
    obtain ⟨hc4, hf4⟩ := kept hb4
    have hB4 : Below w.heap.size w w4 := on hB3 hB3.size hb4
    have hz4 := hb4.size
    have hlt5 : w2.heap.size < w4.heap.size := by omega
    rw [hp]
    go_wp2
    go_ret
    exact ⟨rfl, hB4⟩

set_option maxHeartbeats 1000000 in
theorem others_yes (a f t a' f' t' : Int) (w : World) (hg : goodB a f t = true) (hg' : goodB a' f' t' = true) :
    Calls Try.prog 6 #[.agg #[.int .i64 a, .int .i64 f, .int .i64 t], .agg #[.int .i64 a', .int .i64 f', .int .i64 t']] w fun e w' => e = .returned (.bool true) ∧ Below w.heap.size w w' := by
  have H2 : Hid (packW a f t = packW a' f' t' ↔ a = a' ∧ f = f' ∧ t = t') := packs_eq hg hg'
  go_enter Try.func6, Try.ntmps6
  go_wp2_with fail
  refine (awake_any _).mono ?_
  rintro e w1 ⟨rfl, hb1⟩
  obtain ⟨hc1, hf1⟩ := kept hb1
  have hB1 : Below w.heap.size w w1 := on (((Below.refl _ _).alloc (Nat.le_refl _) _).alloc (by simp) _) (by simp; omega) hb1
  have hz1 : w.heap.size + 1 < w1.heap.size := by have := hb1.size; simp at this; omega
  have hy1 : w.heap.size < w1.heap.size := by omega
  go_wp2_with fail
  refine (pack_yes a f t _ hg).mono ?_
  rintro e w2 ⟨rfl, hb2⟩
  obtain ⟨hc2, hf2⟩ := kept hb2
  have hB2 : Below w.heap.size w w2 := on hB1 (by omega) hb2
  have hz2 := hb2.size
  have hy2 : w.heap.size < w2.heap.size := by omega
  have hx2 : w.heap.size + 1 < w2.heap.size := by omega
  go_wp2_with fail
  refine (pack_yes a' f' t' _ hg').mono ?_
  rintro e w3 ⟨rfl, hb3⟩
  obtain ⟨hc3, hf3⟩ := kept hb3
  have hB3 : Below w.heap.size w w3 := on hB2 (by omega) hb3
  generalize packW a f t = x at *
  generalize packW a' f' t' = y at *
  by_cases h1 : a = a'
  · subst h1
    by_cases h2 : f = f'
    · subst h2
      by_cases h3 : t = t'
      · subst h3
        obtain rfl : x = y := H2.out.2 ⟨rfl, rfl, rfl⟩
        go_wp2
        go_ret
        exact ⟨rfl, hB3⟩
      · have hne : (x == y) = false := by rw [beq_eq_false_iff_ne]; intro e; exact h3 (H2.out.1 e).2.2
        have hn : (t == t') = false := by rw [beq_eq_false_iff_ne]; exact h3
        go_wp2
        go_ret
        exact ⟨rfl, hB3⟩
    · have hne : (x == y) = false := by rw [beq_eq_false_iff_ne]; intro e; exact h2 (H2.out.1 e).2.1
      have hn : (f == f') = false := by rw [beq_eq_false_iff_ne]; exact h2
      go_wp2
      go_ret
      exact ⟨rfl, hB3⟩
  · have hne : (x == y) = false := by rw [beq_eq_false_iff_ne]; intro e; exact h1 (H2.out.1 e).1
    have hn : (a == a') = false := by rw [beq_eq_false_iff_ne]; exact h1
    go_wp2
    go_ret
    exact ⟨rfl, hB3⟩

set_option maxHeartbeats 1000000 in
theorem others_no (a f t a' f' t' : Int) (w : World) (hg : goodB a f t = false) :
    Calls Try.prog 6 #[.agg #[.int .i64 a, .int .i64 f, .int .i64 t], .agg #[.int .i64 a', .int .i64 f', .int .i64 t']] w fun e w' => e = .returned (.bool true) ∧ Below w.heap.size w w' := by
  cases hg' : goodB a' f' t' with
  | false =>
    go_enter Try.func6, Try.ntmps6
    go_wp2_with fail
    refine (awake_any _).mono ?_
    rintro e w1 ⟨rfl, hb1⟩
    obtain ⟨hc1, hf1⟩ := kept hb1
    have hB1 : Below w.heap.size w w1 := on (((Below.refl _ _).alloc (Nat.le_refl _) _).alloc (by simp) _) (by simp; omega) hb1
    have hz1 : w.heap.size + 1 < w1.heap.size := by have := hb1.size; simp at this; omega
    have hy1 : w.heap.size < w1.heap.size := by omega
    go_wp2_with fail
    refine (pack_no a f t _ hg).mono ?_
    rintro e w2 ⟨rfl, hb2⟩
    obtain ⟨hc2, hf2⟩ := kept hb2
    have hB2 : Below w.heap.size w w2 := on hB1 (by omega) hb2
    have hz2 := hb2.size
    go_wp2_with fail
    refine (pack_no a' f' t' _ hg').mono ?_
    rintro e w3 ⟨rfl, hb3⟩
    have hB3 : Below w.heap.size w w3 := on hB2 (by omega) hb3
    go_wp2
    go_ret
    exact ⟨rfl, hB3⟩
  | true =>
    go_enter Try.func6, Try.ntmps6
    go_wp2_with fail
    refine (awake_any _).mono ?_
    rintro e w1 ⟨rfl, hb1⟩
    obtain ⟨hc1, hf1⟩ := kept hb1
    have hB1 : Below w.heap.size w w1 := on (((Below.refl _ _).alloc (Nat.le_refl _) _).alloc (by simp) _) (by simp; omega) hb1
    have hz1 : w.heap.size + 1 < w1.heap.size := by have := hb1.size; simp at this; omega
    have hy1 : w.heap.size < w1.heap.size := by omega
    go_wp2_with fail
    refine (pack_no a f t _ hg).mono ?_
    rintro e w2 ⟨rfl, hb2⟩
    obtain ⟨hc2, hf2⟩ := kept hb2
    have hB2 : Below w.heap.size w w2 := on hB1 (by omega) hb2
    have hz2 := hb2.size
    go_wp2_with fail
    refine (pack_yes a' f' t' _ hg').mono ?_
    rintro e w3 ⟨rfl, hb3⟩
    have hB3 : Below w.heap.size w w3 := on hB2 (by omega) hb3
    go_wp2
    go_ret
    exact ⟨rfl, hB3⟩

set_option maxHeartbeats 1000000 in
theorem others_half (a f t a' f' t' : Int) (w : World) (hg : goodB a f t = true) (hg' : goodB a' f' t' = false) :
    Calls Try.prog 6 #[.agg #[.int .i64 a, .int .i64 f, .int .i64 t], .agg #[.int .i64 a', .int .i64 f', .int .i64 t']] w fun e w' => e = .returned (.bool true) ∧ Below w.heap.size w w' := by
  go_enter Try.func6, Try.ntmps6
  go_wp2_with fail
  refine (awake_any _).mono ?_
  rintro e w1 ⟨rfl, hb1⟩
  obtain ⟨hc1, hf1⟩ := kept hb1
  have hB1 : Below w.heap.size w w1 := on (((Below.refl _ _).alloc (Nat.le_refl _) _).alloc (by simp) _) (by simp; omega) hb1
  have hz1 : w.heap.size + 1 < w1.heap.size := by have := hb1.size; simp at this; omega
  have hy1 : w.heap.size < w1.heap.size := by omega
  go_wp2_with fail
  refine (pack_yes a f t _ hg).mono ?_
  rintro e w2 ⟨rfl, hb2⟩
  obtain ⟨hc2, hf2⟩ := kept hb2
  have hB2 : Below w.heap.size w w2 := on hB1 (by omega) hb2
  have hz2 := hb2.size
  go_wp2_with fail
  refine (pack_no a' f' t' _ hg').mono ?_
  rintro e w3 ⟨rfl, hb3⟩
  have hB3 : Below w.heap.size w w3 := on hB2 (by omega) hb3
  go_wp2
  go_ret
  exact ⟨rfl, hB3⟩

theorem others_walk (a f t a' f' t' : Int) (w : World) :
    Calls Try.prog 6 #[.agg #[.int .i64 a, .int .i64 f, .int .i64 t], .agg #[.int .i64 a', .int .i64 f', .int .i64 t']] w fun e w' => e = .returned (.bool true) ∧ Below w.heap.size w w' := by
  cases hg : goodB a f t with
  | false => exact others_no a f t a' f' t' w hg
  | true =>
    cases hg' : goodB a' f' t' with
    | false => exact others_half a f t a' f' t' w hg hg'
    | true => exact others_yes a f t a' f' t' w hg hg'
end Go.Proofs.Ytdahlihnmmgkaaa
