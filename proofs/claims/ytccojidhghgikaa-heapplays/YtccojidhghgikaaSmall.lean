/- The walks of the three smallest statements: HeapHeads, HeapWords and HeapOrders return true whatever they are handed, and turn nothing that was there. -/
import Derived.Test.YtccojidhghgikaaEq
namespace Go.Proofs.Ytccojidhghgikaa
open Go.RowKit
set_option linter.unusedVariables false

/-- Behind a call that turned nothing old: old cells, and old marks, are as they were. -/
theorem kept {W w1 : World} (hb : Below W.heap.size W w1) : (∀ b o, b < W.heap.size → w1.cell? ⟨b, o, none⟩ = W.cell? ⟨b, o, none⟩) ∧ (∀ b o, b < W.heap.size → w1.frozen? ⟨b, o, none⟩ = W.frozen? ⟨b, o, none⟩) :=
  ⟨fun _ _ h => hb.cell h, fun _ _ h => hb.frozen h⟩

/-- One step more, behind which nothing that was there has turned. -/
theorem on {B : Nat} {a b c : World} (h : Below B a b) (hB : B ≤ b.heap.size) (k : Below b.heap.size b c) : Below B a c := h.trans (k.mono hB)

set_option maxHeartbeats 1000000 in
theorem heads_walk (k l p : Int) (w : World) :
    Calls Try.prog 3 #[.agg #[.int .i64 k, .int .i64 l, .int .i64 p]] w fun e w' => e = .returned (.bool true) ∧ Below w.heap.size w w' := by
  cases hg : goodB k l p with
  | false =>
    go_enter Try.func3, Try.ntmps3
    go_wp2_with fail
    refine (awake_any _).mono ?_
    rintro e w1 ⟨rfl, hb1⟩
    obtain ⟨hc1, hf1⟩ := kept hb1
    have hB1 : Below w.heap.size w w1 := on ((Below.refl _ _).alloc (Nat.le_refl _) _) (by simp) hb1
    have hz1 : w.heap.size < w1.heap.size := by have := hb1.size; simp at this; omega
    go_wp2_with fail
    refine (pack_no k l p _ hg).mono ?_
    rintro e w2 ⟨rfl, hb2⟩
    obtain ⟨hc2, hf2⟩ := kept hb2
    have hB2 : Below w.heap.size w w2 := on hB1 (by omega) hb2
    have hz2 := hb2.size
    go_wp2_with fail
    refine (good_any k l p _).mono ?_
    rintro e w3 ⟨rfl, rfl⟩
    rw [hg]
    go_wp2
    go_ret
    exact ⟨rfl, hB2.alloc (by omega) _⟩
  | true =>
    obtain ⟨hh, e1, e2, e3⟩ := head_pack hg
    go_enter Try.func3, Try.ntmps3
    go_wp2_with fail
    refine (awake_any _).mono ?_
    rintro e w1 ⟨rfl, hb1⟩
    obtain ⟨hc1, hf1⟩ := kept hb1
    have hB1 : Below w.heap.size w w1 := on ((Below.refl _ _).alloc (Nat.le_refl _) _) (by simp) hb1
    have hz1 : w.heap.size < w1.heap.size := by have := hb1.size; simp at this; omega
    go_wp2_with fail
    refine (pack_yes k l p _ hg).mono ?_
    rintro e w2 ⟨rfl, hb2⟩
    obtain ⟨hc2, hf2⟩ := kept hb2
    have hB2 : Below w.heap.size w w2 := on hB1 (by omega) hb2
    have hz2 := hb2.size
    have hlt2 : w.heap.size < w2.heap.size := by omega
    go_wp2_with fail
    refine (good_any k l p _).mono ?_
    rintro e w3 ⟨rfl, rfl⟩
    rw [hg]
    go_wp2_with fail
    refine (unpack_yes (packW k l p) _ hh).mono ?_
    rintro e w4 ⟨rfl, hb4⟩
    obtain ⟨hc4, hf4⟩ := kept hb4
    have hB4 : Below w.heap.size w w4 := on (hB2.alloc (by omega) _) (by simp; omega) hb4
    have hz4 : w2.heap.size < w4.heap.size := by have := hb4.size; simp at this; omega
    have hlt4 : w.heap.size < w4.heap.size := by omega
    rw [e1, e2, e3]
    go_wp2_with fail
    refine (refPack_any k l p _ hg).mono ?_
    rintro e w5 ⟨rfl, rfl⟩
    go_wp2
    go_ret
    exact ⟨rfl, ((hB4.alloc (by omega) _).alloc (by simp; omega) _)⟩

set_option maxHeartbeats 1000000 in
theorem words_walk (n : Int) (w : World) (hw : n < 9223372036854775808) :
    Calls Try.prog 4 #[.int .i64 n] w fun e w' => e = .returned (.bool true) ∧ Below w.heap.size w w' := by
  cases hh : headB n with
  | false =>
    go_enter Try.func4, Try.ntmps4
    go_wp2_with fail
    refine (awake_any _).mono ?_
    rintro e w1 ⟨rfl, hb1⟩
    have hz1 := hb1.size
    go_wp2_with fail
    refine (unpack_no n _ hh hw).mono ?_
    rintro e w2 ⟨rfl, hb2⟩
    have hB2 : Below w.heap.size w w2 := on hb1 (by omega) hb2
    have hz2 := hb2.size
    go_wp2_with fail
    refine (refUnpack_no n _ hh).mono ?_
    rintro e w3 ⟨rfl, hb3⟩
    obtain ⟨hc3, hf3⟩ := kept hb3
    have hB3 : Below w.heap.size w w3 := on (hB2.alloc (by omega) _) (by simp; omega) hb3
    have hlt3 : w2.heap.size < w3.heap.size := by have := hb3.size; simp at this; omega
    go_wp2
    go_ret
    exact ⟨rfl, hB3.alloc (by omega) _⟩
  | true =>
    have hg := head_good hh
    have hp := pack_head hh
    go_enter Try.func4, Try.ntmps4
    go_wp2_with fail
    refine (awake_any _).mono ?_
    rintro e w1 ⟨rfl, hb1⟩
    have hz1 := hb1.size
    go_wp2_with fail
    refine (unpack_yes n _ hh).mono ?_
    rintro e w2 ⟨rfl, hb2⟩
    have hB2 : Below w.heap.size w w2 := on hb1 (by omega) hb2
    have hz2 := hb2.size
    go_wp2_with fail
    refine (refUnpack_yes n _ hh).mono ?_
    rintro e w3 ⟨rfl, hb3⟩
    obtain ⟨hc3, hf3⟩ := kept hb3
    have hB3 : Below w.heap.size w w3 := on (hB2.alloc (by omega) _) (by simp; omega) hb3
    have hlt3 : w2.heap.size < w3.heap.size := by have := hb3.size; simp at this; omega
    generalize n % 16 = a at *
    generalize n / 65536 = b at *
    generalize n % 65536 / 16 = c at *
    go_wp2_with fail
    refine (pack_yes a b c _ hg).mono ?_
    rintro e w4 ⟨rfl, hb4⟩
    obtain ⟨hc4, hf4⟩ := kept hb4
    have hB4 : Below w.heap.size w w4 := on (hB3.alloc (by omega) _) (by simp; omega) hb4
    have hlt4 : w3.heap.size < w4.heap.size := by have := hb4.size; simp at this; omega
    have hlt5 : w2.heap.size < w4.heap.size := by omega
    rw [hp]
    go_wp2
    go_ret
    exact ⟨rfl, hB4⟩

theorem packs_lt {k l p k' l' p' : Int} (hg : goodB k l p = true) (hg' : goodB k' l' p' = true) :
    (packW k l p < packW k' l' p' ↔ l < l' ∨ (l = l' ∧ (p < p' ∨ (p = p' ∧ k < k')))) := by
  obtain ⟨b1, b2, b3, b4, b5, b6, _⟩ := (good_iff k l p).1 hg
  obtain ⟨c1, c2, c3, c4, c5, c6, _⟩ := (good_iff k' l' p').1 hg'
  unfold packW; omega
theorem packs_eq {k l p k' l' p' : Int} (hg : goodB k l p = true) (hg' : goodB k' l' p' = true) :
    (packW k l p = packW k' l' p' ↔ k = k' ∧ l = l' ∧ p = p') := by
  obtain ⟨b1, b2, b3, b4, b5, b6, _⟩ := (good_iff k l p).1 hg
  obtain ⟨c1, c2, c3, c4, c5, c6, _⟩ := (good_iff k' l' p').1 hg'
  unfold packW; omega

theorem orders_bool {x y : Int} {b : Bool} (h : x < y ↔ b = true) : (decide (x < y) == b) = true := by
  cases b <;> simp at h ⊢ <;> omega

set_option maxHeartbeats 2000000 in
theorem orders_walk (k l p k' l' p' : Int) (w : World) :
    Calls Try.prog 12 #[.agg #[.int .i64 k, .int .i64 l, .int .i64 p], .agg #[.int .i64 k', .int .i64 l', .int .i64 p']] w fun e w' => e = .returned (.bool true) ∧ Below w.heap.size w w' := by
  cases hg : goodB k l p with
  | false =>
    cases hg' : goodB k' l' p' with
    | false =>
      go_enter Try.func12, Try.ntmps12
      go_wp2_with fail
      refine (awake_any _).mono ?_
      rintro e w1 ⟨rfl, hb1⟩
      obtain ⟨hc1, hf1⟩ := kept hb1
      have hB1 : Below w.heap.size w w1 := on (((Below.refl _ _).alloc (Nat.le_refl _) _).alloc (by simp) _) (by simp; omega) hb1
      have hz1 : w.heap.size + 1 < w1.heap.size := by have := hb1.size; simp at this; omega
      have hy1 : w.heap.size < w1.heap.size := by omega
      go_wp2_with fail
      refine (pack_no k l p _ hg).mono ?_
      rintro e w2 ⟨rfl, hb2⟩
      obtain ⟨hc2, hf2⟩ := kept hb2
      have hB2 : Below w.heap.size w w2 := on hB1 (by omega) hb2
      have hz2 := hb2.size
      go_wp2_with fail
      refine (pack_no k' l' p' _ hg').mono ?_
      rintro e w3 ⟨rfl, hb3⟩
      have hB3 : Below w.heap.size w w3 := on hB2 (by omega) hb3
      go_wp2
      go_ret
      exact ⟨rfl, hB3⟩
    | true =>
      go_enter Try.func12, Try.ntmps12
      go_wp2_with fail
      refine (awake_any _).mono ?_
      rintro e w1 ⟨rfl, hb1⟩
      obtain ⟨hc1, hf1⟩ := kept hb1
      have hB1 : Below w.heap.size w w1 := on (((Below.refl _ _).alloc (Nat.le_refl _) _).alloc (by simp) _) (by simp; omega) hb1
      have hz1 : w.heap.size + 1 < w1.heap.size := by have := hb1.size; simp at this; omega
      have hy1 : w.heap.size < w1.heap.size := by omega
      go_wp2_with fail
      refine (pack_no k l p _ hg).mono ?_
      rintro e w2 ⟨rfl, hb2⟩
      obtain ⟨hc2, hf2⟩ := kept hb2
      have hB2 : Below w.heap.size w w2 := on hB1 (by omega) hb2
      have hz2 := hb2.size
      go_wp2_with fail
      refine (pack_yes k' l' p' _ hg').mono ?_
      rintro e w3 ⟨rfl, hb3⟩
      have hB3 : Below w.heap.size w w3 := on hB2 (by omega) hb3
      go_wp2
      go_ret
      exact ⟨rfl, hB3⟩
  | true =>
    cases hg' : goodB k' l' p' with
    | false =>
      go_enter Try.func12, Try.ntmps12
      go_wp2_with fail
      refine (awake_any _).mono ?_
      rintro e w1 ⟨rfl, hb1⟩
      obtain ⟨hc1, hf1⟩ := kept hb1
      have hB1 : Below w.heap.size w w1 := on (((Below.refl _ _).alloc (Nat.le_refl _) _).alloc (by simp) _) (by simp; omega) hb1
      have hz1 : w.heap.size + 1 < w1.heap.size := by have := hb1.size; simp at this; omega
      have hy1 : w.heap.size < w1.heap.size := by omega
      go_wp2_with fail
      refine (pack_yes k l p _ hg).mono ?_
      rintro e w2 ⟨rfl, hb2⟩
      obtain ⟨hc2, hf2⟩ := kept hb2
      have hB2 : Below w.heap.size w w2 := on hB1 (by omega) hb2
      have hz2 := hb2.size
      go_wp2_with fail
      refine (pack_no k' l' p' _ hg').mono ?_
      rintro e w3 ⟨rfl, hb3⟩
      have hB3 : Below w.heap.size w w3 := on hB2 (by omega) hb3
      go_wp2
      go_ret
      exact ⟨rfl, hB3⟩
    | true =>
      have hlt := packs_lt hg hg'
      have heq := packs_eq hg hg'
      have H1 : Hid (packW k l p < packW k' l' p' ↔ l < l' ∨ (l = l' ∧ (p < p' ∨ (p = p' ∧ k < k')))) := hlt
      have H2 : Hid (packW k l p = packW k' l' p' ↔ k = k' ∧ l = l' ∧ p = p') := heq
      clear hlt heq
      go_enter Try.func12, Try.ntmps12
      go_wp2_with fail
      refine (awake_any _).mono ?_
      rintro e w1 ⟨rfl, hb1⟩
      obtain ⟨hc1, hf1⟩ := kept hb1
      have hB1 : Below w.heap.size w w1 := on (((Below.refl _ _).alloc (Nat.le_refl _) _).alloc (by simp) _) (by simp; omega) hb1
      have hz1 : w.heap.size + 1 < w1.heap.size := by have := hb1.size; simp at this; omega
      have hy1 : w.heap.size < w1.heap.size := by omega
      go_wp2_with fail
      refine (pack_yes k l p _ hg).mono ?_
      rintro e w2 ⟨rfl, hb2⟩
      obtain ⟨hc2, hf2⟩ := kept hb2
      have hB2 : Below w.heap.size w w2 := on hB1 (by omega) hb2
      have hz2 := hb2.size
      have hy2 : w.heap.size < w2.heap.size := by omega
      have hx2 : w.heap.size + 1 < w2.heap.size := by omega
      go_wp2_with fail
      refine (pack_yes k' l' p' _ hg').mono ?_
      rintro e w3 ⟨rfl, hb3⟩
      obtain ⟨hc3, hf3⟩ := kept hb3
      have hB3 : Below w.heap.size w w3 := on hB2 (by omega) hb3
      generalize packW k l p = x at *
      generalize packW k' l' p' = y at *
      rcases Int.lt_trichotomy l l' with hl | hl | hl
      · have hxy : x < y := H1.out.2 (by omega)
        have hne : (x == y) = false := by rw [beq_eq_false_iff_ne]; omega
        go_wp2
        go_ret
        exact ⟨rfl, hB3⟩
      · subst hl
        rcases Int.lt_trichotomy p p' with hp | hp | hp
        · have hxy : x < y := H1.out.2 (by omega)
          have hne : (x == y) = false := by rw [beq_eq_false_iff_ne]; omega
          go_wp2
          go_ret
          exact ⟨rfl, hB3⟩
        · subst hp
          rcases Int.lt_trichotomy k k' with hk | hk | hk
          · have hxy : x < y := H1.out.2 (by omega)
            have hne : (x == y) = false := by rw [beq_eq_false_iff_ne]; omega
            go_wp2
            go_ret
            exact ⟨rfl, hB3⟩
          · subst hk
            obtain rfl : x = y := H2.out.2 ⟨rfl, rfl, rfl⟩
            go_wp2
            go_ret
            exact ⟨rfl, hB3⟩
          · have hxy : y < x := by
              have h1 := H1.out; have h2 := H2.out; omega
            have hne : (x == y) = false := by rw [beq_eq_false_iff_ne]; omega
            go_wp2
            go_ret
            exact ⟨rfl, hB3⟩
        · have hxy : y < x := by
            have h1 := H1.out; have h2 := H2.out; omega
          have hne : (x == y) = false := by rw [beq_eq_false_iff_ne]; omega
          go_wp2
          go_ret
          exact ⟨rfl, hB3⟩
      · have hxy : y < x := by
          have h1 := H1.out; have h2 := H2.out; omega
        have hne : (x == y) = false := by rw [beq_eq_false_iff_ne]; omega
        go_wp2
        go_ret
        exact ⟨rfl, hB3⟩
end Go.Proofs.Ytccojidhghgikaa
