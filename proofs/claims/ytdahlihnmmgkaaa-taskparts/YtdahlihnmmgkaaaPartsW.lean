/- The walk of TaskParts: it returns true whatever it is handed, and turns nothing that was there. -/
import Derived.Test.YtdahlihnmmgkaaaLoopM
import Derived.Deep.RegionHeld3
namespace Go.Proofs.Ytdahlihnmmgkaaa
open Go.RowKit
set_option linter.unusedVariables false
set_option linter.unusedSimpArgs false

theorem fr_one (f : Int) : ∀ k : Nat, fr f 1 k = f + k
  | 0 => by simp [fr]
  | k + 1 => by have := fr_one f k; simp only [fr]; omega

/-- Parted in ones: as many parts as words, or one. -/
theorem split_ones (a f t : Int) (L : Nat) (hL : (L : Int) = max (t - f) 1) (w : World) (hg : goodB a f t = true) :
    Calls Try.prog 15 #[.agg #[.int .i64 a, .int .i64 f, .int .i64 t], .int .i64 1] w fun e w' => ∃ g c, e = .returned (.slice (some ⟨g, 0, none⟩) L c) ∧ Below w.heap.size w w' :=
  (split_any a f t 1 w hg).mono fun e w' ⟨g, c, k, he, S⟩ => by
    have h1 := S.le
    have h2 := S.lt
    have h3 := S.rest
    have em : most 1 = 1 := by decide
    rw [em, fr_one] at h1 h2 h3
    obtain rfl : L = k + 1 := by
      by_cases hk : 1 ≤ k
      · have := h2 hk; omega
      · omega
    exact ⟨g, c, he, S.old⟩
/-- Parted in one: one part. -/
theorem split_all (a f t D : Int) (hD : D = t - f) (w : World) (hg : goodB a f t = true) :
    Calls Try.prog 15 #[.agg #[.int .i64 a, .int .i64 f, .int .i64 t], .int .i64 D] w fun e w' => ∃ g c, e = .returned (.slice (some ⟨g, 0, none⟩) 1 c) ∧ Below w.heap.size w w' :=
  (split_any a f t D w hg).mono fun e w' ⟨g, c, k, he, S⟩ => by
    have h2 := S.lt
    obtain rfl : k = 0 := by
      by_cases hk : 1 ≤ k
      · have h3 := h2 hk
        have h4 := fr_mono f (most D) (most_ge D) 1 (k - 1)
        rw [show 1 + (k - 1) = k by omega] at h4
        have h5 : fr f (most D) 1 = f + most D := rfl
        have h6 : D ≤ most D := by unfold most; split <;> omega
        omega
      · omega
    exact ⟨g, c, he, S.old⟩
theorem len_d (a f t D : Int) (hD : D = t - f) (w : World) (hg : goodB a f t = true) :
    Calls Try.prog 13 #[.agg #[.int .i64 a, .int .i64 f, .int .i64 t]] w fun e w' => e = .returned (.int .i64 D) ∧ Below w.heap.size w w' :=
  (len_any a f t w hg).mono fun e w' ⟨he, hw⟩ => ⟨by rw [hD]; exact he, by rw [hw]; exact below_one _ _⟩
/-- What is held while the last line is worked out. -/
theorem hold_on {wr W w' : World} {b : Nat} {x y z : Value} (hk : Below W.heap.size W w') (h : Below wr.heap.size wr W ∧ W.cell? ⟨b, 0, none⟩ = some x ∧ W.cell? ⟨b, 1, none⟩ = some y ∧ W.cell? ⟨b, 2, none⟩ = some z) :
    Below wr.heap.size wr w' ∧ w'.cell? ⟨b, 0, none⟩ = some x ∧ w'.cell? ⟨b, 1, none⟩ = some y ∧ w'.cell? ⟨b, 2, none⟩ = some z :=
  ⟨on h.1 h.1.size hk, (hk.cell (block_lt_of_cell h.2.1)).trans h.2.1, (hk.cell (block_lt_of_cell h.2.2.1)).trans h.2.2.1, (hk.cell (block_lt_of_cell h.2.2.2)).trans h.2.2.2⟩

set_option maxRecDepth 100000 in
set_option maxHeartbeats 4000000 in
theorem parts_yes (a f t p : Int) (w : World) (hg : goodB a f t = true) (p0 : 0 ≤ p) (p1 : p ≤ 255) :
    Calls Try.prog 7 #[.agg #[.int .i64 a, .int .i64 f, .int .i64 t], .int .u8 p] w fun e w' => e = .returned (.bool true) ∧ Below w.heap.size w w' := by
  obtain ⟨b1, b2, b3, b4, b5⟩ := (good_iff a f t).1 hg
  obtain ⟨m, em⟩ : ∃ m, most p = m := ⟨_, rfl⟩
  have hm1 : (1 : Int) ≤ m := by rw [← em]; exact most_ge p
  have HEM := Lib.hid em
  clear em
  go_enter Try.func7, Try.ntmps7
  go_wp2_with fail
  refine (awake_any _).mono ?_
  rintro e w1 ⟨rfl, hb1⟩
  have hB1 : Below w.heap.size w w1 := on (below_one _ _) (by simp) hb1
  have L1 : Lies w1 w.heap.size 23 [.int .i64 a, .int .i64 f, .int .i64 t] := (Lies.new w 23 [_, _, _]).kept hb1
  have x0 : w1.cell? ⟨w.heap.size, 0, none⟩ = some (.int .i64 a) := L1.cell 0
  have x1 : w1.cell? ⟨w.heap.size, 1, none⟩ = some (.int .i64 f) := L1.cell 1
  have x2 : w1.cell? ⟨w.heap.size, 2, none⟩ = some (.int .i64 t) := L1.cell 2
  have HB1 := Lib.hid hB1
  have HL1 := Lib.hid L1
  clear hB1 L1 hb1
  go_wp2_with fail
  refine (good_any a f t _).mono ?_
  rintro e w2 ⟨rfl, rfl⟩
  rw [hg]
  go_wp2_with fail
  refine (split_any a f t p _ hg).mono ?_
  rintro e w2 ⟨g, c, k, rfl, S⟩
  rw [HEM.out] at S
  have L2 := HL1.out.kept S.old
  have B2 := Lib.hid (on HB1.out HB1.out.size S.old)
  have hk := S.few
  have HS := Lib.hid S
  have HL2 := Lib.hid L2
  clear S L2 HB1 HL1 x0 x1 x2
  obtain ⟨n, hn⟩ : ∃ n, n = k + 1 := ⟨_, rfl⟩
  rw [← hn]
  have HN := Lib.hid hn
  have n1 : (0 : Int) < (n : Int) := by omega
  have n4 : n ≤ 4096 := by omega
  clear hn
  go_wp2
  go_loopw [28, 5, 7, 8, 9] (fun i v _ _ _ wr => ∃ (j : Nat) (Z : Int), j ≤ n ∧ i = .int .i64 j ∧ v = .int .i64 Z ∧ Hid (Z = frm f t m k j - f) ∧ Below w2.heap.size w2 wr) (fun i _ _ _ _ _ => n - (intOf i).toNat)
  case atStart => exact ⟨0, 0, Nat.zero_le _, rfl, rfl, Lib.hid (by rw [frm_zero]; omega), Below.refl _ _⟩
  case round =>
    obtain ⟨j, Z, hj, rfl, rfl, HZ, BB⟩ := hrel
    have HB := Lib.hid BB
    by_cases hjn : j < n
    · have hjk : j ≤ k := by have := HN.out; omega
      obtain ⟨r0, r1, r2⟩ := HS.out.cells BB j hjk
      obtain ⟨q1, q2, q3, q4, q5⟩ := HS.out.num hm1 hg j hjk
      obtain ⟨V, hV⟩ : ∃ V, frm f t m k j = V := ⟨_, rfl⟩
      obtain ⟨U, hU⟩ : ∃ U, frm f t m k (j + 1) = U := ⟨_, rfl⟩
      have HU := Lib.hid hU
      have hz := HZ.out
      rw [hV] at r1 q2 hz
      rw [hU] at r2
      rw [hV, hU] at q1
      clear hU hV BB q3 q4 q5
      obtain ⟨d1, d2, d3, d4, d5⟩ := (good_iff a V U).1 q1
      have z0 : 0 ≤ Z := by omega
      have z1 : Z ≤ 4095 := by omega
      have HZ2 := Lib.hid hz
      clear hz
      have k0 : (0 : Int) ≤ (j : Int) := by omega
      have k1 : (j : Int) < (n : Int) := by omega
      go_wp2_with fail
      refine (pack_yes a V U _ q1).mono ?_
      rintro e w3 ⟨rfl, hb3⟩
      have L3 : Lies w3 wr.heap.size 23 [.int .i64 a, .int .i64 V, .int .i64 U] := (Lies.new wr 23 [_, _, _]).kept hb3
      have s0 : w3.cell? ⟨wr.heap.size, 0, none⟩ = some (.int .i64 a) := L3.cell 0
      have s1 : w3.cell? ⟨wr.heap.size, 1, none⟩ = some (.int .i64 V) := L3.cell 1
      have s2 : w3.cell? ⟨wr.heap.size, 2, none⟩ = some (.int .i64 U) := L3.cell 2
      have B3 := Lib.hid (on (HB.out.alloc HB.out.size (.cells #[.int .i64 a, .int .i64 V, .int .i64 U] 23)) (by have := HB.out.size; simp; omega) hb3)
      generalize packW a V U = pw
      clear L3 hb3 r0 r1 r2
      go_wp2_with fail
      refine (len_any a V U _ q1).mono ?_
      rintro e w4 ⟨rfl, rfl⟩
      go_wp2
      refine ⟨⟨j + 1, _, by omega, by go_num, rfl, Lib.hid ?_, B3.out.alloc B3.out.size _⟩, by simp [intOf]; omega⟩
      rw [HU.out]
      have := HZ2.out
      omega
    · obtain ⟨D, hD⟩ : ∃ D, D = t - f := ⟨_, rfl⟩
      obtain rfl : Z = D := by
        have h1 := HZ.out
        rw [show j = k + 1 by have := HN.out; omega, frm_end] at h1
        omega
      obtain ⟨L, hL⟩ : ∃ L : Nat, (L : Int) = max (t - f) 1 := ⟨(max (t - f) 1).toNat, by omega⟩
      have HD := Lib.hid hD
      have HL := Lib.hid hL
      have L3 := HL2.out.below BB HL2.out.lt
      have v0 : wr.cell? ⟨w.heap.size, 0, none⟩ = some (.int .i64 a) := L3.cell 0
      have v1 : wr.cell? ⟨w.heap.size, 1, none⟩ = some (.int .i64 f) := L3.cell 1
      have v2 : wr.cell? ⟨w.heap.size, 2, none⟩ = some (.int .i64 t) := L3.cell 2
      have i0 : Below wr.heap.size wr wr.drew := (Below.refl _ _).drew
      have i1 : wr.drew.cell? ⟨w.heap.size, 0, none⟩ = some (.int .i64 a) := v0
      have i2 : wr.drew.cell? ⟨w.heap.size, 1, none⟩ = some (.int .i64 f) := v1
      have i3 : wr.drew.cell? ⟨w.heap.size, 2, none⟩ = some (.int .i64 t) := v2
      have I0 := Lib.hid (And.intro i0 (And.intro i1 (And.intro i2 i3)))
      have l4 : L ≤ 4095 := by omega
      have HG := Lib.hid hg
      clear hD hL L3 BB i0 i1 i2 i3 b1 b2 b3 b4 b5 hg
      have cases3 : (Z = 0 ∧ L = 1) ∨ (Z = 1 ∧ L = 1) ∨ (1 < Z ∧ (L : Int) = Z) := by
        have h1 := HD.out
        have h2 := HL.out
        obtain ⟨b1, b2, b3, b4, b5⟩ := (good_iff a f t).1 HG.out
        omega
      rcases cases3 with ⟨rfl, rfl⟩ | ⟨rfl, rfl⟩ | ⟨hz, hl⟩
      · go_wp2_with fail
        go_region_held3 (fun W => Below wr.heap.size wr W ∧ W.cell? ⟨w.heap.size, 0, none⟩ = some (.int .i64 a) ∧ W.cell? ⟨w.heap.size, 1, none⟩ = some (.int .i64 f) ∧ W.cell? ⟨w.heap.size, 2, none⟩ = some (.int .i64 t))
          (repeat (first | exact I0.out | refine hold_on (by assumption) ?_))
          ((first
          | (go_at_call 13; refine (len_d a f t _ HD.out _ HG.out).mono ?_; rintro e w7 ⟨rfl, hk⟩)
          | (go_at_call 15; (with_reducible refine (split_ones a f t _ HL.out _ HG.out).mono ?_); rintro e w7 ⟨g7, c7, rfl, hk⟩)
          | (go_at_call 15; (with_reducible refine (split_all a f t _ HD.out _ HG.out).mono ?_); rintro e w7 ⟨g7, c7, rfl, hk⟩)))
        all_goals go_wp2
        all_goals go_ret
        all_goals (rename_i hh; exact ⟨rfl, on B2.out B2.out.size (on HB.out HB.out.size hh.1)⟩)
      · go_wp2_with fail
        go_region_held3 (fun W => Below wr.heap.size wr W ∧ W.cell? ⟨w.heap.size, 0, none⟩ = some (.int .i64 a) ∧ W.cell? ⟨w.heap.size, 1, none⟩ = some (.int .i64 f) ∧ W.cell? ⟨w.heap.size, 2, none⟩ = some (.int .i64 t))
          (repeat (first | exact I0.out | refine hold_on (by assumption) ?_))
          ((first
          | (go_at_call 13; refine (len_d a f t _ HD.out _ HG.out).mono ?_; rintro e w7 ⟨rfl, hk⟩)
          | (go_at_call 15; (with_reducible refine (split_ones a f t _ HL.out _ HG.out).mono ?_); rintro e w7 ⟨g7, c7, rfl, hk⟩)
          | (go_at_call 15; (with_reducible refine (split_all a f t _ HD.out _ HG.out).mono ?_); rintro e w7 ⟨g7, c7, rfl, hk⟩)))
        all_goals go_wp2
        all_goals go_ret
        all_goals (rename_i hh; exact ⟨rfl, on B2.out B2.out.size (on HB.out HB.out.size hh.1)⟩)
      · subst hl
        have m1 : ((L : Int) == if (L : Int) < 1 then (1 : Int) else (L : Int)) = true := by rw [if_neg (by omega)]; simp
        have m2 : (if (L : Int) < 1 then (1 : Int) else (L : Int)) = (L : Int) := if_neg (by omega)
        go_wp2_with fail
        go_region_held3 (fun W => Below wr.heap.size wr W ∧ W.cell? ⟨w.heap.size, 0, none⟩ = some (.int .i64 a) ∧ W.cell? ⟨w.heap.size, 1, none⟩ = some (.int .i64 f) ∧ W.cell? ⟨w.heap.size, 2, none⟩ = some (.int .i64 t))
          (repeat (first | exact I0.out | refine hold_on (by assumption) ?_))
          ((first
          | (go_at_call 13; refine (len_d a f t _ HD.out _ HG.out).mono ?_; rintro e w7 ⟨rfl, hk⟩)
          | (go_at_call 15; (with_reducible refine (split_ones a f t _ HL.out _ HG.out).mono ?_); rintro e w7 ⟨g7, c7, rfl, hk⟩)
          | (go_at_call 15; (with_reducible refine (split_all a f t _ HD.out _ HG.out).mono ?_); rintro e w7 ⟨g7, c7, rfl, hk⟩)))
        all_goals go_wp2
        all_goals go_ret
        all_goals (rename_i hh; exact ⟨rfl, on B2.out B2.out.size (on HB.out HB.out.size hh.1)⟩)

set_option maxHeartbeats 1000000 in
theorem parts_no (a f t p : Int) (w : World) (hg : goodB a f t = false) :
    Calls Try.prog 7 #[.agg #[.int .i64 a, .int .i64 f, .int .i64 t], .int .u8 p] w fun e w' => e = .returned (.bool true) ∧ Below w.heap.size w w' := by
  go_enter Try.func7, Try.ntmps7
  go_wp2_with fail
  refine (awake_any _).mono ?_
  rintro e w1 ⟨rfl, hb1⟩
  have hB1 : Below w.heap.size w w1 := on (below_one _ _) (by simp) hb1
  have L1 : Lies w1 w.heap.size 23 [.int .i64 a, .int .i64 f, .int .i64 t] := (Lies.new w 23 [_, _, _]).kept hb1
  have x0 : w1.cell? ⟨w.heap.size, 0, none⟩ = some (.int .i64 a) := L1.cell 0
  have x1 : w1.cell? ⟨w.heap.size, 1, none⟩ = some (.int .i64 f) := L1.cell 1
  have x2 : w1.cell? ⟨w.heap.size, 2, none⟩ = some (.int .i64 t) := L1.cell 2
  clear L1 hb1
  go_wp2_with fail
  refine (good_any a f t _).mono ?_
  rintro e w2 ⟨rfl, rfl⟩
  rw [hg]
  go_wp2_with fail
  refine (awake_any _).mono ?_
  rintro e w2 ⟨rfl, hb2⟩
  go_wp2
  go_ret
  exact ⟨rfl, on hB1 hB1.size hb2⟩

theorem parts_walk (a f t p : Int) (w : World) (p0 : 0 ≤ p) (p1 : p ≤ 255) :
    Calls Try.prog 7 #[.agg #[.int .i64 a, .int .i64 f, .int .i64 t], .int .u8 p] w fun e w' => e = .returned (.bool true) ∧ Below w.heap.size w w' := by
  cases hg : goodB a f t with
  | false => exact parts_no a f t p w hg
  | true => exact parts_yes a f t p w hg p0 p1
end Go.Proofs.Ytdahlihnmmgkaaa
