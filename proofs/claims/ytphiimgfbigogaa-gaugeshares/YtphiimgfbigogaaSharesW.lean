/- The walk of GaugeShares: it returns true whatever it is handed, and turns nothing that was there. -/
import Derived.Test.YtphiimgfbigogaaShareO
import Derived.Deep.QuietTactic
import Derived.BigQuiet
namespace Go.Proofs.Ytphiimgfbigogaa
open Go.RowKit
set_option linter.unusedVariables false

theorem kept {W w1 : World} (hb : Below W.heap.size W w1) : (∀ b o, b < W.heap.size → w1.cell? ⟨b, o, none⟩ = W.cell? ⟨b, o, none⟩) :=
  fun _ _ h => hb.cell h

/-- Some share, whichever. -/
def AnyF (w : World) (e : Ending) (w' : World) : Prop := ∃ r : Nat, e = .returned (.float .f64 r) ∧ Below w.heap.size w w'
theorem share_any (a b : Int) (w : World) : Calls Try.prog 25 #[.int .i64 a, .int .i64 b] w (AnyF w) := by
  cases h : shareW a b with
  | none => exact (share_none a b w h).mono fun e w' ⟨r, _, _, he, hw⟩ => ⟨r, he, by rw [hw]; exact (Below.refl _ _).drew⟩
  | some r => exact (share_some a b r w h).mono fun e w' ⟨he, hw⟩ => ⟨r, he, by rw [← hw]; exact Below.refl _ _⟩
theorem tmod_bd (a : Int) : (a.tmod 1048576).natAbs < 1048576 := by
  rw [Int.natAbs_tmod]; exact Nat.mod_lt _ (by decide)
theorem mul_bd {x y : Int} (hx : x.natAbs < 1048576) (hy : y.natAbs < 1048576) : -1099511627776 ≤ x * y ∧ x * y ≤ 1099511627776 := by
  have h : (x * y).natAbs ≤ 1048576 * 1048576 := by rw [Int.natAbs_mul]; exact Nat.mul_le_mul (Nat.le_of_lt hx) (Nat.le_of_lt hy)
  omega

set_option maxHeartbeats 1000000 in
theorem shares_walk (a b c d : Int) (w : World) (a1 : -2147483648 ≤ a) (a2 : a ≤ 2147483647) (b1 : -2147483648 ≤ b) (b2 : b ≤ 2147483647) (c1 : -2147483648 ≤ c) (c2 : c ≤ 2147483647) (d1 : -2147483648 ≤ d) (d2 : d ≤ 2147483647) :
    Calls Try.prog 6 #[.agg #[.int .i32 a, .int .i32 b, .int .i32 c, .int .i32 d]] w fun e w' => e = .returned (.bool true) ∧ Below w.heap.size w w' := by
  go_enter Try.func6, Try.ntmps6
  go_wp2_with fail
  refine (awake_any _).mono ?_
  rintro e w1 ⟨rfl, hb⟩
  have hc := kept hb
  have hz : w.heap.size < w1.heap.size := by have := hb.size; simp at this; omega
  have hB : Below w.heap.size w w1 := ((Below.refl _ _).alloc (Nat.le_refl _) _).trans (hb.mono (by simp))
  go_wp2_with fail
  go_quiet (fail)
  have gx := tmod_bd a
  have gy := tmod_bd b
  have gz := tmod_bd c
  have gw := tmod_bd d
  clear hc hb
  go_wp2_with fail
  generalize a.tmod 1048576 = x at *
  generalize b.tmod 1048576 = y at *
  generalize c.tmod 1048576 = z at *
  generalize d.tmod 1048576 = t at *
  have hBn : Below w.heap.size w (w1.drewN nq) := hB.trans ⟨rfl, rfl, rfl, Nat.le_refl _, fun _ _ => rfl⟩
  have hzn : w.heap.size ≤ (w1.drewN nq).heap.size := by have := hBn.size; exact this
  generalize w1.drewN nq = w2 at *
  clear hB hz
  by_cases hy : y = 0
  · subst hy
    by_cases hx : x = 0
    · subst hx
      refine (share_none 0 0 _ share_nan).mono ?_
      rintro e w3 ⟨r, nr, lr, rfl, rfl⟩
      have hcl := class_nan.2 nr
      go_wp2_with fail
      refine (share_any _ _ _).mono ?_
      rintro e w4 ⟨r', rfl, hB4⟩
      go_wp2_with (go_at_call 13; (with_reducible refine (class_any r _ lr).mono ?_); rintro e w' ⟨rfl, rfl⟩)
      go_ret
      exact ⟨rfl, hBn.drew.trans (hB4.mono hzn)⟩
    · have hs := share_inf hx (by omega)
      have hc := inf_class (decide (x < 0))
      have lr := word_64 (decide (x < 0)) (R := 9218868437227405312) (by omega)
      have hx' : (x == 0) = false := by simpa using hx
      obtain ⟨r, hr⟩ : ∃ r, r = Ieee.double.word (decide (x < 0)) 9218868437227405312 := ⟨_, rfl⟩
      rw [← hr] at hs hc lr
      have HS := Lib.hid hs
      clear hs hr
      refine (share_some x 0 r _ HS.out).mono ?_
      rintro e w3 ⟨rfl, rfl⟩
      go_wp2_with fail
      refine (share_any _ _ _).mono ?_
      rintro e w4 ⟨r', rfl, hB4⟩
      by_cases h : x < 0
      all_goals
        simp only [h, decide_true, decide_false, if_true, Bool.false_eq_true, if_false] at hc
        (first | (have s1' : decide (0 < x) = true := decide_eq_true (by omega)) | (have s1' : decide (0 < x) = false := decide_eq_false (by omega)))
        (try have h' : 0 < x := by omega)
        (try have h'' : ¬ 0 < x := by omega)
        go_wp2_with (go_at_call 13; (with_reducible refine (class_any r _ lr).mono ?_); rintro e w' ⟨rfl, rfl⟩)
        go_ret
        exact ⟨rfl, hBn.trans (hB4.mono hzn)⟩
  · have hy' : (y == 0) = false := by simpa using hy
    obtain ⟨r, hs, lr, nr, pr⟩ := shP_word hy gx gy
    have HS := Lib.hid hs
    clear hs
    refine (share_some x y r _ HS.out).mono ?_
    rintro e w3 ⟨rfl, rfl⟩
    by_cases ht : t = 0
    · subst ht
      go_wp2_with fail
      refine (share_any _ _ _).mono ?_
      rintro e w4 ⟨r', rfl, hB4⟩
      clear pr
      go_wp2
      go_ret
      exact ⟨rfl, hBn.trans (hB4.mono hzn)⟩
    · have ht' : (t == 0) = false := by simpa using ht
      obtain ⟨q, hq, lq, nq', pq⟩ := shP_word ht gz gw
      have HQ := Lib.hid hq
      clear hq
      go_wp2_with fail
      refine (share_some z t q _ HQ.out).mono ?_
      rintro e w3 ⟨rfl, rfl⟩
      obtain ⟨o1, o2⟩ := shP_order hy ht gx gy gz gw
      have oz := shP_zero hy gx gy
      have f0 : (FloatKind.f64.format.order r 0 == some .eq) = (x == 0) := by
        rw [f64_eq lr (by omega) nr (by decide), pr, show place 0 = 0 by decide, Bool.eq_iff_iff, decide_eq_true_eq, beq_iff_eq]; exact oz
      obtain ⟨m1, m1'⟩ := mul_bd gx gw
      obtain ⟨m2, m2'⟩ := mul_bd gz gy
      by_cases sy : y < 0 <;> by_cases st : t < 0
      · obtain ⟨k1, k2⟩ := o2 (by simp [sy, st])
        have f1 : (FloatKind.f64.format.order r q == some .lt) = decide (x * t < z * y) := by rw [f64_lt lr lq nr nq', pr, pq]; simp only [k1]
        have f2 : (FloatKind.f64.format.order r q == some .eq) = (x * t == z * y) := by rw [f64_eq lr lq nr nq', pr, pq, Bool.eq_iff_iff, decide_eq_true_eq, beq_iff_eq]; exact k2
        clear o1 o2 oz k1 k2 pr pq hy ht
        have sy' : decide (y < 0) = true := decide_eq_true sy
        have st' : decide (t < 0) = true := decide_eq_true st
        go_wp2
        go_ret
        exact ⟨by first | rfl | simp, hBn⟩
      · obtain ⟨k1, k2⟩ := o1 (by simp [sy, st])
        have f1 : (FloatKind.f64.format.order r q == some .lt) = decide (-(x * t) < -(z * y)) := by rw [f64_lt lr lq nr nq', pr, pq]; simp only [k1]
        have f2 : (FloatKind.f64.format.order r q == some .eq) = (-(x * t) == -(z * y)) := by rw [f64_eq lr lq nr nq', pr, pq, Bool.eq_iff_iff, decide_eq_true_eq, beq_iff_eq]; exact k2
        clear o1 o2 oz k1 k2 pr pq hy ht
        have sy' : decide (y < 0) = true := decide_eq_true sy
        have st' : decide (t < 0) = false := decide_eq_false st
        go_wp2
        go_ret
        exact ⟨by first | rfl | simp, hBn⟩
      · obtain ⟨k1, k2⟩ := o1 (by simp [sy, st])
        have f1 : (FloatKind.f64.format.order r q == some .lt) = decide (-(x * t) < -(z * y)) := by rw [f64_lt lr lq nr nq', pr, pq]; simp only [k1]
        have f2 : (FloatKind.f64.format.order r q == some .eq) = (-(x * t) == -(z * y)) := by rw [f64_eq lr lq nr nq', pr, pq, Bool.eq_iff_iff, decide_eq_true_eq, beq_iff_eq]; exact k2
        clear o1 o2 oz k1 k2 pr pq hy ht
        have sy' : decide (y < 0) = false := decide_eq_false sy
        have st' : decide (t < 0) = true := decide_eq_true st
        go_wp2
        go_ret
        exact ⟨by first | rfl | simp, hBn⟩
      · obtain ⟨k1, k2⟩ := o2 (by simp [sy, st])
        have f1 : (FloatKind.f64.format.order r q == some .lt) = decide (x * t < z * y) := by rw [f64_lt lr lq nr nq', pr, pq]; simp only [k1]
        have f2 : (FloatKind.f64.format.order r q == some .eq) = (x * t == z * y) := by rw [f64_eq lr lq nr nq', pr, pq, Bool.eq_iff_iff, decide_eq_true_eq, beq_iff_eq]; exact k2
        clear o1 o2 oz k1 k2 pr pq hy ht
        have sy' : decide (y < 0) = false := decide_eq_false sy
        have st' : decide (t < 0) = false := decide_eq_false st
        go_wp2
        go_ret
        exact ⟨by first | rfl | simp, hBn⟩
end Go.Proofs.Ytphiimgfbigogaa
