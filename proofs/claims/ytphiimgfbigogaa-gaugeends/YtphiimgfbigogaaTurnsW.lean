/- The walk of GaugeTurns: it returns true whatever it is handed, and turns nothing that was there. -/
import Derived.Test.YtphiimgfbigogaaEnds
namespace Go.Proofs.Ytphiimgfbigogaa
open Go.RowKit
set_option linter.unusedVariables false

theorem nan_key {b : Nat} (hb : b < 18446744073709551616) : nanB b = true ↔ keyN b = 0 := by
  refine ⟨key_nan, fun h => ?_⟩
  cases hx : nanB b with
  | true => rfl
  | false => have := key_pos hb hx; omega
theorem ordI_neg1 {a b : Nat} : ordI a b < 0 ↔ keyN a < keyN b := by unfold ordI cmpI keyI; repeat' split
                                                                     all_goals omega
theorem ordI_pos {a b : Nat} : 0 < ordI a b ↔ keyN b < keyN a := by unfold ordI cmpI keyI; repeat' split
                                                                    all_goals omega
theorem ordI_zero {a b : Nat} : ordI a b = 0 ↔ keyN a = keyN b := by unfold ordI cmpI keyI; repeat' split
                                                                     all_goals omega
/-- The lesser of two keys that are no NaN's; the greater. -/
def lessK (p q : Nat) : Nat := if q = 0 then p else if p = 0 then q else if q < p then q else p
def moreK (p q : Nat) : Nat := if p < q then q else p
theorem key_stepL {a x : Nat} (ha : a < 18446744073709551616) (hx : x < 18446744073709551616) : keyN (stepL a x) = lessK (keyN a) (keyN x) := by
  unfold stepL lessK
  simp only [nan_key ha, nan_key hx, ordI_neg1]
  repeat' split
  all_goals rfl
theorem key_stepM {a x : Nat} : keyN (stepM a x) = moreK (keyN a) (keyN x) := by
  unfold stepM moreK
  simp only [gt_iff_lt, ordI_pos]
  split <;> rfl
theorem key_nan0 : keyN nan0 = 0 := by decide

theorem cell_new (w : World) (vs : Array Value) (t : TypeId) (j : Nat) : (w.alloc (.cells vs t)).cell? ((⟨w.heap.size, 0, none⟩ : Addr).add j) = vs[j]? := by
  have e : (⟨w.heap.size, 0, none⟩ : Addr).add j = ⟨w.heap.size, j, none⟩ := by unfold Addr.add; split <;> simp_all
  have hh : (w.alloc (.cells vs t)).heap[w.heap.size]? = some (.cells vs t (0, 0)) := by
    show (w.heap.push _)[w.heap.size]? = _
    simp
  rw [e]
  unfold World.cell?
  rw [hh]
  simp
theorem FRow.new1 (w : World) (x s : Nat) (hs : w.heap.size = s) : FRow (w.alloc (.cells #[.float .f64 x] 24)) (some ⟨s, 0, none⟩) [x] := fun _ =>
  ⟨_, rfl, by simp; omega, fun j hj => by
    subst hs
    have : j = 0 := by simp at hj; omega
    subst this
    rw [cell_new]; rfl⟩
theorem FRow.new2 (w : World) (x y s : Nat) (hs : w.heap.size = s) : FRow (w.alloc (.cells #[.float .f64 x, .float .f64 y] 24)) (some ⟨s, 0, none⟩) [x, y] := fun _ =>
  ⟨_, rfl, by simp; omega, fun j hj => by
    subst hs
    have : j = 0 ∨ j = 1 := by simp at hj; omega
    rcases this with rfl | rfl <;> rw [cell_new] <;> rfl⟩
theorem words1 {x : Nat} (hx : x < 18446744073709551616) : Words [x] := by
  intro i
  rcases i with _ | i <;> simp [hx]
theorem words2 {x y : Nat} (hx : x < 18446744073709551616) (hy : y < 18446744073709551616) : Words [x, y] := by
  intro i
  rcases i with _ | _ | i <;> simp [hx, hy]
theorem l1_0 {x : Nat} (hx : x < 18446744073709551616) : ordI (leastF [x]) x = 0 := by
  rw [ordI_zero, show leastF [x] = stepL nan0 x from rfl, key_stepL nan0_lt hx, key_nan0]
  unfold lessK; repeat' split
  all_goals omega
theorem m1_0 {x : Nat} (hx : x < 18446744073709551616) : ordI (mostF [x]) x = 0 := by
  rw [ordI_zero, show mostF [x] = stepM nan0 x from rfl, key_stepM, key_nan0]
  unfold moreK; repeat' split
  all_goals omega
theorem l2_0 {x y : Nat} (hx : x < 18446744073709551616) (hy : y < 18446744073709551616) : ordI (leastF [x, y]) (leastF [y, x]) = 0 := by
  rw [ordI_zero, show leastF [x, y] = stepL (stepL nan0 x) y from rfl, show leastF [y, x] = stepL (stepL nan0 y) x from rfl, key_stepL (stepL_lt nan0_lt hx) hy, key_stepL (stepL_lt nan0_lt hy) hx, key_stepL nan0_lt hx, key_stepL nan0_lt hy, key_nan0]
  unfold lessK; repeat' split
  all_goals omega
theorem m2_0 {x y : Nat} (hx : x < 18446744073709551616) (hy : y < 18446744073709551616) : ordI (mostF [x, y]) (mostF [y, x]) = 0 := by
  rw [ordI_zero, show mostF [x, y] = stepM (stepM nan0 x) y from rfl, show mostF [y, x] = stepM (stepM nan0 y) x from rfl, key_stepM, key_stepM, key_stepM, key_stepM, key_nan0]
  unfold moreK; repeat' split
  all_goals omega

theorem turns_8 {x y : Nat} (hx : x < 18446744073709551616) (hy : y < 18446744073709551616) (h : nanB x = false) (h' : nanB y = false) : ordI (negN x) (negN y) = -ordI x y := by
  have k1 := key_neg hx h
  have k2 := key_neg hy h'
  have := key_lt x hx
  have := key_lt y hy
  unfold ordI cmpI keyI
  rw [k1, k2]
  repeat' split
  all_goals omega
theorem ordI_bd (a b : Nat) : -1 ≤ ordI a b ∧ ordI a b ≤ 1 := by
  unfold ordI cmpI; repeat' split
  all_goals omega

set_option maxHeartbeats 2000000 in
theorem turns_walk (a b : Int) (w : World) (ha0 : 0 ≤ a) (ha : a ≤ 18446744073709551615) (hb0 : 0 ≤ b) (hb : b ≤ 18446744073709551615) :
    Calls Try.prog 9 #[.int .u64 a, .int .u64 b] w fun e w' => e = .returned (.bool true) ∧ Below w.heap.size w w' := by
  obtain ⟨x, hx⟩ : ∃ x : Nat, x = a.toNat := ⟨_, rfl⟩
  obtain ⟨y, hy⟩ : ∃ y : Nat, y = b.toNat := ⟨_, rfl⟩
  have lx : x < 18446744073709551616 := by omega
  have ly : y < 18446744073709551616 := by omega
  have HF : ∀ w, (callFunc 12 #[.int .u64 a]).run Try.prog w = .ok (.value (.float .f64 x)) w := fun w => by rw [hx]; exact frombits_run a w
  have HG : ∀ w, (callFunc 12 #[.int .u64 b]).run Try.prog w = .ok (.value (.float .f64 y)) w := fun w => by rw [hy]; exact frombits_run b w
  have HN : ∀ w, (Op.unary .neg (.float .f64 x)).run Try.prog w = .ok (.float .f64 (negN x)) w := fun w => neg_run x w lx
  have HM : ∀ w, (Op.unary .neg (.float .f64 y)).run Try.prog w = .ok (.float .f64 (negN y)) w := fun w => neg_run y w ly
  clear hx hy
  have e1 := l1_0 lx
  have e2 := m1_0 lx
  have e3 := l2_0 lx ly
  have e4 := m2_0 lx ly
  have nx := neg_lt lx
  have ny := neg_lt ly
  have g1 : leastF [x] < 18446744073709551616 := least_lt [x] (words1 lx) 1
  have g2 : mostF [x] < 18446744073709551616 := most_lt [x] (words1 lx) 1
  have g3 : leastF [x, y] < 18446744073709551616 := least_lt [x, y] (words2 lx ly) 2
  have g4 : leastF [y, x] < 18446744073709551616 := least_lt [y, x] (words2 ly lx) 2
  have g5 : mostF [x, y] < 18446744073709551616 := most_lt [x, y] (words2 lx ly) 2
  have g6 : mostF [y, x] < 18446744073709551616 := most_lt [y, x] (words2 ly lx) 2
  have o := ordI_bd x y
  have c := class_bd x
  have key : (nanB x = true ∧ classN x = 0 ∧ classN (negN x) = 0) ∨ (nanB x = false ∧ (classN x == 0) = false ∧ nanB y = true ∧ classN y = 0 ∧ classN (negN x) = 7 - classN x) ∨ ((classN x == 0) = false ∧ (classN y == 0) = false ∧ classN (negN x) = 7 - classN x ∧ ordI (negN x) (negN y) = -ordI x y) := by
    cases h1 : nanB x with
    | true => exact .inl ⟨rfl, class_nan.2 h1, class_nan.2 ((nan_neg lx).trans h1)⟩
    | false =>
      have hc : (classN x == 0) = false := by simp only [beq_eq_false_iff_ne, ne_eq, class_nan, h1]; simp
      cases h2 : nanB y with
      | true => exact .inr (.inl ⟨rfl, hc, rfl, class_nan.2 h2, class_neg lx h1⟩)
      | false => exact .inr (.inr ⟨hc, by simp only [beq_eq_false_iff_ne, ne_eq, class_nan, h2]; simp, class_neg lx h1, turns_8 lx ly h1 h2⟩)
  have KEY := Lib.hid key
  clear key
  go_enter Try.func9, Try.ntmps9
  go_wp2_with fail
  refine (awake_any _).mono ?_
  rintro e w1 ⟨rfl, hB⟩
  have hz := hB.size
  go_wp2_with fail
  refine (least_any _ _ 1 [x] _ (FRow.new1 _ _ _ (by simp)) rfl (by omega) (words1 lx)).mono ?_
  rintro e w2 ⟨rfl, rfl⟩
  go_wp2_with fail
  refine (same_any _ _ _ g1 lx).mono ?_
  rintro e w2 ⟨rfl, rfl⟩
  go_wp2_with fail
  refine (most_any _ _ 1 [x] _ (FRow.new1 _ _ _ (by simp)) rfl (by omega) (words1 lx)).mono ?_
  rintro e w2 ⟨rfl, rfl⟩
  go_wp2_with fail
  refine (same_any _ _ _ g2 lx).mono ?_
  rintro e w2 ⟨rfl, rfl⟩
  go_wp2_with fail
  refine (least_any _ _ 2 [x, y] _ (FRow.new2 _ _ _ _ (by simp)) rfl (by omega) (words2 lx ly)).mono ?_
  rintro e w2 ⟨rfl, rfl⟩
  go_wp2_with fail
  refine (least_any _ _ 2 [y, x] _ (FRow.new2 _ _ _ _ (by simp)) rfl (by omega) (words2 ly lx)).mono ?_
  rintro e w2 ⟨rfl, rfl⟩
  go_wp2_with fail
  refine (same_any _ _ _ g3 g4).mono ?_
  rintro e w2 ⟨rfl, rfl⟩
  go_wp2_with fail
  refine (most_any _ _ 2 [x, y] _ (FRow.new2 _ _ _ _ (by simp)) rfl (by omega) (words2 lx ly)).mono ?_
  rintro e w2 ⟨rfl, rfl⟩
  go_wp2_with fail
  refine (most_any _ _ 2 [y, x] _ (FRow.new2 _ _ _ _ (by simp)) rfl (by omega) (words2 ly lx)).mono ?_
  rintro e w2 ⟨rfl, rfl⟩
  go_wp2_with fail
  refine (same_any _ _ _ g5 g6).mono ?_
  rintro e w2 ⟨rfl, rfl⟩
  rcases KEY.out with ⟨k1, k2, k3⟩ | ⟨k1, k2, k3, k4, k5⟩ | ⟨k1, k2, k3, k4⟩
  all_goals
    clear KEY
    go_wp2_with (first
      | (go_at_call 13; (first | (with_reducible refine (class_any x _ lx).mono ?_) | (with_reducible refine (class_any y _ ly).mono ?_) | (with_reducible refine (class_any (negN x) _ nx).mono ?_)); rintro e w' ⟨rfl, rfl⟩)
      | (go_at_call 17; (first | (with_reducible refine (order_any x y _ lx ly).mono ?_) | (with_reducible refine (order_any (negN x) (negN y) _ nx ny).mono ?_)); rintro e w' ⟨rfl, rfl⟩))
    go_ret
    exact ⟨rfl, by repeat (first | exact hB | refine Below.alloc ?_ (by first | omega | (simp; omega)) _)⟩
end Go.Proofs.Ytphiimgfbigogaa
