/- The walk of GaugeRows: it returns true whatever it is handed, and turns nothing that was there. -/
import Derived.Test.YtphiimgfbigogaaTurnsW
namespace Go.Proofs.Ytphiimgfbigogaa
open Go.RowKit
set_option linter.unusedVariables false

theorem FRow.new3 (w : World) (x y z s : Nat) (hs : w.heap.size = s) : FRow (w.alloc (.cells #[.float .f64 x, .float .f64 y, .float .f64 z] 24)) (some ⟨s, 0, none⟩) [x, y, z] := fun _ =>
  ⟨_, rfl, by simp; omega, fun j hj => by
    subst hs
    have : j = 0 ∨ j = 1 ∨ j = 2 := by simp at hj; omega
    rcases this with rfl | rfl | rfl <;> rw [cell_new] <;> rfl⟩
theorem words3 {x y z : Nat} (hx : x < 18446744073709551616) (hy : y < 18446744073709551616) (hz : z < 18446744073709551616) : Words [x, y, z] := by
  intro i
  rcases i with _ | _ | _ | i <;> simp [hx, hy, hz]
def bitI (x : Nat) : Int := if nanB x then 1 else 0
/-- How many of the first ones are NaNs. -/
def cntI (x y z : Nat) (k : Nat) : Int := (if 0 < k then bitI x else 0) + (if 1 < k then bitI y else 0) + (if 2 < k then bitI z else 0)
theorem bit_bd (x : Nat) : 0 ≤ bitI x ∧ bitI x ≤ 1 := by unfold bitI; split <;> omega
theorem bit_key {x : Nat} (hx : x < 18446744073709551616) : bitI x = 1 ↔ keyN x = 0 := by
  rw [← nan_key hx]; unfold bitI; split <;> simp_all
theorem l3_key {x y z : Nat} (hx : x < 18446744073709551616) (hy : y < 18446744073709551616) (hz : z < 18446744073709551616) : keyN (leastF [x, y, z]) = lessK (lessK (keyN x) (keyN y)) (keyN z) := by
  rw [show leastF [x, y, z] = stepL (stepL (stepL nan0 x) y) z from rfl, key_stepL (stepL_lt (stepL_lt nan0_lt hx) hy) hz, key_stepL (stepL_lt nan0_lt hx) hy, key_stepL nan0_lt hx, key_nan0]
  have : lessK 0 (keyN x) = keyN x := by unfold lessK; repeat' split
                                         all_goals omega
  rw [this]
theorem m3_key {x y z : Nat} : keyN (mostF [x, y, z]) = moreK (moreK (keyN x) (keyN y)) (keyN z) := by
  rw [show mostF [x, y, z] = stepM (stepM (stepM nan0 x) y) z from rfl, key_stepM, key_stepM, key_stepM, key_nan0]
  have : moreK 0 (keyN x) = keyN x := by unfold moreK; repeat' split
                                         all_goals omega
  rw [this]
theorem class0_key {b : Nat} (hb : b < 18446744073709551616) : classN b = 0 ↔ keyN b = 0 := by rw [class_nan, nan_key hb]

/-- What the walk asks of one of the three. -/
theorem one_of {x y z u : Nat} (hx : x < 18446744073709551616) (hy : y < 18446744073709551616) (hz : z < 18446744073709551616) (hu : u = x ∨ u = y ∨ u = z) (hn : nanB u = false) : ¬ 0 < ordI (leastF [x, y, z]) u ∧ ¬ ordI (mostF [x, y, z]) u < 0 := by
  have lu : u < 18446744073709551616 := by rcases hu with rfl | rfl | rfl <;> assumption
  have h0 := key_pos lu hn
  rw [ordI_pos, ordI_neg1, l3_key hx hy hz, m3_key]
  unfold lessK moreK
  rcases hu with rfl | rfl | rfl <;> (repeat' split) <;> omega
theorem ends_3 {x y z : Nat} (hx : x < 18446744073709551616) (hy : y < 18446744073709551616) (hz : z < 18446744073709551616) : (cntI x y z 3 == 3) = (classN (leastF [x, y, z]) == 0) ∧ (cntI x y z 3 == 3) = (classN (mostF [x, y, z]) == 0) := by
  have g3 : leastF [x, y, z] < 18446744073709551616 := least_lt [x, y, z] (words3 hx hy hz) 3
  have g4 : mostF [x, y, z] < 18446744073709551616 := most_lt [x, y, z] (words3 hx hy hz) 3
  have b1 := bit_key hx
  have b2 := bit_key hy
  have b3 := bit_key hz
  have c1 := bit_bd x
  have c2 := bit_bd y
  have c3 := bit_bd z
  have e : cntI x y z 3 = bitI x + bitI y + bitI z := by simp [cntI]
  rw [e]
  constructor
  · rw [Bool.eq_iff_iff]
    simp only [beq_iff_eq, class0_key g3, l3_key hx hy hz]
    unfold lessK
    (repeat' split) <;> omega
  · rw [Bool.eq_iff_iff]
    simp only [beq_iff_eq, class0_key g4, m3_key]
    unfold moreK
    (repeat' split) <;> omega
theorem cnt_step (x y z : Nat) : cntI x y z 0 = 0 ∧ cntI x y z 1 = cntI x y z 0 + bitI x ∧ cntI x y z 2 = cntI x y z 1 + bitI y ∧ cntI x y z 3 = cntI x y z 2 + bitI z := by
  simp [cntI]
theorem bit_yes {x : Nat} (h : nanB x = true) : bitI x = 1 := by simp [bitI, h]
theorem bit_no {x : Nat} (h : nanB x = false) : bitI x = 0 := by simp [bitI, h]
theorem cnt_bd (x y z k : Nat) : 0 ≤ cntI x y z k ∧ cntI x y z k ≤ 3 := by
  have c1 := bit_bd x
  have c2 := bit_bd y
  have c3 := bit_bd z
  unfold cntI; repeat' split
  all_goals omega
theorem class_ne {u : Nat} (h : nanB u = false) : (classN u == 0) = false ∧ (classN u != 0) = true := by
  have : classN u ≠ 0 := fun e => by rw [class_nan.1 e] at h; cases h
  simp [this]
theorem ord_trans {x y z : Nat} (h1 : ordI x y ≤ 0) (h2 : ordI y z ≤ 0) : ¬ 0 < ordI x z := by
  have a := @ordI_pos x y
  have b := @ordI_pos y z
  have c := @ordI_pos x z
  omega
theorem ord_self (x : Nat) : ordI x x = 0 := ordI_eq rfl

theorem index46_0 (x y z : Value) (w : World) : (Instr.index 46 (.agg #[x, y, z]) (.int .i64 0)).run Try.prog w = .ok x w := by
  simp [Instr.index, go_sem]
theorem index46_1 (x y z : Value) (w : World) : (Instr.index 46 (.agg #[x, y, z]) (.int .i64 1)).run Try.prog w = .ok y w := by
  simp [Instr.index, go_sem]
theorem index46_2 (x y z : Value) (w : World) : (Instr.index 46 (.agg #[x, y, z]) (.int .i64 2)).run Try.prog w = .ok z w := by
  simp [Instr.index, go_sem]
set_option maxHeartbeats 2000000 in
theorem rows_walk (a b c : Int) (w : World) (ha0 : 0 ≤ a) (ha : a ≤ 18446744073709551615) (hb0 : 0 ≤ b) (hb : b ≤ 18446744073709551615) (hc0 : 0 ≤ c) (hc : c ≤ 18446744073709551615) :
    Calls Try.prog 7 #[.int .u64 a, .int .u64 b, .int .u64 c] w fun e w' => e = .returned (.bool true) ∧ Below w.heap.size w w' := by
  obtain ⟨x, hx⟩ : ∃ x : Nat, x = a.toNat := ⟨_, rfl⟩
  obtain ⟨y, hy⟩ : ∃ y : Nat, y = b.toNat := ⟨_, rfl⟩
  obtain ⟨z, hz⟩ : ∃ z : Nat, z = c.toNat := ⟨_, rfl⟩
  have lx : x < 18446744073709551616 := by omega
  have ly : y < 18446744073709551616 := by omega
  have lz : z < 18446744073709551616 := by omega
  have HF : ∀ w, (callFunc 12 #[.int .u64 a]).run Try.prog w = .ok (.value (.float .f64 x)) w := fun w => by rw [hx]; exact frombits_run a w
  have HG : ∀ w, (callFunc 12 #[.int .u64 b]).run Try.prog w = .ok (.value (.float .f64 y)) w := fun w => by rw [hy]; exact frombits_run b w
  have HH : ∀ w, (callFunc 12 #[.int .u64 c]).run Try.prog w = .ok (.value (.float .f64 z)) w := fun w => by rw [hz]; exact frombits_run c w
  clear hx hy hz
  have lo : leastF [x, y, z] < 18446744073709551616 := least_lt [x, y, z] (words3 lx ly lz) 3
  have hi : mostF [x, y, z] < 18446744073709551616 := most_lt [x, y, z] (words3 lx ly lz) 3
  have ONE := fun u => @one_of x y z u lx ly lz
  have TR := @ord_trans x y z
  have SX := ord_self x
  obtain ⟨E1, E2⟩ := ends_3 lx ly lz
  have TR := Lib.hid TR
  have ONE := Lib.hid ONE
  have E1 := Lib.hid E1
  have E2 := Lib.hid E2
  rename_i TR0 ONE0 E10 E20
  clear TR0 ONE0 E10 E20
  go_enter Try.func7, Try.ntmps7
  go_wp2_with fail
  refine (awake_any _).mono ?_
  rintro e w1 ⟨rfl, hB⟩
  have hz := hB.size
  have hcut : ∀ (p q : Prop), p → q → p ∧ q := fun _ _ h k => ⟨h, k⟩
  clear hcut
  by_cases h1 : ordI x y ≤ 0
  all_goals by_cases h2 : ordI y z ≤ 0
  all_goals (try have h3 := TR.out h1 h2)
  all_goals
    go_wp2_with (first
      | (go_at_call 17; (first | (with_reducible refine (order_any x y _ lx ly).mono ?_) | (with_reducible refine (order_any y z _ ly lz).mono ?_) | (with_reducible refine (order_any x z _ lx lz).mono ?_)); rintro e w' ⟨rfl, rfl⟩)
      | (go_at_call 18; (with_reducible refine (same_any x x _ lx lx).mono ?_); rintro e w' ⟨rfl, rfl⟩)
      | (go_at_call 23; refine (least_any _ _ 3 [x, y, z] _ (FRow.new3 _ _ _ _ _ (by simp)) rfl (by omega) (words3 lx ly lz)).mono ?_; rintro e w' ⟨rfl, rfl⟩)
      | (go_at_call 24; refine (most_any _ _ 3 [x, y, z] _ (FRow.new3 _ _ _ _ _ (by simp)) rfl (by omega) (words3 lx ly lz)).mono ?_; rintro e w' ⟨rfl, rfl⟩))
    go_loop [12, 59] (fun n i => ∃ k : Nat, k ≤ 3 ∧ i = .int .i64 k ∧ n = .int .i64 (cntI x y z k)) (fun _ i => 3 - (intOf i).toNat)
    case atStart => exact ⟨0, Nat.zero_le _, rfl, rfl⟩
    case round =>
      obtain ⟨k, hk, rfl, rfl⟩ := hrel
      obtain ⟨n0, n1⟩ := cnt_bd x y z k
      have STEP := Lib.hid (cnt_step x y z)
      have I0 := index46_0 (.float .f64 x) (.float .f64 y) (.float .f64 z)
      have I1 := index46_1 (.float .f64 x) (.float .f64 y) (.float .f64 z)
      have I2 := index46_2 (.float .f64 x) (.float .f64 y) (.float .f64 z)
      have hk' : k = 3 ∨ k = 0 ∨ k = 1 ∨ k = 2 := by omega
      rcases hk' with rfl | rfl | rfl | rfl
      · generalize cntI x y z 3 = m at *
        have e1 := E1.out.symm
        have e2 := E2.out.symm
        clear E1 E2
        cases hm3 : (m == 3)
        all_goals
          rw [hm3] at e1 e2
          go_wp2_with (go_at_call 13; (first | (with_reducible refine (class_any (leastF [x, y, z]) _ lo).mono ?_) | (with_reducible refine (class_any (mostF [x, y, z]) _ hi).mono ?_)); rintro e w' ⟨rfl, rfl⟩)
          go_ret
          exact ⟨by first | rfl | simp, by repeat (first | exact hB | refine Below.alloc ?_ (by first | omega | (simp; omega)) _)⟩
      · cases hn : nanB x with
        | true =>
          have hcl := class_nan.2 hn
          go_wp2_with (go_at_call 13; (with_reducible refine (class_any x _ lx).mono ?_); rintro e w' ⟨rfl, rfl⟩)
          go_round
          case rel => exact ⟨1, by omega, rfl, by rw [STEP.out.2.1, bit_yes hn]⟩
          case measure => simp [intOf]
        | false =>
          obtain ⟨k1, k2⟩ := class_ne hn
          obtain ⟨o1, o2⟩ := ONE.out x (.inl rfl) hn
          go_wp2_with (first | (go_at_call 13; (with_reducible refine (class_any x _ lx).mono ?_); rintro e w' ⟨rfl, rfl⟩) | (go_at_call 17; (first | (with_reducible refine (order_any (leastF [x, y, z]) x _ lo lx).mono ?_) | (with_reducible refine (order_any (mostF [x, y, z]) x _ hi lx).mono ?_)); rintro e w' ⟨rfl, rfl⟩))
          go_round
          case rel => exact ⟨1, by omega, rfl, by rw [STEP.out.2.1, bit_no hn, Int.add_zero]⟩
          case measure => simp [intOf]
      · cases hn : nanB y with
        | true =>
          have hcl := class_nan.2 hn
          go_wp2_with (go_at_call 13; (with_reducible refine (class_any y _ ly).mono ?_); rintro e w' ⟨rfl, rfl⟩)
          go_round
          case rel => exact ⟨2, by omega, rfl, by rw [STEP.out.2.2.1, bit_yes hn]⟩
          case measure => simp [intOf]
        | false =>
          obtain ⟨k1, k2⟩ := class_ne hn
          obtain ⟨o1, o2⟩ := ONE.out y (.inr (.inl rfl)) hn
          go_wp2_with (first | (go_at_call 13; (with_reducible refine (class_any y _ ly).mono ?_); rintro e w' ⟨rfl, rfl⟩) | (go_at_call 17; (first | (with_reducible refine (order_any (leastF [x, y, z]) y _ lo ly).mono ?_) | (with_reducible refine (order_any (mostF [x, y, z]) y _ hi ly).mono ?_)); rintro e w' ⟨rfl, rfl⟩))
          go_round
          case rel => exact ⟨2, by omega, rfl, by rw [STEP.out.2.2.1, bit_no hn, Int.add_zero]⟩
          case measure => simp [intOf]
      · cases hn : nanB z with
        | true =>
          have hcl := class_nan.2 hn
          go_wp2_with (go_at_call 13; (with_reducible refine (class_any z _ lz).mono ?_); rintro e w' ⟨rfl, rfl⟩)
          go_round
          case rel => exact ⟨3, by omega, rfl, by rw [STEP.out.2.2.2, bit_yes hn]⟩
          case measure => simp [intOf]
        | false =>
          obtain ⟨k1, k2⟩ := class_ne hn
          obtain ⟨o1, o2⟩ := ONE.out z (.inr (.inr rfl)) hn
          go_wp2_with (first | (go_at_call 13; (with_reducible refine (class_any z _ lz).mono ?_); rintro e w' ⟨rfl, rfl⟩) | (go_at_call 17; (first | (with_reducible refine (order_any (leastF [x, y, z]) z _ lo lz).mono ?_) | (with_reducible refine (order_any (mostF [x, y, z]) z _ hi lz).mono ?_)); rintro e w' ⟨rfl, rfl⟩))
          go_round
          case rel => exact ⟨3, by omega, rfl, by rw [STEP.out.2.2.2, bit_no hn, Int.add_zero]⟩
          case measure => simp [intOf]
end Go.Proofs.Ytphiimgfbigogaa
