/- What Share of package gauge, the document's own Order, and the statements' first look do. -/
import Derived.Test.YtphiimgfbigogaaKeyw
namespace Go.Proofs.Ytphiimgfbigogaa
open Go.RowKit
set_option linter.unusedVariables false

/-- Some NaN, and one answer more drawn. -/
def SomeNan (w : World) (e : Ending) (w' : World) : Prop := ∃ b : Nat, nanB b = true ∧ b < 18446744073709551616 ∧ e = .returned (.float .f64 b) ∧ w' = w.drew

theorem run_div_none (x y : Nat) (w : World) (h : floatBits .quo .f64 x y = none) : ∃ b : Nat, (nanB b = true ∧ b < 18446744073709551616) ∧ (binOp .quo 24 (.float .f64 x) (.float .f64 y)).run Try.prog w = .ok (.float .f64 b) w.drew := by
  refine ⟨_, ?_, by
    have h' : FloatKind.f64.format.div x y = none := h
    simp [binOp, Op.floatArith, h']
    rfl⟩
  simp only [Question.cut]
  generalize w.tape w.drawn (Question.nanBits FloatKind.f64 x y) = t
  have e1 : t / 2 % (2 ^ 52 - 1) < 4503599627370495 := Nat.mod_lt _ (by decide)
  generalize t / 2 % (2 ^ 52 - 1) = u at *
  refine ⟨?_, by omega⟩
  rw [nanB_iff]
  rcases Nat.mod_two_eq_zero_or_one t with h | h <;> rw [h] <;> omega

set_option maxHeartbeats 1000000 in
theorem share_some (a b : Int) (r : Nat) (w : World) (h : floatBits .quo .f64 (floatOfInt .f64 a) (floatOfInt .f64 b) = some r) :
    Calls Try.prog 25 #[.int .i64 a, .int .i64 b] w fun e w' => e = .returned (.float .f64 r) ∧ w = w' := by
  have hd := run_float_arith (P := Try.prog) w .quo 24 .f64 _ _ r h
  go_enter Try.func25, Try.ntmps25
  go_wp2
  go_ret
  exact ⟨rfl, rfl⟩

set_option maxHeartbeats 1000000 in
theorem share_none (a b : Int) (w : World) (h : floatBits .quo .f64 (floatOfInt .f64 a) (floatOfInt .f64 b) = none) :
    Calls Try.prog 25 #[.int .i64 a, .int .i64 b] w (SomeNan w) := by
  obtain ⟨r, ⟨h1, h2⟩, hd⟩ := run_div_none _ _ w h
  go_enter Try.func25, Try.ntmps25
  go_wp2
  go_ret
  exact ⟨r, h1, h2, rfl, rfl⟩

theorem share_00 : floatBits .quo .f64 (floatOfInt .f64 0) (floatOfInt .f64 0) = none := by decide

set_option maxHeartbeats 1000000 in
theorem awake_any (w : World) : Calls Try.prog 11 #[] w fun e w' => e = .returned (.bool true) ∧ Below w.heap.size w w' := by
  have h5 : classN 4607182418800017408 = 5 := by decide
  go_enter Try.func11, Try.ntmps11
  go_wp2_with fail
  refine (share_none 0 0 _ share_00).mono ?_
  rintro e w' ⟨b, hn, hb, rfl, rfl⟩
  have hc := class_nan.2 hn
  go_wp2_with (go_at_call 13; (first | (with_reducible refine (class_any b _ hb).mono ?_) | (with_reducible refine (class_any 4607182418800017408 _ (by omega)).mono ?_)); rintro e w' ⟨rfl, rfl⟩)
  go_ret
  exact ⟨rfl, (Below.refl _ _).drew⟩

/-- The document's order, way by way. -/
def rord (a b : Int) : Int :=
  if (classN a.toNat != classN b.toNat) = true then (if classN a.toNat < classN b.toNat then -1 else 1)
  else if (¬ classN a.toNat = 2 ∧ ¬ classN a.toNat = 5) ∨ (a == b) = true then 0
  else if (decide (a < b) == (classN a.toNat == 5)) = true then -1 else 1
theorem same_key {a b : Nat} (h : classN a = classN b) (h2 : ¬ classN a = 2) (h5 : ¬ classN a = 5) (ha : a < 18446744073709551616) (hb : b < 18446744073709551616) : keyN a = keyN b := by
  unfold classN at *; unfold keyN
  repeat' split at h
  all_goals first | omega | (repeat' split) <;> omega
theorem key_2 {a b : Nat} (h : classN a = classN b) (h2 : classN a = 2) (ha : a < 18446744073709551616) (hb : b < 18446744073709551616) : (keyN a < keyN b ↔ b < a) ∧ (keyN a = keyN b ↔ a = b) := by
  unfold classN at *; unfold keyN
  repeat' split at h
  all_goals first | omega | (repeat' split) <;> omega
theorem key_5 {a b : Nat} (h : classN a = classN b) (h2 : classN a = 5) (ha : a < 18446744073709551616) (hb : b < 18446744073709551616) : (keyN a < keyN b ↔ a < b) ∧ (keyN a = keyN b ↔ a = b) := by
  unfold classN at *; unfold keyN
  repeat' split at h
  all_goals first | omega | (repeat' split) <;> omega
theorem rord_eq {a b : Int} (ha0 : 0 ≤ a) (ha : a ≤ 18446744073709551615) (hb0 : 0 ≤ b) (hb : b ≤ 18446744073709551615) : rord a b = ordI a.toNat b.toNat := by
  have la : a.toNat < 18446744073709551616 := by omega
  have lb : b.toNat < 18446744073709551616 := by omega
  unfold rord
  by_cases h1 : classN a.toNat = classN b.toNat
  · rw [if_neg (by simp [h1])]
    by_cases h2 : classN a.toNat = 2
    · obtain ⟨k1, k2⟩ := key_2 h1 h2 la lb
      by_cases h3 : a = b
      · rw [if_pos (by simp [h3]), ordI_eq (by rw [h3])]
      · rw [if_neg (by simp [h2, h3]), h2]
        by_cases h4 : a < b
        · rw [if_neg (by simp [h4]), ordI_gt (by omega)]
        · rw [if_pos (by simp [h4]), ordI_lt (by omega)]
    · by_cases h5 : classN a.toNat = 5
      · obtain ⟨k1, k2⟩ := key_5 h1 h5 la lb
        by_cases h3 : a = b
        · rw [if_pos (by simp [h3]), ordI_eq (by rw [h3])]
        · rw [if_neg (by simp [h5, h3]), h5]
          by_cases h4 : a < b
          · rw [if_pos (by simp [h4]), ordI_lt (by omega)]
          · rw [if_neg (by simp [h4]), ordI_gt (by omega)]
      · rw [if_pos (Or.inl ⟨h2, h5⟩), ordI_eq (same_key h1 h2 h5 la lb)]
  · rw [if_pos (by simp [h1])]
    by_cases h2 : classN a.toNat < classN b.toNat
    · rw [if_pos h2, ordI_lt (class_lt la lb h2)]
    · rw [if_neg h2, ordI_gt (class_lt lb la (by omega))]

set_option maxHeartbeats 1000000 in
theorem rorder_any (a b : Int) (w : World) (ha0 : 0 ≤ a) (ha : a ≤ 18446744073709551615) (hb0 : 0 ≤ b) (hb : b ≤ 18446744073709551615) :
    Calls Try.prog 15 #[.int .u64 a, .int .u64 b] w fun e w' => e = .returned (.int .i64 (ordI a.toNat b.toNat)) ∧ w = w' := by
  have la : a.toNat < 18446744073709551616 := by omega
  have lb : b.toNat < 18446744073709551616 := by omega
  go_enter Try.func15, Try.ntmps15
  go_wp2_with (go_at_call 14; refine (rclass_any _ _ (by omega) (by omega)).mono ?_; rintro e w' ⟨rfl, rfl⟩)
  all_goals
    go_ret
    refine ⟨ret_int ?_, rfl⟩
    rw [← rord_eq ha0 ha hb0 hb]
    unfold rord
    simp_all
    try (have e2 : classN b.toNat = 2 := by omega
         rw [e2]; simp <;> omega)
end Go.Proofs.Ytphiimgfbigogaa
