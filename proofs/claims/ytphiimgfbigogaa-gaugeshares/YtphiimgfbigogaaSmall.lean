/- What the small calls of package math and cmp do with doubles: each returns what the plain functions say. -/
import Derived.Test.YtphiimgfbigogaaProg
import Derived.Test.YtphiimgfbigogaaKeys
import Derived.WalkKit
import Derived.WalkSpells
import Derived.WalkLawsBesides
namespace Go.Proofs.Ytphiimgfbigogaa
open Go.RowKit
set_option linter.unusedVariables false

theorem ret_bool {a b : Bool} (h : a = b) : Ending.returned (.bool a) = .returned (.bool b) := by rw [h]
theorem ret_int {k : IntKind} {a b : Int} (h : a = b) : Ending.returned (.int k a) = .returned (.int k b) := by rw [h]
theorem fmt64 : FloatKind.f64.format = Ieee.double := rfl

theorem frombits_run (n : Int) (w : World) : (callFunc 12 #[.int .u64 n]).run Try.prog w = .ok (.value (.float .f64 n.toNat)) w := by
  rw [run_callFunc_extern Try.func12 (by kernel_rfl) (by kernel_rfl) (by kernel_rfl) (e := Extern.MathFloatBits.float64frombits) (by kernel_rfl)]; rfl
theorem bits_run (b : Nat) (w : World) : (callFunc 22 #[.float .f64 b]).run Try.prog w = .ok (.value (.int .u64 b)) w := by
  rw [run_callFunc_extern Try.func22 (by kernel_rfl) (by kernel_rfl) (by kernel_rfl) (e := Extern.MathFloatBits.float64bits) (by kernel_rfl)]; rfl

set_option maxHeartbeats 400000 in
theorem isNaN_any (b : Nat) (w : World) (hb : b < 18446744073709551616) :
    Calls Try.prog 26 #[.float .f64 b] w fun e w' => e = .returned (.bool (nanB b)) ∧ w = w' := by
  have h := nan_self hb
  go_enter Try.func26, Try.ntmps26
  go_wp2
  go_ret
  exact ⟨ret_bool (by rw [fmt64]; exact h), rfl⟩

set_option maxHeartbeats 400000 in
theorem cisNaN_any (b : Nat) (w : World) (hb : b < 18446744073709551616) :
    Calls Try.prog 35 #[.float .f64 b] w fun e w' => e = .returned (.bool (nanB b)) ∧ w = w' := by
  have h := nan_self hb
  go_enter Try.func35, Try.ntmps35
  go_wp2
  go_ret
  exact ⟨ret_bool (by rw [fmt64]; exact h), rfl⟩

set_option maxHeartbeats 400000 in
theorem nan_any (w : World) :
    Calls Try.prog 32 #[] w fun e w' => e = .returned (.float .f64 9221120237041090561) ∧ w = w' := by
  have hf := frombits_run 9221120237041090561 w
  go_enter Try.func32, Try.ntmps32
  go_wp2
  go_ret
  exact ⟨rfl, rfl⟩

set_option maxHeartbeats 400000 in
theorem half_any (w : World) :
    Calls Try.prog 29 #[] w fun e w' => e = .returned (.int .u64 9223372036854775808) ∧ w = w' := by
  go_enter Try.func29, Try.ntmps29
  go_wp2
  go_ret
  exact ⟨rfl, rfl⟩

set_option maxHeartbeats 400000 in
theorem signbit_any (b : Nat) (w : World) (hb : b < 18446744073709551616) :
    Calls Try.prog 28 #[.float .f64 b] w fun e w' => e = .returned (.bool (decide (9223372036854775808 ≤ b))) ∧ w = w' := by
  have hf := bits_run b w
  go_enter Try.func28, Try.ntmps28
  go_wp2
  go_ret
  exact ⟨ret_bool (by
    rw [Bool.eq_iff_iff]
    simp only [decide_eq_true_eq]
    unfold wrap64
    omega), rfl⟩

set_option maxHeartbeats 400000 in
theorem isInf_up (b : Nat) (w : World) (hb : b < 18446744073709551616) :
    Calls Try.prog 27 #[.float .f64 b, .int .i64 1] w fun e w' => e = .returned (.bool (decide (classN b = 6))) ∧ w = w' := by
  have h := inf_above hb
  go_enter Try.func27, Try.ntmps27
  go_wp2
  go_ret
  exact ⟨ret_bool (by rw [fmt64]; exact h), rfl⟩

theorem neg_run (b : Nat) (w : World) (hb : b < 18446744073709551616) : (Op.unary .neg (.float .f64 b)).run Try.prog w = .ok (.float .f64 (negN b)) w := by
  have h : Op.negFloat .f64 b = negN b := xor_top b hb
  simp [Op.unary, h]
theorem down_6 {b : Nat} (hb : b < 18446744073709551616) : decide (classN (negN b) = 6) = decide (classN b = 1) := by
  cases h : nanB b
  · rw [class_neg hb h, Bool.eq_iff_iff, decide_eq_true_eq, decide_eq_true_eq]; omega
  · have h1 := class_nan.2 h
    have h2 := class_nan.2 ((nan_neg hb).trans h)
    rw [h1, h2]; rfl

set_option maxHeartbeats 400000 in
theorem isInf_down (b : Nat) (w : World) (hb : b < 18446744073709551616) :
    Calls Try.prog 27 #[.float .f64 b, .int .i64 (-1)] w fun e w' => e = .returned (.bool (decide (classN b = 1))) ∧ w = w' := by
  have h := inf_above (neg_lt hb)
  have hx := neg_run b w hb
  go_enter Try.func27, Try.ntmps27
  go_wp2
  go_ret
  exact ⟨ret_bool (by rw [fmt64]; exact h.trans (down_6 hb)), rfl⟩
end Go.Proofs.Ytphiimgfbigogaa
