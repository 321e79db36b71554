/- What the document's own Class, and the comparing of numbers, do. -/
import Derived.Test.YtphiimgfbigogaaSmall
namespace Go.Proofs.Ytphiimgfbigogaa
open Go.RowKit
set_option linter.unusedVariables false

theorem classN_cases (b : Nat) {c : Int} (h : (9218868437227405312 < (b : Int) % 9223372036854775808 ∧ c = 0) ∨ (((b : Int) % 9223372036854775808 = 9218868437227405312 ∧ 9223372036854775808 ≤ (b : Int) ∧ c = 1)) ∨ (((b : Int) % 9223372036854775808 = 9218868437227405312 ∧ (b : Int) < 9223372036854775808 ∧ c = 6)) ∨ (((b : Int) % 9223372036854775808 = 0 ∧ 9223372036854775808 ≤ (b : Int) ∧ c = 3)) ∨ (((b : Int) % 9223372036854775808 = 0 ∧ (b : Int) < 9223372036854775808 ∧ c = 4)) ∨ (((b : Int) % 9223372036854775808 < 9218868437227405312 ∧ (b : Int) % 9223372036854775808 ≠ 0 ∧ 9223372036854775808 ≤ (b : Int) ∧ c = 2)) ∨ (((b : Int) % 9223372036854775808 < 9218868437227405312 ∧ (b : Int) % 9223372036854775808 ≠ 0 ∧ (b : Int) < 9223372036854775808 ∧ c = 5))) : c = classN b := by
  unfold classN
  repeat' split
  all_goals omega

set_option maxHeartbeats 1000000 in
theorem rclass_any (n : Int) (w : World) (h0 : 0 ≤ n) (hb : n ≤ 18446744073709551615) :
    Calls Try.prog 14 #[.int .u64 n] w fun e w' => e = .returned (.int .i64 (classN n.toNat)) ∧ w = w' := by
  have e := Int.toNat_of_nonneg h0
  by_cases h1 : 9218868437227405312 < n % 9223372036854775808
  · have r : (0 : Int) = classN n.toNat := classN_cases _ (by omega)
    go_enter Try.func14, Try.ntmps14
    go_wp2_with (go_at_call 29; refine (half_any _).mono ?_; rintro e w' ⟨rfl, rfl⟩)
    go_ret
    exact ⟨ret_int r, rfl⟩
  by_cases h2 : n % 9223372036854775808 = 9218868437227405312
  · by_cases h3 : 9223372036854775808 ≤ n
    · have r : (1 : Int) = classN n.toNat := classN_cases _ (by omega)
      have h2' : (n % 9223372036854775808 == 9218868437227405312) = true := by simp [h2]
      clear h2 e
      go_enter Try.func14, Try.ntmps14
      go_wp2_with (go_at_call 29; refine (half_any _).mono ?_; rintro e w' ⟨rfl, rfl⟩)
      go_ret
      exact ⟨ret_int r, rfl⟩
    · have r : (6 : Int) = classN n.toNat := classN_cases _ (by omega)
      have h2' : (n % 9223372036854775808 == 9218868437227405312) = true := by simp [h2]
      clear h2 e
      go_enter Try.func14, Try.ntmps14
      go_wp2_with (go_at_call 29; refine (half_any _).mono ?_; rintro e w' ⟨rfl, rfl⟩)
      go_ret
      exact ⟨ret_int r, rfl⟩
  have h2' : (n % 9223372036854775808 == 9218868437227405312) = false := by simp [h2]
  by_cases h4 : n % 9223372036854775808 = 0
  · by_cases h3 : 9223372036854775808 ≤ n
    · have r : (3 : Int) = classN n.toNat := classN_cases _ (by omega)
      have h4' : (n % 9223372036854775808 == 0) = true := by simp [h4]
      clear h2 h4 e
      go_enter Try.func14, Try.ntmps14
      go_wp2_with (go_at_call 29; refine (half_any _).mono ?_; rintro e w' ⟨rfl, rfl⟩)
      go_ret
      exact ⟨ret_int r, rfl⟩
    · have r : (4 : Int) = classN n.toNat := classN_cases _ (by omega)
      have h4' : (n % 9223372036854775808 == 0) = true := by simp [h4]
      clear h2 h4 e
      go_enter Try.func14, Try.ntmps14
      go_wp2_with (go_at_call 29; refine (half_any _).mono ?_; rintro e w' ⟨rfl, rfl⟩)
      go_ret
      exact ⟨ret_int r, rfl⟩
  have h4' : (n % 9223372036854775808 == 0) = false := by simp [h4]
  by_cases h3 : 9223372036854775808 ≤ n
  · have r : (2 : Int) = classN n.toNat := classN_cases _ (by omega)
    clear h2 h4 e
    go_enter Try.func14, Try.ntmps14
    go_wp2_with (go_at_call 29; refine (half_any _).mono ?_; rintro e w' ⟨rfl, rfl⟩)
    go_ret
    exact ⟨ret_int r, rfl⟩
  · have r : (5 : Int) = classN n.toNat := classN_cases _ (by omega)
    clear h2 h4 e
    go_enter Try.func14, Try.ntmps14
    go_wp2_with (go_at_call 29; refine (half_any _).mono ?_; rintro e w' ⟨rfl, rfl⟩)
    go_ret
    exact ⟨ret_int r, rfl⟩

/-- The order of two numbers. -/
def cmpI (x y : Int) : Int := if x < y then -1 else if x = y then 0 else 1

set_option maxHeartbeats 1000000 in
theorem isNaNi_any (n : Int) (w : World) : Calls Try.prog 34 #[.int .i64 n] w fun e w' => e = .returned (.bool false) ∧ w = w' := by
  go_enter Try.func34, Try.ntmps34
  go_wp2
  go_ret
  exact ⟨ret_bool (by simp), rfl⟩

set_option maxHeartbeats 1000000 in
theorem cmpi_any (x y : Int) (w : World) : Calls Try.prog 30 #[.int .i64 x, .int .i64 y] w fun e w' => e = .returned (.int .i64 (cmpI x y)) ∧ w = w' := by
  go_enter Try.func30, Try.ntmps30
  go_wp2_with (go_at_call 34; refine (isNaNi_any _ _).mono ?_; rintro e w' ⟨rfl, rfl⟩)
  all_goals
    go_ret
    refine ⟨ret_int ?_, rfl⟩
    unfold cmpI
    repeat' split
    all_goals omega

set_option maxHeartbeats 1000000 in
theorem cmpf_any (a b : Nat) (w : World) (ha : a < 18446744073709551616) (hb : b < 18446744073709551616) (hna : nanB a = false) (hnb : nanB b = false) :
    Calls Try.prog 31 #[.float .f64 a, .float .f64 b] w fun e w' => e = .returned (.int .i64 (cmpI (place a) (place b))) ∧ w = w' := by
  have h1 : (FloatKind.f64.format.order a b == some .lt) = decide (place a < place b) := by
    have := order_lt ha hb; rw [hna, hnb] at this; simpa [fmt64] using this
  have h2 : (FloatKind.f64.format.order a b == some .gt) = decide (place b < place a) := by
    have := order_gt ha hb; rw [hna, hnb] at this; simpa [fmt64] using this
  generalize place a = x at *
  generalize place b = y at *
  go_enter Try.func31, Try.ntmps31
  go_wp2_with (go_at_call 35; (first | (with_reducible refine (cisNaN_any a _ ha).mono ?_) | (with_reducible refine (cisNaN_any b _ hb).mono ?_)); rintro e w' ⟨rfl, rfl⟩)
  all_goals
    go_ret
    refine ⟨ret_int ?_, rfl⟩
    unfold cmpI
    repeat' split
    all_goals omega

set_option maxHeartbeats 1000000 in
theorem cmpf_nan (a b : Nat) (w : World) (ha : a < 18446744073709551616) (hb : b < 18446744073709551616) (hna : nanB a = true) (hnb : nanB b = true) :
    Calls Try.prog 31 #[.float .f64 a, .float .f64 b] w fun e w' => e = .returned (.int .i64 0) ∧ w = w' := by
  go_enter Try.func31, Try.ntmps31
  go_wp2_with (go_at_call 35; (first | (with_reducible refine (cisNaN_any a _ ha).mono ?_) | (with_reducible refine (cisNaN_any b _ hb).mono ?_)); rintro e w' ⟨rfl, rfl⟩)
  all_goals
    go_ret
    exact ⟨rfl, rfl⟩
end Go.Proofs.Ytphiimgfbigogaa
