/- What Class, Order, Key, Same and Of of package gauge do, and the document's own answers: each returns what the plain functions say. -/
import Derived.Test.YtphiimgfbigogaaSmall
namespace Go.Proofs.Ytphiimgfbigogaa
open Go.RowKit
set_option linter.unusedVariables false

theorem class_cases (b : Nat) : classN b = 0 ∨ classN b = 1 ∨ classN b = 2 ∨ classN b = 3 ∨ classN b = 4 ∨ classN b = 5 ∨ classN b = 6 := by
  have := class_bd b; omega
theorem signed_of {b : Nat} : (classN b = 1 → 9223372036854775808 ≤ b) ∧ (classN b = 2 → 9223372036854775808 ≤ b) ∧ (classN b = 3 → 9223372036854775808 ≤ b) ∧ (classN b = 4 → ¬ 9223372036854775808 ≤ b) ∧ (classN b = 5 → ¬ 9223372036854775808 ≤ b) ∧ (classN b = 6 → ¬ 9223372036854775808 ≤ b) := by
  unfold classN
  repeat' split
  all_goals (refine ⟨?_, ?_, ?_, ?_, ?_, ?_⟩ <;> intro h <;> omega)

set_option maxHeartbeats 1000000 in
theorem class_any (b : Nat) (w : World) (hb : b < 18446744073709551616) :
    Calls Try.prog 13 #[.float .f64 b] w fun e w' => e = .returned (.int .i64 (classN b)) ∧ w = w' := by
  by_cases hn : nanB b = true
  · have hc := class_nan.2 hn
    go_enter Try.func13, Try.ntmps13
    go_wp2_with (go_at_call 26; refine (isNaN_any _ _ hb).mono ?_; rintro e w' ⟨rfl, rfl⟩)
    go_ret
    exact ⟨ret_int hc.symm, rfl⟩
  have hn : nanB b = false := by simpa using hn
  have h1 : (FloatKind.f64.format.order b 0 == some .lt) = decide (classN b = 1 ∨ classN b = 2) := below_0 hb hn
  have h2 : (FloatKind.f64.format.order b 0 == some .eq) = decide (classN b = 3 ∨ classN b = 4) := is_0 hb hn
  obtain ⟨s1, s2, s3, s4, s5, s6⟩ := @signed_of b
  rcases class_cases b with hc | hc | hc | hc | hc | hc | hc
  · have := class_nan.1 hc; rw [hn] at this; cases this
  · go_enter Try.func13, Try.ntmps13
    go_wp2_with (first | (go_at_call 26; refine (isNaN_any _ _ hb).mono ?_; rintro e w' ⟨rfl, rfl⟩) | (go_at_call 27; refine (isInf_down _ _ hb).mono ?_; rintro e w' ⟨rfl, rfl⟩))
    go_ret
    exact ⟨ret_int hc.symm, rfl⟩
  · have h1 : (FloatKind.f64.format.order b 0 == some .lt) = true := by rw [h1, hc]; rfl
    clear s1 s2 s3 s4 s5 s6 h2
    go_enter Try.func13, Try.ntmps13
    go_wp2_with (first | (go_at_call 26; refine (isNaN_any _ _ hb).mono ?_; rintro e w' ⟨rfl, rfl⟩) | (go_at_call 27; refine (isInf_down _ _ hb).mono ?_; rintro e w' ⟨rfl, rfl⟩))
    go_ret
    exact ⟨ret_int hc.symm, rfl⟩
  · have h1 : (FloatKind.f64.format.order b 0 == some .lt) = false := by rw [h1, hc]; rfl
    have h2 : (FloatKind.f64.format.order b 0 == some .eq) = true := by rw [h2, hc]; rfl
    have hs := s3 hc
    clear s1 s2 s3 s4 s5 s6
    go_enter Try.func13, Try.ntmps13
    go_wp2_with (first | (go_at_call 26; refine (isNaN_any _ _ hb).mono ?_; rintro e w' ⟨rfl, rfl⟩) | (go_at_call 27; refine (isInf_down _ _ hb).mono ?_; rintro e w' ⟨rfl, rfl⟩) | (go_at_call 28; refine (signbit_any _ _ hb).mono ?_; rintro e w' ⟨rfl, rfl⟩))
    go_ret
    exact ⟨ret_int hc.symm, rfl⟩
  · have h1 : (FloatKind.f64.format.order b 0 == some .lt) = false := by rw [h1, hc]; rfl
    have h2 : (FloatKind.f64.format.order b 0 == some .eq) = true := by rw [h2, hc]; rfl
    have hs := s4 hc
    clear s1 s2 s3 s4 s5 s6
    go_enter Try.func13, Try.ntmps13
    go_wp2_with (first | (go_at_call 26; refine (isNaN_any _ _ hb).mono ?_; rintro e w' ⟨rfl, rfl⟩) | (go_at_call 27; refine (isInf_down _ _ hb).mono ?_; rintro e w' ⟨rfl, rfl⟩) | (go_at_call 28; refine (signbit_any _ _ hb).mono ?_; rintro e w' ⟨rfl, rfl⟩))
    go_ret
    exact ⟨ret_int hc.symm, rfl⟩
  · have h1 : (FloatKind.f64.format.order b 0 == some .lt) = false := by rw [h1, hc]; rfl
    have h2 : (FloatKind.f64.format.order b 0 == some .eq) = false := by rw [h2, hc]; rfl
    clear s1 s2 s3 s4 s5 s6
    go_enter Try.func13, Try.ntmps13
    go_wp2_with (first | (go_at_call 26; refine (isNaN_any _ _ hb).mono ?_; rintro e w' ⟨rfl, rfl⟩) | (go_at_call 27; (first | (with_reducible refine (isInf_down _ _ hb).mono ?_) | (with_reducible refine (isInf_up _ _ hb).mono ?_)); rintro e w' ⟨rfl, rfl⟩))
    go_ret
    exact ⟨ret_int hc.symm, rfl⟩
  · have h1 : (FloatKind.f64.format.order b 0 == some .lt) = false := by rw [h1, hc]; rfl
    have h2 : (FloatKind.f64.format.order b 0 == some .eq) = false := by rw [h2, hc]; rfl
    clear s1 s2 s3 s4 s5 s6
    go_enter Try.func13, Try.ntmps13
    go_wp2_with (first | (go_at_call 26; refine (isNaN_any _ _ hb).mono ?_; rintro e w' ⟨rfl, rfl⟩) | (go_at_call 27; (first | (with_reducible refine (isInf_down _ _ hb).mono ?_) | (with_reducible refine (isInf_up _ _ hb).mono ?_)); rintro e w' ⟨rfl, rfl⟩))
    go_ret
    exact ⟨ret_int hc.symm, rfl⟩
end Go.Proofs.Ytphiimgfbigogaa
