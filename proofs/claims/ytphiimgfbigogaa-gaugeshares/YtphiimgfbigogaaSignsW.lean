/- The walk of GaugeSigns: it returns true whatever it is handed, and turns nothing that was there. -/
import Derived.Test.YtphiimgfbigogaaShareW
import Derived.Lib.Hide
namespace Go.Proofs.Ytphiimgfbigogaa
open Go.RowKit
set_option linter.unusedVariables false

theorem f64_eq {x y : Nat} (hx : x < 18446744073709551616) (hy : y < 18446744073709551616) (nx : nanB x = false) (ny : nanB y = false) : (FloatKind.f64.format.order x y == some .eq) = decide (place x = place y) := by
  have := order_eq hx hy; rw [nx, ny] at this; simpa [fmt64] using this
theorem f64_lt {x y : Nat} (hx : x < 18446744073709551616) (hy : y < 18446744073709551616) (nx : nanB x = false) (ny : nanB y = false) : (FloatKind.f64.format.order x y == some .lt) = decide (place x < place y) := by
  have := order_lt hx hy; rw [nx, ny] at this; simpa [fmt64] using this

/-- What is told of a share of two numbers that aren't 0. -/
theorem signs_facts {a b : Int} (ha : a ≠ 0) (hb : b ≠ 0) (ha2 : a.natAbs < 4294967296) (hb2 : b.natAbs < 4294967296) :
    ∃ r, shareW a b = some r ∧ r < 18446744073709551616 ∧ classN r = (if decide (a < 0) ^^ decide (b < 0) then 2 else 5) ∧ (FloatKind.f64.format.order r 4607182418800017408 == some .eq) = (a == b) ∧ (FloatKind.f64.format.order r 13830554455654793216 == some .eq) = (a == -b) := by
  obtain ⟨b1, b2⟩ := rung_bd (m := a.natAbs) (n := b.natAbs) (by omega) ha2 (by omega) hb2
  have h1 := rung_1 (m := a.natAbs) (n := b.natAbs) (by omega) ha2 (by omega) hb2
  have l64 := word_64 (decide (a < 0) ^^ decide (b < 0)) (R := rungQ a.natAbs b.natAbs) (by omega)
  have hn := word_nan b2 (decide (a < 0) ^^ decide (b < 0))
  have hp := word_place b2 (decide (a < 0) ^^ decide (b < 0))
  refine ⟨_, share_rung ha hb ha2 hb2, l64, word_class (by omega) b2 _, ?_, ?_⟩
  · rw [f64_eq l64 (by omega) hn (by decide), hp, show place 4607182418800017408 = 4607182418800017408 by decide, Bool.eq_iff_iff]
    simp only [decide_eq_true_eq, beq_iff_eq]
    generalize rungQ a.natAbs b.natAbs = R at *
    by_cases s1 : a < 0 <;> by_cases s2 : b < 0 <;> simp only [s1, s2, decide_true, decide_false, Bool.xor_self, Bool.xor_false, Bool.xor_true, Bool.not_false, pm, if_true, Bool.false_eq_true, if_false] <;> omega
  · rw [f64_eq l64 (by omega) hn (by decide), hp, show place 13830554455654793216 = -4607182418800017408 by decide, Bool.eq_iff_iff]
    simp only [decide_eq_true_eq, beq_iff_eq]
    generalize rungQ a.natAbs b.natAbs = R at *
    by_cases s1 : a < 0 <;> by_cases s2 : b < 0 <;> simp only [s1, s2, decide_true, decide_false, Bool.xor_self, Bool.xor_false, Bool.xor_true, Bool.not_false, pm, if_true, Bool.false_eq_true, if_false] <;> omega

set_option maxHeartbeats 1000000 in
theorem signs_walk (a b : Int) (w : World) (a1 : -2147483648 ≤ a) (a2 : a ≤ 2147483647) (b1 : -2147483648 ≤ b) (b2 : b ≤ 2147483647) :
    Calls Try.prog 8 #[.int .i32 a, .int .i32 b] w fun e w' => e = .returned (.bool true) ∧ Below w.heap.size w w' := by
  by_cases hb : b = 0
  · subst hb
    by_cases ha : a = 0
    · subst ha
      go_enter Try.func8, Try.ntmps8
      go_wp2_with fail
      refine (awake_any _).mono ?_
      rintro e w1 ⟨rfl, hB⟩
      go_wp2_with fail
      refine (share_none 0 0 _ share_nan).mono ?_
      rintro e w2 ⟨x, nx, lx, rfl, rfl⟩
      have hc := class_nan.2 nx
      go_wp2_with (go_at_call 13; (with_reducible refine (class_any x _ lx).mono ?_); rintro e w' ⟨rfl, rfl⟩)
      go_ret
      exact ⟨rfl, hB.drew⟩
    · have hs := share_inf ha (by omega)
      have hc := inf_class (decide (a < 0))
      have l64 := word_64 (decide (a < 0)) (R := 9218868437227405312) (by omega)
      have ha' : (a == 0) = false := by simpa using ha
      obtain ⟨r, hr⟩ : ∃ r, r = Ieee.double.word (decide (a < 0)) 9218868437227405312 := ⟨_, rfl⟩
      rw [← hr] at hs hc l64
      have HS := Lib.hid hs
      clear hs hr
      by_cases h : a < 0
      all_goals
        simp only [h, decide_true, decide_false, if_true, Bool.false_eq_true, if_false] at hc
        (try have h' : 0 < a := by omega)
        go_enter Try.func8, Try.ntmps8
        go_wp2_with fail
        refine (awake_any _).mono ?_
        rintro e w1 ⟨rfl, hB⟩
        go_wp2_with fail
        refine (share_some a 0 r _ HS.out).mono ?_
        rintro e w2 ⟨rfl, rfl⟩
        go_wp2_with (go_at_call 13; (with_reducible refine (class_any r _ l64).mono ?_); rintro e w' ⟨rfl, rfl⟩)
        go_ret
        exact ⟨rfl, hB⟩
  · have hb' : (b == 0) = false := by simpa using hb
    by_cases ha : a = 0
    · subst ha
      have hs := share_0 hb (by omega)
      have hc := zero_class (decide (b < 0))
      have l64 := word_64 (decide (b < 0)) (R := 0) (by omega)
      obtain ⟨r, hr⟩ : ∃ r, r = Ieee.double.word (decide (b < 0)) 0 := ⟨_, rfl⟩
      rw [← hr] at hs hc l64
      have HS := Lib.hid hs
      clear hs hr
      by_cases h : b < 0
      all_goals
        simp only [h, decide_true, decide_false, if_true, Bool.false_eq_true, if_false] at hc
        (try have h' : 0 < b := by omega)
        go_enter Try.func8, Try.ntmps8
        go_wp2_with fail
        refine (awake_any _).mono ?_
        rintro e w1 ⟨rfl, hB⟩
        go_wp2_with fail
        refine (share_some 0 b r _ HS.out).mono ?_
        rintro e w2 ⟨rfl, rfl⟩
        go_wp2_with (go_at_call 13; (with_reducible refine (class_any r _ l64).mono ?_); rintro e w' ⟨rfl, rfl⟩)
        go_ret
        exact ⟨rfl, hB⟩
    · have ha' : (a == 0) = false := by simpa using ha
      obtain ⟨r, hs, l64, hc, f1, f2⟩ := signs_facts ha hb (by omega) (by omega)
      have HS := Lib.hid hs
      clear hs
      by_cases s1 : a < 0 <;> by_cases s2 : b < 0
      all_goals
        simp only [s1, s2, decide_true, decide_false, Bool.xor_self, Bool.xor_false, Bool.xor_true, Bool.not_false, if_true, Bool.false_eq_true, if_false] at hc
        (first | (have s1' : decide (0 < a) = true := decide_eq_true (by omega)) | (have s1' : decide (0 < a) = false := decide_eq_false (by omega)))
        (first | (have s2' : decide (0 < b) = true := decide_eq_true (by omega)) | (have s2' : decide (0 < b) = false := decide_eq_false (by omega)))
        go_enter Try.func8, Try.ntmps8
        go_wp2_with fail
        refine (awake_any _).mono ?_
        rintro e w1 ⟨rfl, hB⟩
        go_wp2_with fail
        refine (share_some a b r _ HS.out).mono ?_
        rintro e w2 ⟨rfl, rfl⟩
        go_wp2_with (go_at_call 13; (with_reducible refine (class_any r _ l64).mono ?_); rintro e w' ⟨rfl, rfl⟩)
        go_ret
        exact ⟨rfl, hB⟩
end Go.Proofs.Ytphiimgfbigogaa
