/- What Order, Same, Key of package gauge do, and the document's own answers: each returns what the plain functions say. -/
import Derived.Test.YtphiimgfbigogaaRefC
import Derived.Test.YtphiimgfbigogaaClass
import Derived.Deep.QuietTactic
import Derived.BigQuiet
import Derived.Laws.BitsAllLaws
namespace Go.Proofs.Ytphiimgfbigogaa
open Go.RowKit
set_option linter.unusedVariables false

/-- A word's key, and the order of two words. -/
def keyI (b : Nat) : Int := (keyN b : Int)
def ordI (a b : Nat) : Int := cmpI (keyI a) (keyI b)

theorem ordI_lt {a b : Nat} (h : keyN a < keyN b) : ordI a b = -1 := by unfold ordI cmpI keyI; rw [if_pos (by omega)]
theorem ordI_gt {a b : Nat} (h : keyN b < keyN a) : ordI a b = 1 := by unfold ordI cmpI keyI; rw [if_neg (by omega), if_neg (by omega)]
theorem ordI_eq {a b : Nat} (h : keyN a = keyN b) : ordI a b = 0 := by unfold ordI cmpI keyI; rw [if_neg (by omega), if_pos (by omega)]

set_option maxHeartbeats 1000000 in
theorem order_any (a b : Nat) (w : World) (ha : a < 18446744073709551616) (hb : b < 18446744073709551616) :
    Calls Try.prog 17 #[.float .f64 a, .float .f64 b] w fun e w' => e = .returned (.int .i64 (ordI a b)) ∧ w = w' := by
  rcases Int.lt_trichotomy (classN a) (classN b) with h | h | h
  · have r : -1 = ordI a b := (ordI_lt (class_lt ha hb h)).symm
    have hc : cmpI (classN a) (classN b) = -1 := by unfold cmpI; rw [if_pos h]
    clear h
    go_enter Try.func17, Try.ntmps17
    go_wp2_with (first | (go_at_call 13; (first | (with_reducible refine (class_any a _ ha).mono ?_) | (with_reducible refine (class_any b _ hb).mono ?_)); rintro e w' ⟨rfl, rfl⟩) | (go_at_call 30; (with_reducible refine (cmpi_any _ _ _).mono ?_); rintro e w' ⟨rfl, rfl⟩))
    go_ret
    first | exact ⟨ret_int r, rfl⟩ | exact ⟨rfl, rfl⟩
  · have hc : cmpI (classN a) (classN b) = 0 := by unfold cmpI; rw [if_neg (by omega), if_pos h]
    by_cases hn : nanB a = true
    · have hn' : nanB b = true := class_nan.1 (h ▸ class_nan.2 hn)
      have r : 0 = ordI a b := (ordI_eq (by rw [key_nan hn, key_nan hn'])).symm
      clear h
      go_enter Try.func17, Try.ntmps17
      go_wp2_with (first | (go_at_call 13; (first | (with_reducible refine (class_any a _ ha).mono ?_) | (with_reducible refine (class_any b _ hb).mono ?_)); rintro e w' ⟨rfl, rfl⟩) | (go_at_call 30; (with_reducible refine (cmpi_any _ _ _).mono ?_); rintro e w' ⟨rfl, rfl⟩) | (go_at_call 31; (with_reducible refine (cmpf_nan a b _ ha hb hn hn').mono ?_); rintro e w' ⟨rfl, rfl⟩))
      go_ret
      first | exact ⟨ret_int r, rfl⟩ | exact ⟨rfl, rfl⟩
    · have hn : nanB a = false := by simpa using hn
      obtain ⟨hn', k1, k2⟩ := class_eq ha hb h hn
      have r : cmpI (place a) (place b) = ordI a b := by
        unfold ordI cmpI keyI
        repeat' split
        all_goals omega
      clear h k1 k2
      go_enter Try.func17, Try.ntmps17
      go_wp2_with (first | (go_at_call 13; (first | (with_reducible refine (class_any a _ ha).mono ?_) | (with_reducible refine (class_any b _ hb).mono ?_)); rintro e w' ⟨rfl, rfl⟩) | (go_at_call 30; (with_reducible refine (cmpi_any _ _ _).mono ?_); rintro e w' ⟨rfl, rfl⟩) | (go_at_call 31; (with_reducible refine (cmpf_any a b _ ha hb hn hn').mono ?_); rintro e w' ⟨rfl, rfl⟩))
      go_ret
      first | exact ⟨ret_int r, rfl⟩ | exact ⟨rfl, rfl⟩
  · have r : 1 = ordI a b := (ordI_gt (class_lt hb ha h)).symm
    have hc : cmpI (classN a) (classN b) = 1 := by unfold cmpI; rw [if_neg (by omega), if_neg (by omega)]
    clear h
    go_enter Try.func17, Try.ntmps17
    go_wp2_with (first | (go_at_call 13; (first | (with_reducible refine (class_any a _ ha).mono ?_) | (with_reducible refine (class_any b _ hb).mono ?_)); rintro e w' ⟨rfl, rfl⟩) | (go_at_call 30; (with_reducible refine (cmpi_any _ _ _).mono ?_); rintro e w' ⟨rfl, rfl⟩))
    go_ret
    first | exact ⟨ret_int r, rfl⟩ | exact ⟨rfl, rfl⟩
end Go.Proofs.Ytphiimgfbigogaa
