/- What Least and Most of package gauge do: the first one, and the last one, in the order, of a row of doubles. -/
import Derived.Test.YtphiimgfbigogaaShare
import Derived.Lib.Hide
import Derived.Below
namespace Go.Proofs.Ytphiimgfbigogaa
open Go.RowKit
set_option linter.unusedVariables false

/-- The NaN that it begins with. -/
def nan0 : Nat := 9221120237041090561
theorem nan0_nan : nanB nan0 = true := by decide
theorem nan0_lt : nan0 < 18446744073709551616 := by decide
/-- One more. -/
def stepL (acc x : Nat) : Nat := if nanB x then acc else if nanB acc then x else if ordI x acc < 0 then x else acc
def stepM (acc x : Nat) : Nat := if ordI x acc > 0 then x else acc
def leastF (l : List Nat) : Nat := l.foldl stepL nan0
def mostF (l : List Nat) : Nat := l.foldl stepM nan0
theorem least_snoc (l : List Nat) (x : Nat) : leastF (l ++ [x]) = stepL (leastF l) x := by simp [leastF]
theorem most_snoc (l : List Nat) (x : Nat) : mostF (l ++ [x]) = stepM (mostF l) x := by simp [mostF]
def Words (l : List Nat) : Prop := ∀ i, l.getD i 0 < 18446744073709551616
theorem stepL_lt {a x : Nat} (ha : a < 18446744073709551616) (hx : x < 18446744073709551616) : stepL a x < 18446744073709551616 := by
  unfold stepL; repeat' split
  all_goals assumption
theorem stepM_lt {a x : Nat} (ha : a < 18446744073709551616) (hx : x < 18446744073709551616) : stepM a x < 18446744073709551616 := by
  unfold stepM; repeat' split
  all_goals assumption
theorem take_snoc (l : List Nat) (k : Nat) (h : k < l.length) : l.take (k + 1) = l.take k ++ [l.getD k 0] := by
  rw [List.take_succ_eq_append_getElem h]; simp [List.getD, h]
theorem least_lt (l : List Nat) (h : Words l) (k : Nat) : leastF (l.take k) < 18446744073709551616 := by
  induction k with
  | zero => exact nan0_lt
  | succ n ih =>
    by_cases hn : n < l.length
    · rw [take_snoc l n hn, least_snoc]; exact stepL_lt ih (h n)
    · rw [List.take_of_length_le (by omega)]; rw [List.take_of_length_le (by omega)] at ih; exact ih
theorem most_lt (l : List Nat) (h : Words l) (k : Nat) : mostF (l.take k) < 18446744073709551616 := by
  induction k with
  | zero => exact nan0_lt
  | succ n ih =>
    by_cases hn : n < l.length
    · rw [take_snoc l n hn, most_snoc]; exact stepM_lt ih (h n)
    · rw [List.take_of_length_le (by omega)]; rw [List.take_of_length_le (by omega)] at ih; exact ih

/-- A slice of doubles reads as a list of words. -/
def FRow (w : World) (A : Option Addr) (l : List Nat) : Prop :=
  0 < l.length → ∃ ad, A = some ad ∧ ad.block < w.heap.size ∧ ∀ j, j < l.length → w.cell? (ad.add j) = some (.float .f64 (l.getD j 0))
theorem block_add (a : Addr) (n : Nat) : (a.add n).block = a.block := by unfold Addr.add; split <;> rfl
theorem FRow.kept {w w' : World} {A : Option Addr} {l : List Nat} (h : FRow w A l) (hb : Below w.heap.size w w') : FRow w' A l := fun h0 => by
  obtain ⟨ad, e, hl, hc⟩ := h h0
  exact ⟨ad, e, Nat.lt_of_lt_of_le hl hb.size, fun j hj => (hb.cell (by rw [block_add]; exact hl)).trans (hc j hj)⟩
theorem FRow.at_ {w : World} {A : Option Addr} {l : List Nat} (h : FRow w A l) {i : Nat} (hi : i < l.length) : ∃ ad, A = some ad ∧ w.cell? (ad.add i) = some (.float .f64 (l.getD i 0)) := by
  obtain ⟨ad, e, hl, hc⟩ := h (by omega)
  exact ⟨ad, e, hc i hi⟩

theorem ret_float {a b : Nat} (h : a = b) : Ending.returned (.float .f64 a) = .returned (.float .f64 b) := by rw [h]
theorem val_float {a b : Nat} (h : a = b) : Value.float .f64 a = .float .f64 b := by rw [h]

set_option maxHeartbeats 1000000 in
theorem least_any (A : Option Addr) (c n : Nat) (l : List Nat) (w : World) (hr : FRow w A l) (hl : l.length = n) (hn : n ≤ 1048576) (hw : Words l) :
    Calls Try.prog 23 #[.slice A n c] w fun e w' => e = .returned (.float .f64 (leastF l)) ∧ w = w' := by
  have HL := Lib.hid hl
  clear hl
  go_enter Try.func23, Try.ntmps23
  go_wp2_with (go_at_call 32; (with_reducible refine (nan_any _).mono ?_); rintro e w' ⟨rfl, rfl⟩)
  go_loop [3, 9] (fun m i => ∃ k : Nat, k ≤ n ∧ i = .int .i64 k ∧ m = .float .f64 (leastF (l.take k))) (fun _ i => n - (intOf i).toNat)
  case atStart => exact ⟨0, Nat.zero_le _, rfl, rfl⟩
  case round =>
    obtain ⟨k, hk, rfl, rfl⟩ := hrel
    by_cases hlt : k < n
    · have hx := hw k
      have hm := least_lt l hw k
      have HS := Lib.hid (show leastF (l.take (k + 1)) = stepL (leastF (l.take k)) (l.getD k 0) by rw [take_snoc l k (by rw [HL.out]; exact hlt), least_snoc])
      obtain ⟨ad, rfl, hc⟩ := hr.at_ (i := k) (by rw [HL.out]; exact hlt)
      clear hr hw
      generalize leastF (l.take k) = m at *
      generalize l.getD k 0 = x at *
      by_cases h1 : nanB x = true
      · have H : Hid (stepL m x = m) := Lib.hid (by unfold stepL; rw [if_pos h1])
        go_wp2_with (go_at_call 26; (with_reducible refine (isNaN_any x _ hx).mono ?_); rintro e w' ⟨rfl, rfl⟩)
        go_round
        case rel => exact ⟨k + 1, by omega, by go_num, by rw [HS.out, H.out]⟩
        case measure => simp [intOf]; omega
      · have h1 : nanB x = false := by simpa using h1
        by_cases h2 : nanB m = true
        · have H : Hid (stepL m x = x) := Lib.hid (by unfold stepL; rw [if_neg (by simp [h1]), if_pos h2])
          go_wp2_with (go_at_call 26; (first | (with_reducible refine (isNaN_any x _ hx).mono ?_) | (with_reducible refine (isNaN_any m _ hm).mono ?_)); rintro e w' ⟨rfl, rfl⟩)
          go_round
          case rel => exact ⟨k + 1, by omega, by go_num, by rw [HS.out, H.out]⟩
          case measure => simp [intOf]; omega
        · have h2 : nanB m = false := by simpa using h2
          by_cases h3 : ordI x m < 0
          · have H : Hid (stepL m x = x) := Lib.hid (by unfold stepL; rw [if_neg (by simp [h1]), if_neg (by simp [h2]), if_pos h3])
            go_wp2_with (first | (go_at_call 26; (first | (with_reducible refine (isNaN_any x _ hx).mono ?_) | (with_reducible refine (isNaN_any m _ hm).mono ?_)); rintro e w' ⟨rfl, rfl⟩) | (go_at_call 17; (with_reducible refine (order_any x m _ hx hm).mono ?_); rintro e w' ⟨rfl, rfl⟩))
            go_round
            case rel => exact ⟨k + 1, by omega, by go_num, by rw [HS.out, H.out]⟩
            case measure => simp [intOf]; omega
          · have H : Hid (stepL m x = m) := Lib.hid (by unfold stepL; rw [if_neg (by simp [h1]), if_neg (by simp [h2]), if_neg h3])
            go_wp2_with (first | (go_at_call 26; (first | (with_reducible refine (isNaN_any x _ hx).mono ?_) | (with_reducible refine (isNaN_any m _ hm).mono ?_)); rintro e w' ⟨rfl, rfl⟩) | (go_at_call 17; (with_reducible refine (order_any x m _ hx hm).mono ?_); rintro e w' ⟨rfl, rfl⟩))
            go_round
            case rel => exact ⟨k + 1, by omega, by go_num, by rw [HS.out, H.out]⟩
            case measure => simp [intOf]; omega
    · go_wp2
      go_ret
      exact ⟨ret_float (by rw [List.take_of_length_le (by rw [HL.out]; omega)]), rfl⟩

set_option maxHeartbeats 1000000 in
theorem most_any (A : Option Addr) (c n : Nat) (l : List Nat) (w : World) (hr : FRow w A l) (hl : l.length = n) (hn : n ≤ 1048576) (hw : Words l) :
    Calls Try.prog 24 #[.slice A n c] w fun e w' => e = .returned (.float .f64 (mostF l)) ∧ w = w' := by
  have HL := Lib.hid hl
  clear hl
  go_enter Try.func24, Try.ntmps24
  go_wp2_with (go_at_call 32; (with_reducible refine (nan_any _).mono ?_); rintro e w' ⟨rfl, rfl⟩)
  go_loop [3, 9] (fun m i => ∃ k : Nat, k ≤ n ∧ i = .int .i64 k ∧ m = .float .f64 (mostF (l.take k))) (fun _ i => n - (intOf i).toNat)
  case atStart => exact ⟨0, Nat.zero_le _, rfl, rfl⟩
  case round =>
    obtain ⟨k, hk, rfl, rfl⟩ := hrel
    by_cases hlt : k < n
    · have hx := hw k
      have hm := most_lt l hw k
      have HS := Lib.hid (show mostF (l.take (k + 1)) = stepM (mostF (l.take k)) (l.getD k 0) by rw [take_snoc l k (by rw [HL.out]; exact hlt), most_snoc])
      obtain ⟨ad, rfl, hc⟩ := hr.at_ (i := k) (by rw [HL.out]; exact hlt)
      clear hr hw
      generalize mostF (l.take k) = m at *
      generalize l.getD k 0 = x at *
      by_cases h3 : ordI x m > 0
      · have H : Hid (stepM m x = x) := Lib.hid (by unfold stepM; rw [if_pos h3])
        go_wp2_with (go_at_call 17; (with_reducible refine (order_any x m _ hx hm).mono ?_); rintro e w' ⟨rfl, rfl⟩)
        go_round
        case rel => exact ⟨k + 1, by omega, by go_num, by rw [HS.out, H.out]⟩
        case measure => simp [intOf]; omega
      · have H : Hid (stepM m x = m) := Lib.hid (by unfold stepM; rw [if_neg h3])
        go_wp2_with (go_at_call 17; (with_reducible refine (order_any x m _ hx hm).mono ?_); rintro e w' ⟨rfl, rfl⟩)
        go_round
        case rel => exact ⟨k + 1, by omega, by go_num, by rw [HS.out, H.out]⟩
        case measure => simp [intOf]; omega
    · go_wp2
      go_ret
      exact ⟨ret_float (by rw [List.take_of_length_le (by rw [HL.out]; omega)]), rfl⟩
end Go.Proofs.Ytphiimgfbigogaa
