/- What Same, Key of package gauge do, and the document's own Order and Key: each returns what the plain functions say. -/
import Derived.Test.YtphiimgfbigogaaOrder
import Derived.Test.YtphiimgfbigogaaBits
namespace Go.Proofs.Ytphiimgfbigogaa
open Go.RowKit
set_option linter.unusedVariables false

set_option maxHeartbeats 1000000 in
theorem same_any (a b : Nat) (w : World) (ha : a < 18446744073709551616) (hb : b < 18446744073709551616) :
    Calls Try.prog 18 #[.float .f64 a, .float .f64 b] w fun e w' => e = .returned (.bool (ordI a b == 0)) ∧ w = w' := by
  go_enter Try.func18, Try.ntmps18
  go_wp2_with (go_at_call 17; (with_reducible refine (order_any a b _ ha hb).mono ?_); rintro e w' ⟨rfl, rfl⟩)
  go_ret
  exact ⟨rfl, rfl⟩

set_option maxHeartbeats 1000000 in
theorem key_any (b : Nat) (w : World) (hb : b < 18446744073709551616) :
    Calls Try.prog 16 #[.float .f64 b] w fun e w' => e = .returned (.int .u64 (keyI b)) ∧ w = w' := by
  obtain ⟨n, hn⟩ : ∃ n : Int, n = b := ⟨_, rfl⟩
  have hf := bits_run b w
  rw [← hn] at hf
  by_cases hx : nanB b = true
  · have r : keyI b = 0 := by unfold keyI; rw [key_nan hx]; rfl
    clear hf hn
    go_enter Try.func16, Try.ntmps16
    go_wp2_with (go_at_call 26; (with_reducible refine (isNaN_any b _ hb).mono ?_); rintro e w' ⟨rfl, rfl⟩)
    go_ret
    first | exact ⟨ret_int r.symm, rfl⟩ | exact ⟨rfl, rfl⟩
  · have hx' : ¬ 9218868437227405312 < b % 9223372036854775808 := by rw [← nanB_iff]; exact hx
    have hx : nanB b = false := by simpa using hx
    have ha := key_and n (by omega) (by omega)
    by_cases h3 : 9223372036854775808 ≤ n
    · have r : 18446744073709551615 - n = keyI b := by unfold keyI keyN; rw [if_neg hx', if_pos (by omega)]; omega
      rw [if_pos h3] at ha
      have hb2 := key_xor n (by omega) (by omega)
      clear hn hx'
      go_enter Try.func16, Try.ntmps16
      go_wp2_with (go_at_call 26; (with_reducible refine (isNaN_any b _ hb).mono ?_); rintro e w' ⟨rfl, rfl⟩)
      go_ret
      first | exact ⟨ret_int r, rfl⟩ | exact ⟨rfl, rfl⟩
    · have r : n + 9223372036854775808 = keyI b := by unfold keyI keyN; rw [if_neg hx', if_neg (by omega)]; omega
      rw [if_neg h3] at ha
      have hb2 := key_or n (by omega) (by omega)
      clear hn hx'
      go_enter Try.func16, Try.ntmps16
      go_wp2_with (go_at_call 26; (with_reducible refine (isNaN_any b _ hb).mono ?_); rintro e w' ⟨rfl, rfl⟩)
      go_ret
      first | exact ⟨ret_int r, rfl⟩ | exact ⟨rfl, rfl⟩

theorem key_of (n : Int) (h0 : 0 ≤ n) (hb : n ≤ 18446744073709551615) (hx : nanB n.toNat = false) : keyI n.toNat = if 9223372036854775808 ≤ n then 18446744073709551615 - n else n + 9223372036854775808 := by
  rw [nanB_not] at hx
  unfold keyI keyN
  rw [if_neg hx]
  split <;> split <;> omega

set_option maxHeartbeats 1000000 in
theorem rkey_any (n : Int) (w : World) (h0 : 0 ≤ n) (hb : n ≤ 18446744073709551615) :
    Calls Try.prog 21 #[.int .u64 n] w fun e w' => e = .returned (.int .u64 (keyI n.toNat)) ∧ w = w' := by
  by_cases hx : nanB n.toNat = true
  · have r : keyI n.toNat = 0 := by unfold keyI; rw [key_nan hx]; rfl
    have hc := class_nan.2 hx
    go_enter Try.func21, Try.ntmps21
    go_wp2_with (go_at_call 14; (with_reducible refine (rclass_any n _ h0 hb).mono ?_); rintro e w' ⟨rfl, rfl⟩)
    go_ret
    first | exact ⟨ret_int r.symm, rfl⟩ | exact ⟨rfl, rfl⟩
  · have hx : nanB n.toNat = false := by simpa using hx
    have hc : (classN n.toNat == 0) = false := by
      simp only [beq_eq_false_iff_ne, ne_eq, class_nan, hx]; simp
    have r := key_of n h0 hb hx
    by_cases h3 : 9223372036854775808 ≤ n
    · rw [if_pos h3] at r
      go_enter Try.func21, Try.ntmps21
      go_wp2_with (first | (go_at_call 14; (with_reducible refine (rclass_any n _ h0 hb).mono ?_); rintro e w' ⟨rfl, rfl⟩) | (go_at_call 29; (with_reducible refine (half_any _).mono ?_); rintro e w' ⟨rfl, rfl⟩))
      go_ret
      first | exact ⟨ret_int r.symm, rfl⟩ | exact ⟨rfl, rfl⟩
    · rw [if_neg h3] at r
      go_enter Try.func21, Try.ntmps21
      go_wp2_with (first | (go_at_call 14; (with_reducible refine (rclass_any n _ h0 hb).mono ?_); rintro e w' ⟨rfl, rfl⟩) | (go_at_call 29; (with_reducible refine (half_any _).mono ?_); rintro e w' ⟨rfl, rfl⟩))
      go_ret
      first | exact ⟨ret_int r.symm, rfl⟩ | exact ⟨rfl, rfl⟩

/-- The word of a key. -/
def unk (k : Int) : Int := if 9223372036854775808 ≤ k then k - 9223372036854775808 else 18446744073709551615 - k
theorem unk_bd {k : Int} (h0 : 0 ≤ k) (hb : k ≤ 18446744073709551615) : 0 ≤ unk k ∧ unk k ≤ 18446744073709551615 := by
  unfold unk; split <;> omega
theorem unk_key {b : Nat} (hb : b < 18446744073709551616) (hx : nanB b = false) : unk (keyI b) = b := by
  rw [nanB_not] at hx
  unfold unk keyI keyN
  rw [if_neg hx]
  split <;> split <;> omega
theorem key_unk {k : Int} (h0 : 0 ≤ k) (hb : k ≤ 18446744073709551615) (hx : nanB (unk k).toNat = false) : keyI (unk k).toNat = k := by
  have h := unk_bd h0 hb
  rw [key_of _ h.1 h.2 hx]
  unfold unk
  repeat' split
  all_goals omega

/-- What Of hands back. -/
def ofV (k : Int) : Value := if keyI (unk k).toNat = k then .tuple #[.float .f64 (unk k).toNat, .int .i64 0] else .tuple #[.float .f64 0, .int .i64 1]

set_option maxHeartbeats 1000000 in
theorem of_any (k : Int) (w : World) (h0 : 0 ≤ k) (hb : k ≤ 18446744073709551615) :
    Calls Try.prog 19 #[.int .u64 k] w fun e w' => e = .returned (ofV k) ∧ w = w' := by
  have ha := key_and k h0 hb
  have hx := key_xor k h0 hb
  have hu := unk_bd h0 hb
  obtain ⟨u, hu'⟩ : ∃ u, u = unk k := ⟨_, rfl⟩
  have hf := frombits_run u w
  rw [← hu'] at hu
  have hU : ofV k = if keyI u.toNat = k then .tuple #[.float .f64 u.toNat, .int .i64 0] else .tuple #[.float .f64 0, .int .i64 1] := by unfold ofV; rw [hu']
  have hlt : u.toNat < 18446744073709551616 := by omega
  obtain ⟨b, hb'⟩ : ∃ b : Nat, b = u.toNat := ⟨_, rfl⟩
  rw [← hb'] at hf hlt hU
  clear hb'
  unfold unk at hu'
  rw [hU]
  clear hU
  by_cases h3 : 9223372036854775808 ≤ k
  · rw [if_pos h3] at ha hu'
    have hn := key_andnot k h3 hb
    rw [← hu'] at hn
    clear hu'
    by_cases h4 : keyI b = k
    · rw [if_pos h4]
      have h4' : (keyI b == k) = true := by simp [h4]
      have h4'' : (keyI b != k) = false := by simp [h4]
      clear h4
      go_enter Try.func19, Try.ntmps19
      go_wp2_with (go_at_call 16; (with_reducible refine (key_any b _ hlt).mono ?_); rintro e w' ⟨rfl, rfl⟩)
      go_ret2
      exact ⟨rfl, rfl⟩
    · rw [if_neg h4]
      have h4' : (keyI b == k) = false := by simp [h4]
      have h4'' : (keyI b != k) = true := by simp [h4]
      clear h4
      go_enter Try.func19, Try.ntmps19
      go_wp2_with (go_at_call 16; (with_reducible refine (key_any b _ hlt).mono ?_); rintro e w' ⟨rfl, rfl⟩)
      go_ret2
      exact ⟨rfl, rfl⟩
  · rw [if_neg h3] at ha hu'
    rw [← hu'] at hx
    clear hu'
    by_cases h4 : keyI b = k
    · rw [if_pos h4]
      have h4' : (keyI b == k) = true := by simp [h4]
      have h4'' : (keyI b != k) = false := by simp [h4]
      clear h4
      go_enter Try.func19, Try.ntmps19
      go_wp2_with (go_at_call 16; (with_reducible refine (key_any b _ hlt).mono ?_); rintro e w' ⟨rfl, rfl⟩)
      go_ret2
      exact ⟨rfl, rfl⟩
    · rw [if_neg h4]
      have h4' : (keyI b == k) = false := by simp [h4]
      have h4'' : (keyI b != k) = true := by simp [h4]
      clear h4
      go_enter Try.func19, Try.ntmps19
      go_wp2_with (go_at_call 16; (with_reducible refine (key_any b _ hlt).mono ?_); rintro e w' ⟨rfl, rfl⟩)
      go_ret2
      exact ⟨rfl, rfl⟩

set_option maxHeartbeats 1000000 in
theorem rof_any (k : Int) (w : World) (h0 : 0 ≤ k) (hb : k ≤ 18446744073709551615) :
    Calls Try.prog 20 #[.int .u64 k] w fun e w' => e = .returned (.tuple #[.int .u64 (unk k), .bool (classN (unk k).toNat != 0)]) ∧ w = w' := by
  obtain ⟨hu0, hu1⟩ := unk_bd h0 hb
  by_cases h3 : 9223372036854775808 ≤ k
  · have e : unk k = k - 9223372036854775808 := by unfold unk; rw [if_pos h3]
    rw [e] at *
    clear e
    go_enter Try.func20, Try.ntmps20
    go_wp2_with (first | (go_at_call 14; refine (rclass_any _ _ (by omega) (by omega)).mono ?_; rintro e w' ⟨rfl, rfl⟩) | (go_at_call 29; (with_reducible refine (half_any _).mono ?_); rintro e w' ⟨rfl, rfl⟩))
    go_ret2
    exact ⟨rfl, rfl⟩
  · have e : unk k = 18446744073709551615 - k := by unfold unk; rw [if_neg h3]
    rw [e] at *
    clear e
    go_enter Try.func20, Try.ntmps20
    go_wp2_with (first | (go_at_call 14; refine (rclass_any _ _ (by omega) (by omega)).mono ?_; rintro e w' ⟨rfl, rfl⟩) | (go_at_call 29; (with_reducible refine (half_any _).mono ?_); rintro e w' ⟨rfl, rfl⟩))
    go_ret2
    exact ⟨rfl, rfl⟩
end Go.Proofs.Ytphiimgfbigogaa
