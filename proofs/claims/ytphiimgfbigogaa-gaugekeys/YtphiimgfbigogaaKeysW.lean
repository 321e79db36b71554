/- The walk of GaugeKeys: it returns true whatever it is handed, and turns nothing that was there. -/
import Derived.Test.YtphiimgfbigogaaShare
import Derived.Lib.Hide
namespace Go.Proofs.Ytphiimgfbigogaa
open Go.RowKit
set_option linter.unusedVariables false

theorem ofV_key (b : Nat) (hb : b < 18446744073709551616) : ∃ c : Nat, c < 18446744073709551616 ∧ ofV (keyI b) = .tuple #[.float .f64 c, .int .i64 0] ∧ ordI b c = 0 := by
  cases hx : nanB b with
  | true =>
    have hk : keyI b = 0 := by unfold keyI; rw [key_nan hx]; rfl
    have hn : nanB 18446744073709551615 = true := by decide
    rw [hk]
    refine ⟨18446744073709551615, by omega, by unfold ofV; rw [if_pos (by decide)]; rfl, ordI_eq (by rw [key_nan hx, key_nan hn])⟩
  | false =>
    refine ⟨b, hb, ?_, ordI_eq rfl⟩
    unfold ofV
    rw [unk_key hb hx, Int.toNat_natCast, if_pos rfl]
theorem key_bd (b : Nat) (hb : b < 18446744073709551616) : 0 ≤ keyI b ∧ keyI b ≤ 18446744073709551615 := by
  have := key_lt b hb
  unfold keyI; omega
theorem ofV_0 : ofV 0 = .tuple #[.float .f64 18446744073709551615, .int .i64 0] := by
  unfold ofV; rw [if_pos (by decide)]; rfl
theorem ofV_no {k : Int} (h0 : 0 ≤ k) (hb : k ≤ 18446744073709551615) (h : nanB (unk k).toNat = true) (hk : k ≠ 0) : ofV k = .tuple #[.float .f64 0, .int .i64 1] := by
  unfold ofV
  have : keyI (unk k).toNat = 0 := by unfold keyI; rw [key_nan h]; rfl
  rw [this, if_neg (fun e => hk e.symm)]
theorem ofV_yes {k : Int} (h0 : 0 ≤ k) (hb : k ≤ 18446744073709551615) (h : nanB (unk k).toNat = false) : ofV k = .tuple #[.float .f64 (unk k).toNat, .int .i64 0] := by
  unfold ofV
  rw [if_pos (key_unk h0 hb h)]

set_option maxHeartbeats 2000000 in
theorem keys_walk (a k : Int) (w : World) (ha0 : 0 ≤ a) (ha : a ≤ 18446744073709551615) (hk0 : 0 ≤ k) (hk : k ≤ 18446744073709551615) :
    Calls Try.prog 4 #[.int .u64 a, .int .u64 k] w fun e w' => e = .returned (.bool true) ∧ Below w.heap.size w w' := by
  have la : a.toNat < 18446744073709551616 := by omega
  obtain ⟨c, lc, hc, hac⟩ := ofV_key a.toNat la
  obtain ⟨b0, b1⟩ := key_bd a.toNat la
  have HC := Lib.hid hc
  clear hc
  by_cases hz : k = 0
  · subst hz
    have HN : nanB 18446744073709551615 = true := by decide
    have hne : (FloatKind.f64.format.order 18446744073709551615 18446744073709551615 != some .eq) = true := (nan_self (by omega)).trans HN
    clear HN
    go_enter Try.func4, Try.ntmps4
    go_wp2_with fail
    refine (awake_any _).mono ?_
    rintro e w1 ⟨rfl, hB⟩
    have hfa := frombits_run a w1
    go_wp2_with fail
    refine (key_any a.toNat _ la).mono ?_
    rintro e w' ⟨rfl, rfl⟩
    go_wp2_with fail
    refine (of_any _ _ b0 b1).mono ?_
    rintro e w' ⟨rfl, rfl⟩
    rw [HC.out]
    go_wp2_with fail
    refine (of_any 0 _ (by omega) (by omega)).mono ?_
    rintro e w' ⟨rfl, rfl⟩
    rw [ofV_0]
    go_wp2_with (first
      | (go_at_call 20; (with_reducible refine (rof_any 0 _ (by omega) (by omega)).mono ?_); rintro e w' ⟨rfl, rfl⟩)
      | (go_at_call 21; (with_reducible refine (rkey_any a _ ha0 ha).mono ?_); rintro e w' ⟨rfl, rfl⟩)
      | (go_at_call 18; (with_reducible refine (same_any a.toNat c _ la lc).mono ?_); rintro e w' ⟨rfl, rfl⟩))
    go_ret
    exact ⟨rfl, hB⟩
  · have hz' : (k == 0) = false := by simpa using hz
    by_cases hx : nanB (unk k).toNat = true
    · have hv := ofV_no hk0 hk hx hz
      have hcl : (classN (unk k).toNat != 0) = false := by rw [class_nan.2 hx]; rfl
      have HV := Lib.hid hv
      have h00 : (FloatKind.f64.format.order 0 0 == some .eq) = true := by decide
      clear hv hz hx
      go_enter Try.func4, Try.ntmps4
      go_wp2_with fail
      refine (awake_any _).mono ?_
      rintro e w1 ⟨rfl, hB⟩
      have hfa := frombits_run a w1
      go_wp2_with fail
      refine (key_any a.toNat _ la).mono ?_
      rintro e w' ⟨rfl, rfl⟩
      go_wp2_with fail
      refine (of_any _ _ b0 b1).mono ?_
      rintro e w' ⟨rfl, rfl⟩
      rw [HC.out]
      go_wp2_with fail
      refine (of_any k _ hk0 hk).mono ?_
      rintro e w' ⟨rfl, rfl⟩
      rw [HV.out]
      go_wp2_with (first
        | (go_at_call 20; (with_reducible refine (rof_any k _ hk0 hk).mono ?_); rintro e w' ⟨rfl, rfl⟩)
        | (go_at_call 21; (with_reducible refine (rkey_any a _ ha0 ha).mono ?_); rintro e w' ⟨rfl, rfl⟩)
        | (go_at_call 18; (with_reducible refine (same_any a.toNat c _ la lc).mono ?_); rintro e w' ⟨rfl, rfl⟩))
      go_ret
      exact ⟨rfl, hB⟩
    · have hx : nanB (unk k).toNat = false := by simpa using hx
      have hv := ofV_yes hk0 hk hx
      have hcl : (classN (unk k).toNat != 0) = true := by simp only [bne_iff_ne, ne_eq, class_nan, hx]; simp
      have hu := unk_bd hk0 hk
      have HV := Lib.hid hv
      have hub : ∀ w, (callFunc 22 #[.float .f64 (unk k).toNat]).run Try.prog w = .ok (.value (.int .u64 (unk k))) w := by
        intro w; have := bits_run (unk k).toNat w; rw [Int.toNat_of_nonneg hu.1] at this; exact this
      clear hv hz hx
      go_enter Try.func4, Try.ntmps4
      go_wp2_with fail
      refine (awake_any _).mono ?_
      rintro e w1 ⟨rfl, hB⟩
      have hfa := frombits_run a w1
      go_wp2_with fail
      refine (key_any a.toNat _ la).mono ?_
      rintro e w' ⟨rfl, rfl⟩
      go_wp2_with fail
      refine (of_any _ _ b0 b1).mono ?_
      rintro e w' ⟨rfl, rfl⟩
      rw [HC.out]
      go_wp2_with fail
      refine (of_any k _ hk0 hk).mono ?_
      rintro e w' ⟨rfl, rfl⟩
      rw [HV.out]
      go_wp2_with (first
        | (go_at_call 20; (with_reducible refine (rof_any k _ hk0 hk).mono ?_); rintro e w' ⟨rfl, rfl⟩)
        | (go_at_call 21; (with_reducible refine (rkey_any a _ ha0 ha).mono ?_); rintro e w' ⟨rfl, rfl⟩)
        | (go_at_call 18; (with_reducible refine (same_any a.toNat c _ la lc).mono ?_); rintro e w' ⟨rfl, rfl⟩))
      go_ret
      exact ⟨rfl, hB⟩
end Go.Proofs.Ytphiimgfbigogaa
