/- The walk of GaugeOrders: it returns true whatever it is handed, and turns nothing that was there. -/
import Derived.Test.YtphiimgfbigogaaShare
namespace Go.Proofs.Ytphiimgfbigogaa
open Go.RowKit
set_option linter.unusedVariables false

set_option maxHeartbeats 2000000 in
theorem orders_walk (a b : Int) (w : World) (ha0 : 0 ≤ a) (ha : a ≤ 18446744073709551615) (hb0 : 0 ≤ b) (hb : b ≤ 18446744073709551615) :
    Calls Try.prog 3 #[.int .u64 a, .int .u64 b] w fun e w' => e = .returned (.bool true) ∧ Below w.heap.size w w' := by
  have la : a.toNat < 18446744073709551616 := by omega
  have lb : b.toNat < 18446744073709551616 := by omega
  have key : ∀ w1 : World, (ordI a.toNat b.toNat = -1 ∧ ordI b.toNat a.toNat = 1 ∧ keyI a.toNat < keyI b.toNat ∧ (keyI a.toNat == keyI b.toNat) = false) ∨ (ordI a.toNat b.toNat = 0 ∧ ordI b.toNat a.toNat = 0 ∧ decide (keyI a.toNat < keyI b.toNat) = false ∧ (keyI a.toNat == keyI b.toNat) = true) ∨ (ordI a.toNat b.toNat = 1 ∧ ordI b.toNat a.toNat = -1 ∧ decide (keyI a.toNat < keyI b.toNat) = false ∧ (keyI a.toNat == keyI b.toNat) = false) := by
    intro _
    unfold ordI cmpI
    rcases Int.lt_trichotomy (keyI a.toNat) (keyI b.toNat) with h | h | h
    · exact .inl ⟨by rw [if_pos h], by rw [if_neg (by omega), if_neg (by omega)], h, by simp; omega⟩
    · exact .inr (.inl ⟨by rw [if_neg (by omega), if_pos h], by rw [if_neg (by omega), if_pos h.symm], by simp; omega, by simp [h]⟩)
    · exact .inr (.inr ⟨by rw [if_neg (by omega), if_neg (by omega)], by rw [if_pos h], by simp; omega, by simp; omega⟩)
  have key := key w
  rcases key with ⟨k1, k2, k3, k4⟩ | ⟨k1, k2, k3, k4⟩ | ⟨k1, k2, k3, k4⟩
  all_goals
    go_enter Try.func3, Try.ntmps3
    go_wp2_with fail
    refine (awake_any _).mono ?_
    rintro e w1 ⟨rfl, hB⟩
    have hfa := frombits_run a w1
    have hfb := frombits_run b w1
    go_wp2_with (first
      | (go_at_call 13; (first | (with_reducible refine (class_any a.toNat _ la).mono ?_) | (with_reducible refine (class_any b.toNat _ lb).mono ?_)); rintro e w' ⟨rfl, rfl⟩)
      | (go_at_call 14; (first | (with_reducible refine (rclass_any a _ ha0 ha).mono ?_) | (with_reducible refine (rclass_any b _ hb0 hb).mono ?_)); rintro e w' ⟨rfl, rfl⟩)
      | (go_at_call 15; (with_reducible refine (rorder_any a b _ ha0 ha hb0 hb).mono ?_); rintro e w' ⟨rfl, rfl⟩)
      | (go_at_call 16; (first | (with_reducible refine (key_any a.toNat _ la).mono ?_) | (with_reducible refine (key_any b.toNat _ lb).mono ?_)); rintro e w' ⟨rfl, rfl⟩)
      | (go_at_call 17; (first | (with_reducible refine (order_any a.toNat b.toNat _ la lb).mono ?_) | (with_reducible refine (order_any b.toNat a.toNat _ lb la).mono ?_)); rintro e w' ⟨rfl, rfl⟩)
      | (go_at_call 18; (with_reducible refine (same_any a.toNat b.toNat _ la lb).mono ?_); rintro e w' ⟨rfl, rfl⟩))
    go_ret
    exact ⟨rfl, hB⟩
end Go.Proofs.Ytphiimgfbigogaa
