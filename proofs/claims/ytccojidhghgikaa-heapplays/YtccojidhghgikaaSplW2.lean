/- HeapSplits, whatever it is handed. -/
import Derived.Test.YtccojidhghgikaaSplW
namespace Go.Proofs.Ytccojidhghgikaa
open Go.RowKit
set_option linter.unusedVariables false
set_option linter.unusedSimpArgs false

set_option maxHeartbeats 1000000 in
theorem splits_out (s k0 l0 p0 : Int) (B : Option Addr) (m c : Nat) (w : World) (h : 30 < m ∨ s = 0) :
    Calls Try.prog 7 #[.int .u8 s, .agg #[.int .i64 k0, .int .i64 l0, .int .i64 p0], .slice B m c] w fun e w' => e = .returned (.bool true) ∧ Below w.heap.size w w' := by
  have h1 : decide ((30 : Int) < (m : Int)) = true ∨ (decide ((30 : Int) < (m : Int)) = false ∧ (s == 0) = true) := by
    by_cases h2 : 30 < m
    · left; simp; omega
    · right; refine ⟨by simp; omega, ?_⟩
      rcases h with h | h
      · omega
      · simp [h]
  clear h
  have bA := (Below.refl w.heap.size w).alloc (Nat.le_refl _) (.cells #[.int .i64 k0, .int .i64 l0, .int .i64 p0] 23)
  rcases h1 with d1 | ⟨d1, d2⟩
  all_goals
    go_enter Try.func7, Try.ntmps7
    go_wp2_with fail
    refine (awake_any _).mono ?_
    rintro e w1 ⟨rfl, hb1⟩
    have B1 := on bA (by simp) hb1
    go_wp2_with fail
    refine (awake_any _).mono ?_
    rintro e w2 ⟨rfl, hb2⟩
    go_wp2
    go_ret
    exact ⟨rfl, on B1 B1.size hb2⟩

theorem splits_walk (s k0 l0 p0 : Int) (B : Option Addr) (m c : Nat) (ds : List Deed) (w : World) (h0 : 0 ≤ s) (h1 : s ≤ 255) (hm : ds.length = m) (hd : Deeds w B ds) :
    Calls Try.prog 7 #[.int .u8 s, .agg #[.int .i64 k0, .int .i64 l0, .int .i64 p0], .slice B m c] w fun e w' => e = .returned (.bool true) ∧ Below w.heap.size w w' := by
  subst hm
  by_cases h : 30 < ds.length ∨ s = 0
  · exact splits_out s k0 l0 p0 B _ c w h
  · obtain ⟨s, rfl⟩ := Int.eq_ofNat_of_zero_le h0
    exact splits_yes s k0 l0 p0 B c ds w (by omega) (by omega) (by omega) hd
end Go.Proofs.Ytccojidhghgikaa
