/- The walk of GaugeScales: it returns true whatever it is handed, and turns nothing that was there. -/
import Derived.Test.YtphiimgfbigogaaShareW
import Derived.Lib.Hide
namespace Go.Proofs.Ytphiimgfbigogaa
open Go.RowKit
set_option linter.unusedVariables false

theorem abs_mul_bd {n a : Int} (n1 : 1 ≤ n) (n2 : n ≤ 65536) (a1 : -32768 ≤ a) (a2 : a ≤ 32767) : -2147483648 ≤ n * a ∧ n * a ≤ 2147483648 := by
  have h : (n * a).natAbs ≤ 65536 * 32768 := by
    rw [Int.natAbs_mul]; exact Nat.mul_le_mul (by omega) (by omega)
  omega

set_option maxHeartbeats 1000000 in
theorem scales_walk (a b k : Int) (w : World) (a1 : -32768 ≤ a) (a2 : a ≤ 32767) (b1 : -32768 ≤ b) (b2 : b ≤ 32767) (k1 : 0 ≤ k) (k2 : k ≤ 65535) :
    Calls Try.prog 10 #[.int .i16 a, .int .i16 b, .int .u16 k] w fun e w' => e = .returned (.bool true) ∧ Below w.heap.size w w' := by
  have p := abs_mul_bd (n := 1 + k) (a := a) (by omega) (by omega) a1 a2
  have q := abs_mul_bd (n := 1 + k) (a := b) (by omega) (by omega) b1 b2
  have hs := share_scale (n := 1 + k) (a := a) (b := b) (by omega) (by omega) (by omega) (by omega) (by omega)
  cases h : shareW a b with
  | none =>
    rw [h] at hs
    have H := Lib.hid h
    have HS := Lib.hid hs
    clear h hs
    go_enter Try.func10, Try.ntmps10
    go_wp2_with fail
    refine (awake_any _).mono ?_
    rintro e w1 ⟨rfl, hB⟩
    go_wp2_with fail
    refine (share_none ((1 + k) * a) ((1 + k) * b) _ HS.out).mono ?_
    rintro e w2 ⟨x, nx, lx, rfl, rfl⟩
    go_wp2_with fail
    refine (share_none a b _ H.out).mono ?_
    rintro e w2 ⟨y, ny, ly, rfl, rfl⟩
    have o : ordI x y = 0 := ordI_eq (by rw [key_nan nx, key_nan ny])
    go_wp2_with (go_at_call 18; (with_reducible refine (same_any x y _ lx ly).mono ?_); rintro e w' ⟨rfl, rfl⟩)
    go_ret
    exact ⟨rfl, hB.drew.drew⟩
  | some r =>
    rw [h] at hs
    have lr : r < 18446744073709551616 := Ieee.double.div_lt h
    have o : ordI r r = 0 := ordI_eq rfl
    have H := Lib.hid h
    have HS := Lib.hid hs
    clear h hs
    go_enter Try.func10, Try.ntmps10
    go_wp2_with fail
    refine (awake_any _).mono ?_
    rintro e w1 ⟨rfl, hB⟩
    go_wp2_with fail
    refine (share_some ((1 + k) * a) ((1 + k) * b) r _ HS.out).mono ?_
    rintro e w2 ⟨rfl, rfl⟩
    go_wp2_with fail
    refine (share_some a b r _ H.out).mono ?_
    rintro e w2 ⟨rfl, rfl⟩
    go_wp2_with (go_at_call 18; (with_reducible refine (same_any r r _ lr lr).mono ?_); rintro e w' ⟨rfl, rfl⟩)
    go_ret
    exact ⟨rfl, hB⟩
end Go.Proofs.Ytphiimgfbigogaa
