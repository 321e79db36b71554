/- The small calls: Size, isPlace, bitOf, Has. -/
import Derived.Test.YtiomiaciaefbaaaDoorOnes
namespace Go.Proofs.YtiomiaciaefbaaaDoor
open Go.RowKit
set_option linter.unusedVariables false
set_option linter.unusedSimpArgs false

section
variable {w : World} {g gw n : Nat} {ws : List Nat}

theorem size_any (h : At w g gw n ws) : Calls Tryd.prog 8 #[.pointer (some ⟨g, 0, none⟩)] w fun e w' => e = .returned (.int .i64 n) ∧ w = w' := by
  have hc0 := h.c0
  go_enter Tryd.func8, Tryd.ntmps8
  go_wp2
  go_ret
  exact ⟨rfl, rfl⟩

theorem place_yes (h : At w g gw n ws) (p : Nat) (hp : p < n) : Calls Tryd.prog 17 #[.pointer (some ⟨g, 0, none⟩), .int .i64 p] w fun e w' => e = .returned (.bool true) ∧ w = w' := by
  have hc0 := h.c0
  have h1 : (0 : Int) ≤ p := by omega
  have h2 : (p : Int) < (n : Int) := by omega
  clear h
  go_enter Tryd.func17, Tryd.ntmps17
  go_wp2
  go_ret
  exact ⟨ret_bool (by simp), rfl⟩

theorem place_no (h : At w g gw n ws) (z : Int) (hz : z < 0 ∨ (n : Int) ≤ z) : Calls Tryd.prog 17 #[.pointer (some ⟨g, 0, none⟩), .int .i64 z] w fun e w' => e = .returned (.bool false) ∧ w = w' := by
  have hc0 := h.c0
  clear h
  by_cases h1 : z < 0
  · have d1 : decide ((0 : Int) ≤ z) = false := by simp; omega
    go_enter Tryd.func17, Tryd.ntmps17
    go_wp2
    go_ret
    exact ⟨rfl, rfl⟩
  · have d1 : decide ((0 : Int) ≤ z) = true := by simp; omega
    have d2 : decide (z < (n : Int)) = false := by simp; omega
    go_enter Tryd.func17, Tryd.ntmps17
    go_wp2
    go_ret
    exact ⟨rfl, rfl⟩

theorem pow_lt (i : Nat) : 2 ^ (i % 64) < 18446744073709551616 := by
  have h : 2 ^ (i % 64) ≤ 2 ^ 63 := Nat.pow_le_pow_right (by decide) (by omega)
  have e : 2 ^ 63 = 9223372036854775808 := by decide
  omega
theorem bitOf_any (p m : Nat) (hp : p < 65536) (w : World) (hm : m = 2 ^ (p % 64)) : Calls Tryd.prog 18 #[.int .i64 p] w fun e w' => e = .returned (.int .u64 m) ∧ w = w' := by
  have h1 : (0 : Int) ≤ p := by omega
  have h2 : (p : Int) < 65536 := by omega
  have hw : IntKind.u64.wrap (2 ^ (p % 64)) = (m : Int) := by
    rw [hm, IntKind.wrap_u64]
    have := pow_lt p
    have e : ((2 ^ (p % 64) : Nat) : Int) = 2 ^ (p % 64) := by simp
    rw [← e]
    omega
  have HW := Lib.hid hw
  clear hw hm
  go_enter Tryd.func18, Tryd.ntmps18
  go_wp2
  go_ret
  exact ⟨congrArg (fun x => Ending.returned (.int .u64 x)) HW.out, rfl⟩

theorem At.drewN (h : At w g gw n ws) (k : Nat) : At (w.drewN k) g gw n ws := h.of_blocks rfl rfl
theorem quiet_same {P : Program} {f : FuncId} {args : Array Value} {w : World} {n : Nat} {v : Value}
    (h : Calls P f args (w.drewN n) fun e w' => e = .returned v ∧ w.drewN n = w') : Calls P f args (w.drewN n) fun e w'' => e = .returned v ∧ ∃ m, w'' = w.drewN m :=
  h.mono fun _ _ ⟨he, hm⟩ => ⟨he, n, hm.symm⟩

theorem and_bit (x i : Nat) (hx : x < 18446744073709551616) : bits .and .u64 (x : Int) ((2 ^ (i % 64) : Nat) : Int) = ((x &&& 2 ^ (i % 64) : Nat) : Int) := bits_and_u64_nat _ _ hx (pow_lt i)
theorem and_ne (x i : Nat) : (((x &&& 2 ^ i : Nat) : Int) != 0) = x.testBit i := by
  have h : x &&& 2 ^ i = x / 2 ^ i % 2 * 2 ^ i := nat_bit i x
  have hp : 0 < 2 ^ i := Nat.two_pow_pos i
  rw [h, Nat.testBit_eq_decide_div_mod_eq]
  by_cases e : x / 2 ^ i % 2 = 1
  · rw [e, Nat.one_mul]
    have h3 : (((2 ^ i : Nat) : Int) != 0) = true := bne_iff_ne.2 (by omega)
    rw [h3]; rfl
  · have e0 : x / 2 ^ i % 2 = 0 := by omega
    rw [e0]; simp

set_option maxHeartbeats 1000000 in
theorem has_core (h : At w g gw n ws) (p : Nat) (hp : p < n) (m r : Nat) (b : Bool) (hm : m = 2 ^ (p % 64)) (k1 : bits .and .u64 ((ws.getD (p / 64) 0 : Nat) : Int) (m : Int) = (r : Int)) (k2 : ((r : Int) != 0) = b) :
    Calls Tryd.prog 10 #[.pointer (some ⟨g, 0, none⟩), .int .i64 p] w fun e w' => e = .returned (.bool b) ∧ ∃ k, w' = w.drewN k := by
  have hc1 := h.c1
  have hq := h.place hp
  have hc2 := h.word hq
  have hn := h.most
  have h1 : (0 : Int) ≤ p := by omega
  have h2 : (p : Int) < 65536 := by omega
  have HM := Lib.hid hm
  have H := Lib.hid h
  obtain ⟨L, hL⟩ : ∃ L, ws.length = L := ⟨_, rfl⟩
  rw [hL] at hc1 hq
  have hL2 : L ≤ 1024 := by have := h.many; omega
  clear hm h hL
  generalize ws.getD (p / 64) 0 = x at *
  have hq2 : (p : Int) / 64 < (L : Int) := by omega
  have hq3 : (0 : Int) ≤ (p : Int) / 64 := by omega
  have hq4 : ((p : Int) / 64).toNat = p / 64 := by omega
  go_enter Tryd.func10, Tryd.ntmps10
  go_wp2
  go_quiet ((first | (go_at_call 17; exact quiet_same (place_yes (H.out.drewN _) p hp)) | (go_at_call 18; exact quiet_same (bitOf_any p m (by omega) _ HM.out))))
  go_wp2
  go_ret
  exact ⟨rfl, _, rfl⟩

theorem has_yes (h : At w g gw n ws) (p : Nat) (hp : p < n) : Calls Tryd.prog 10 #[.pointer (some ⟨g, 0, none⟩), .int .i64 p] w fun e w' => e = .returned (.bool (bit ws p)) ∧ ∃ k, w' = w.drewN k :=
  has_core h p hp (2 ^ (p % 64)) (ws.getD (p / 64) 0 &&& 2 ^ (p % 64)) (bit ws p) rfl (and_bit _ _ (h.lt _)) (and_ne _ _)

set_option maxHeartbeats 1000000 in
theorem has_no (h : At w g gw n ws) (z : Int) (hz : z < 0 ∨ (n : Int) ≤ z) : Calls Tryd.prog 10 #[.pointer (some ⟨g, 0, none⟩), .int .i64 z] w fun e w' => e = .returned (.bool false) ∧ ∃ k, w' = w.drewN k := by
  have H := Lib.hid h
  clear h
  go_enter Tryd.func10, Tryd.ntmps10
  go_wp2
  go_quiet ((go_at_call 17; exact quiet_same (place_no (H.out.drewN _) z hz)))
  go_wp2
  go_ret
  exact ⟨rfl, _, rfl⟩

theorem below_drewN (w : World) (k : Nat) : Below w.heap.size w (w.drewN k) := by
  refine ⟨rfl, ?_, rfl, Nat.le_refl _, fun _ _ => rfl⟩
  rfl
end
end Go.Proofs.YtiomiaciaefbaaaDoor
