/- How many bits of a word are set. -/
import Derived.Test.YtiomiaciaefbaaaDoorMem
import Derived.Laws.Bits128
namespace Go.Proofs.YtiomiaciaefbaaaDoor
open Go.RowKit
set_option linter.unusedVariables false
set_option linter.unusedSimpArgs false

theorem cast_half (x : Nat) : ((x : Int) / 2) = ((x / 2 : Nat) : Int) := by omega
theorem key1 (x : Nat) (hx : x < 18446744073709551616) :
    IntKind.u64.wrap (bits .and .u64 ((x : Int) / 2) 6148914691236517205 + bits .and .u64 (x : Int) 6148914691236517205) = ((rep f1 8 x : Nat) : Int) := by
  have h := st1 8 x
  rw [show msk 85 8 = 6148914691236517205 from by decide] at h
  have hl := rep_lt f1 (fun b hb => (fin4 ⟨b, hb⟩).1) 8 x
  have e1 := bits_and_u64_nat (x / 2) 6148914691236517205 (by omega) (by omega)
  have e2 := bits_and_u64_nat x 6148914691236517205 hx (by omega)
  rw [show ((6148914691236517205 : Nat) : Int) = 6148914691236517205 from rfl] at e1 e2
  rw [show ((x : Int) / 2) = ((x / 2 : Nat) : Int) from by omega, e1, e2, ← h, IntKind.wrap_u64]
  rw [← h] at hl
  have : (256 : Nat) ^ 8 = 18446744073709551616 := by decide
  omega
theorem key2 (x : Nat) : IntKind.u64.wrap (bits .and .u64 (((rep f1 8 x : Nat) : Int) / 4) 3689348814741910323 + bits .and .u64 ((rep f1 8 x : Nat) : Int) 3689348814741910323) = ((rep (fun b => f2 (f1 b)) 8 x : Nat) : Int) := by
  have h := st2 f1 (fun b hb => (fin4 ⟨b, hb⟩).1) 8 x
  rw [show msk 51 8 = 3689348814741910323 from by decide] at h
  have h256 : (256 : Nat) ^ 8 = 18446744073709551616 := by decide
  have h0 := rep_lt f1 (fun b hb => (fin4 ⟨b, hb⟩).1) 8 x
  have hl := rep_lt (fun b => f2 (f1 b)) (fun b hb => (fin4 ⟨b, hb⟩).2.1) 8 x
  rw [h256] at h0 hl
  generalize rep (fun b => f2 (f1 b)) 8 x = z at *
  generalize rep f1 8 x = y at *
  have e1 := bits_and_u64_nat (y / 4) 3689348814741910323 (by omega) (by omega)
  have e2 := bits_and_u64_nat y 3689348814741910323 h0 (by omega)
  rw [show ((3689348814741910323 : Nat) : Int) = 3689348814741910323 from rfl] at e1 e2
  rw [show ((y : Int) / 4) = ((y / 4 : Nat) : Int) from by omega, e1, e2, ← h, IntKind.wrap_u64]
  rw [← h] at hl
  omega
theorem rep_arith (b r c P : Nat) (h1 : 255 * r + c ≤ P) (h2 : b ≤ c) : 255 * (b + 256 * r) + c ≤ 256 * P := by omega
theorem rep_le (g : Nat → Nat) (c : Nat) (hg : ∀ b, b < 256 → g b ≤ c) (k : Nat) : ∀ x, 255 * rep g k x + c ≤ c * 256 ^ k := by
  induction k with
  | zero => intro x; simp [rep]
  | succ k ih =>
    intro x
    have e : c * 256 ^ (k + 1) = 256 * (c * 256 ^ k) := by rw [Nat.pow_succ, Nat.mul_comm (256 ^ k), Nat.mul_left_comm]
    rw [rep, e]
    exact rep_arith _ _ _ _ (ih (x / 256)) (hg (x % 256) (Nat.mod_lt _ (by decide)))
theorem f2_le : ∀ b, b < 256 → f2 (f1 b) ≤ 68 := fun b hb => by
  obtain ⟨_, _, q3, q4, _⟩ := fin4 ⟨b, hb⟩
  simp only at q3 q4
  omega
theorem rep_f2_le (x : Nat) : rep (fun b => f2 (f1 b)) 8 x ≤ 4919131752989213764 := by
  have h := rep_le (fun b => f2 (f1 b)) 68 f2_le 8 x
  have e : 68 * 256 ^ 8 = 1254378597012249509888 := by decide
  rw [e] at h
  generalize rep (fun b => f2 (f1 b)) 8 x = r at *
  omega
theorem key3 (x : Nat) : bits .and .u64 (IntKind.u64.wrap (((rep (fun b => f2 (f1 b)) 8 x : Nat) : Int) / 16 + ((rep (fun b => f2 (f1 b)) 8 x : Nat) : Int))) 1085102592571150095 = ((rep (pop 8) 8 x : Nat) : Int) := by
  have h := st3 8 x
  rw [show msk 15 8 = 1085102592571150095 from by decide] at h
  have hl := rep_f2_le x
  generalize rep (fun b => f2 (f1 b)) 8 x = y at *
  have e1 : IntKind.u64.wrap ((y : Int) / 16 + (y : Int)) = ((y / 16 + y : Nat) : Int) := by rw [IntKind.wrap_u64]; omega
  have e2 := bits_and_u64_nat (y / 16 + y) 1085102592571150095 (by omega) (by omega)
  rw [show ((1085102592571150095 : Nat) : Int) = 1085102592571150095 from rfl] at e2
  rw [e1, e2, h]

theorem ones_core (x : Nat) (w : World) (y1 y2 y3 y4 y5 y6 r : Nat)
    (k1 : IntKind.u64.wrap (bits .and .u64 ((x : Int) / 2) 6148914691236517205 + bits .and .u64 (x : Int) 6148914691236517205) = (y1 : Int))
    (k2 : IntKind.u64.wrap (bits .and .u64 ((y1 : Int) / 4) 3689348814741910323 + bits .and .u64 (y1 : Int) 3689348814741910323) = (y2 : Int))
    (k3 : bits .and .u64 (IntKind.u64.wrap ((y2 : Int) / 16 + (y2 : Int))) 1085102592571150095 = (y3 : Int))
    (k4 : IntKind.u64.wrap ((y3 : Int) + (y3 : Int) / 256) = (y4 : Int)) (k5 : IntKind.u64.wrap ((y4 : Int) + (y4 : Int) / 65536) = (y5 : Int)) (k6 : IntKind.u64.wrap ((y5 : Int) + (y5 : Int) / 4294967296) = (y6 : Int))
    (k7 : IntKind.i64.wrap (y6 : Int) = (y6 : Int)) (k8 : bits .and .i64 (y6 : Int) 127 = (r : Int)) :
    Calls Tryd.prog 19 #[.int .u64 x] w fun e w' => e = .returned (.int .i64 r) ∧ w = w' := by
  go_enter Tryd.func19, Tryd.ntmps19
  go_wp2_with (simp only [k1, k2, k3, k4, k5, k6, k7, k8])
  go_ret
  exact ⟨rfl, rfl⟩

theorem ones_any (x : Nat) (hx : x < 18446744073709551616) (w : World) :
    Calls Tryd.prog 19 #[.int .u64 x] w fun e w' => e = .returned (.int .i64 (pop 64 x)) ∧ w = w' := by
  obtain ⟨y, hy, h1, h2, h3, h4, h5⟩ := sum8 x
  have k3 := key3 x
  rw [← hy] at k3
  refine ones_core x w _ _ y (y + y / 256) (y + y / 256 + (y + y / 256) / 65536) (y + y / 256 + (y + y / 256) / 65536 + (y + y / 256 + (y + y / 256) / 65536) / 4294967296) _ (key1 x hx) (key2 x) k3 ?_ ?_ ?_ ?_ ?_
  · rw [IntKind.wrap_u64]; omega
  · generalize y + y / 256 = z at *; rw [IntKind.wrap_u64]; omega
  · generalize y + y / 256 + (y + y / 256) / 65536 = z at *; rw [IntKind.wrap_u64]; omega
  · generalize y + y / 256 + (y + y / 256) / 65536 + (y + y / 256 + (y + y / 256) / 65536) / 4294967296 = z at *
    exact IntWalk.i64_in _ (by omega)
  · generalize y + y / 256 + (y + y / 256) / 65536 + (y + y / 256 + (y + y / 256) / 65536) / 4294967296 = z at *
    rw [i64_and127, ← h5]; omega
end Go.Proofs.YtiomiaciaefbaaaDoor
