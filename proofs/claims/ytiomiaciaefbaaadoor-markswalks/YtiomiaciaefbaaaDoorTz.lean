/- The first bit of a word that is set: TrailingZeros64, with its table laid. -/
import Derived.Test.YtiomiaciaefbaaaDoorAwake
import Derived.Lib.TrailingZeros
namespace Go.Proofs.YtiomiaciaefbaaaDoor
open Go.RowKit
set_option linter.unusedVariables false
set_option linter.unusedSimpArgs false

/-- The table of the library's in its variable, the first one. -/
def Tab (w : World) : Prop := ∀ j, j < 64 → w.cell? ⟨0, j, none⟩ = some (.int .u8 (Lib.deBruijn64tab.getD j 0 : Nat))
theorem Tab.some {w : World} (h : Tab w) : 0 < w.heap.size := World.block_lt_of_cell? w _ (h 0 (by omega))
theorem Tab.below {w w' : World} {B : Nat} (h : Tab w) (hb : Below B w w') (hB : 0 < B) : Tab w' := fun j hj => (hb.cell (p := ⟨0, j, none⟩) hB).trans (h j hj)
theorem Tab.kept {w w' : World} (h : Tab w) (hb : Below w.heap.size w w') : Tab w' := h.below hb h.some

/-- A word less than nothing, taken as a word. -/
theorem less_word (x : Nat) (h0 : 0 < x) (hx : x < 18446744073709551616) : IntKind.u64.wrap (-(x : Int)) = ((18446744073709551616 - x : Nat) : Int) := by
  rw [IntKind.wrap_u64]
  omega
/-- Where the table tells of a power of two. -/
def spot (t : Nat) : Nat := 2 ^ t * 285870213051353865 % 18446744073709551616 / 288230376151711744
theorem spot_word (t : Nat) : IntKind.u64.wrap (((2 ^ t : Nat) : Int) * 285870213051353865) / 288230376151711744 = (spot t : Int) := by
  rw [IntKind.wrap_u64]
  unfold spot
  generalize 2 ^ t = v
  omega

/-- The first bit that is set. -/
theorem first_bit (x : Nat) (h0 : x ≠ 0) (hx : x < 18446744073709551616) : Lib.ctz 64 x < 64 ∧ x.testBit (Lib.ctz 64 x) = true ∧ ∀ i, i < Lib.ctz 64 x → x.testBit i = false := by
  obtain ⟨m, hm, hk⟩ := Lib.ctzFrom_spec 64 x (by omega) (by simpa using hx)
  have e : Lib.ctz 64 x = Lib.ctzFrom 64 x := by simp [Lib.ctz, h0]
  rw [e]
  generalize Lib.ctzFrom 64 x = t at *
  have hm' : x = (2 * m + 1) * 2 ^ t := by rw [hm, Nat.mul_comm]
  refine ⟨hk, ?_, fun i hi => ?_⟩
  · rw [hm', Nat.testBit_mul_two_pow]
    simp [Nat.testBit_zero]
  · rw [hm', Nat.testBit_mul_two_pow]
    simp; omega
set_option maxHeartbeats 1000000 in
theorem tz_walk (x y v t s : Nat) (w : World) (h0 : ((x : Int) == 0) = false) (k1 : IntKind.u64.wrap (-(x : Int)) = (y : Int)) (k2 : bits .and .u64 (x : Int) (y : Int) = (v : Int)) (k3 : IntKind.u64.wrap ((v : Int) * 285870213051353865) / 288230376151711744 = (s : Int))
    (hs : s < 64) (ht : t < 64) (hc : w.cell? ⟨0, s, none⟩ = some (.int .u8 t)) : Calls Tryd.prog 22 #[.int .u64 x] w fun e w' => e = .returned (.int .i64 t) ∧ w = w' := by
  go_enter Tryd.func22, Tryd.ntmps22
  go_wp2_with (simp only [k1, k2, k3])
  go_ret
  exact ⟨rfl, rfl⟩
theorem tz_any (z : Int) (x : Nat) (hz : z = x) (hx : x < 18446744073709551616) (h0 : x ≠ 0) (w : World) (hT : Tab w) :
    Calls Tryd.prog 22 #[.int .u64 z] w fun e w' => e = .returned (.int .i64 (Lib.ctz 64 x)) ∧ w = w' := by
  subst hz
  obtain ⟨low, lt⟩ := Lib.lowest_bit 64 x h0 hx
  obtain ⟨sl, st⟩ : spot (Lib.ctz 64 x) < 64 ∧ Lib.deBruijn64tab.getD (spot (Lib.ctz 64 x)) 0 = Lib.ctz 64 x := Lib.deBruijn64_at _ lt
  have hc := hT _ sl
  rw [st] at hc
  have k2 := bits_and_u64_nat x (18446744073709551616 - x) hx (by omega)
  rw [show x &&& (18446744073709551616 - x) = 2 ^ Lib.ctz 64 x from low] at k2
  exact tz_walk x _ _ _ _ w (by simp; omega) (less_word x (by omega) hx) k2 (spot_word _) sl lt hc

/-! The places that are set, from one place on, ahead of another one. -/
def sets (ws : List Nat) (a b : Nat) : List Nat := (List.range' a (b - a)).filter (bit ws)
theorem sets_self (ws : List Nat) (a : Nat) : sets ws a a = [] := by simp [sets]
theorem sets_add (ws : List Nat) (a b c : Nat) (h1 : a ≤ b) (h2 : b ≤ c) : sets ws a c = sets ws a b ++ sets ws b c := by
  unfold sets
  rw [← List.filter_append]
  congr 1
  have e := List.range'_append (s := a) (m := b - a) (n := c - b) (step := 1)
  rw [show a + 1 * (b - a) = b from by omega, show b - a + (c - b) = c - a from by omega] at e
  exact e.symm
theorem sets_none (ws : List Nat) (a b : Nat) (h : ∀ p, a ≤ p → p < b → bit ws p = false) : sets ws a b = [] := by
  unfold sets
  rw [List.filter_eq_nil_iff]
  intro p hp
  simp [List.mem_range'] at hp
  obtain ⟨i, hi, rfl⟩ := hp
  rw [h (a + i) (by omega) (by omega)]
  simp
theorem sets_skip (ws : List Nat) (a b c : Nat) (h1 : a ≤ b) (h2 : b ≤ c) (h : ∀ p, b ≤ p → p < c → bit ws p = false) : sets ws a c = sets ws a b := by
  rw [sets_add ws a b c h1 h2, sets_none ws b c h, List.append_nil]
theorem sets_one (ws : List Nat) (p : Nat) (h : bit ws p = true) : sets ws p (p + 1) = [p] := by
  unfold sets
  rw [show p + 1 - p = 1 from by omega]
  simp [h]
theorem sets_next (ws : List Nat) (a b p : Nat) (h1 : a ≤ b) (h2 : b ≤ p) (h : ∀ q, b ≤ q → q < p → bit ws q = false) (hp : bit ws p = true) : sets ws a (p + 1) = sets ws a b ++ [p] := by
  rw [sets_add ws a p (p + 1) (by omega) (by omega), sets_skip ws a b p h1 h2 h, sets_one ws p hp]
theorem sets_mem (ws : List Nat) (a b p : Nat) : p ∈ sets ws a b ↔ (a ≤ p ∧ p < b) ∧ bit ws p = true := by
  unfold sets
  rw [List.mem_filter, List.mem_range']
  constructor
  · rintro ⟨⟨i, hi, rfl⟩, h⟩; exact ⟨by omega, h⟩
  · rintro ⟨h, hb⟩; exact ⟨⟨p - a, by omega, by omega⟩, hb⟩
theorem sets_pre (ws : List Nat) (a b c : Nat) (h1 : a ≤ b) (h2 : b ≤ c) : sets ws a b <+: sets ws a c := ⟨_, (sets_add ws a b c h1 h2).symm⟩
theorem sets_len (ws : List Nat) (a b : Nat) : (sets ws a b).length ≤ b - a := by
  unfold sets
  have := List.length_filter_le (bit ws) (List.range' a (b - a))
  simpa using this

/-- The word's part from a bit on. -/
theorem bit_part (ws : List Nat) (k i t : Nat) (h : i + t < 64) : bit ws (64 * k + i + t) = (ws.getD k 0 / 2 ^ i).testBit t := by
  unfold bit
  rw [show (64 * k + i + t) / 64 = k from by omega, show (64 * k + i + t) % 64 = i + t from by omega, Nat.testBit_div_two_pow, Nat.add_comm]
theorem part_zero (ws : List Nat) (k i : Nat) (h : ws.getD k 0 / 2 ^ i = 0) (p : Nat) (h1 : 64 * k + i ≤ p) (h2 : p < 64 * (k + 1)) : bit ws p = false := by
  have e := bit_part ws k i (p - (64 * k + i)) (by omega)
  rw [show 64 * k + i + (p - (64 * k + i)) = p from by omega, h] at e
  rw [e]; simp
theorem part_lt (x i : Nat) (hx : x < 18446744073709551616) : x / 2 ^ i < 18446744073709551616 := Nat.lt_of_le_of_lt (Nat.div_le_self _ _) hx
theorem part_in (x i : Nat) (hx : x < 18446744073709551616) (h0 : x / 2 ^ i ≠ 0) : i + Lib.ctz 64 (x / 2 ^ i) < 64 := by
  obtain ⟨h1, h2, _⟩ := first_bit (x / 2 ^ i) h0 (part_lt x i hx)
  apply Nat.lt_of_not_le
  intro hle
  rw [Nat.testBit_div_two_pow] at h2
  have : x.testBit (Lib.ctz 64 (x / 2 ^ i) + i) = false := by
    apply Nat.testBit_lt_two_pow
    have h3 : 2 ^ 64 ≤ 2 ^ (Lib.ctz 64 (x / 2 ^ i) + i) := Nat.pow_le_pow_right (by decide) (by omega)
    have h4 : (2 : Nat) ^ 64 = 18446744073709551616 := by decide
    omega
  rw [this] at h2
  cases h2
end Go.Proofs.YtiomiaciaefbaaaDoor
