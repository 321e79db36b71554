/- Set: a place's bit. -/
import Derived.Test.YtiomiaciaefbaaaDoorSmall
namespace Go.Proofs.YtiomiaciaefbaaaDoor
open Go.RowKit
set_option linter.unusedVariables false
set_option linter.unusedSimpArgs false

/-- A place's bit is set. -/
def setW (ws : List Nat) (p : Nat) : List Nat := ws.set (p / 64) (ws.getD (p / 64) 0 ||| 2 ^ (p % 64))
theorem setW_len (ws : List Nat) (p : Nat) : (setW ws p).length = ws.length := by simp [setW]
theorem bit_set (ws : List Nat) (p q : Nat) (hp : p / 64 < ws.length) : bit (setW ws p) q = (decide (q = p) || bit ws q) := by
  unfold bit setW
  by_cases h : q / 64 = p / 64
  · rw [h]
    have e : (ws.set (p / 64) (ws.getD (p / 64) 0 ||| 2 ^ (p % 64))).getD (p / 64) 0 = ws.getD (p / 64) 0 ||| 2 ^ (p % 64) := by simp [List.getD, hp]
    rw [e, Nat.testBit_or, Nat.testBit_two_pow, Bool.or_comm]
    congr 1
    by_cases h2 : p % 64 = q % 64
    · have : q = p := by omega
      simp [h2, this]
    · have : ¬ q = p := by omega
      simp [h2, this]
  · have hne : ¬ q = p := by rintro rfl; exact h rfl
    have e : (ws.set (p / 64) (ws.getD (p / 64) 0 ||| 2 ^ (p % 64))).getD (q / 64) 0 = ws.getD (q / 64) 0 := by
      simp [List.getD, List.getElem?_set, Ne.symm h]
    rw [e]
    simp [hne]
theorem or_lt (x p : Nat) (hx : x < 18446744073709551616) : x ||| 2 ^ (p % 64) < 18446744073709551616 := by
  have := Nat.or_lt_two_pow (n := 64) (x := x) (y := 2 ^ (p % 64)) (by simpa using hx) (by simpa using pow_lt p)
  simpa using this

section
variable {w : World} {g gw n : Nat} {ws : List Nat}
theorem At.set (h : At w g gw n ws) (p : Nat) (hp : p < n) : At (w.setCell ⟨gw, p / 64, none⟩ (.int .u64 ((ws.getD (p / 64) 0 ||| 2 ^ (p % 64) : Nat) : Int))) g gw n (setW ws p) := by
  refine ⟨?_, ?_, by rw [setW_len]; exact h.many, h.some_, h.most, fun x hx => ?_, fun q hq => ?_⟩
  · rw [setW_len]
    exact h.own.far (p := ⟨gw, p / 64, none⟩) h.gne _
  · have := h.words.set (p / 64) (.int .u64 ((ws.getD (p / 64) 0 ||| 2 ^ (p % 64) : Nat) : Int))
    rw [setW, List.map_set]
    exact this
  · rcases List.mem_or_eq_of_mem_set hx with hx | rfl
    · exact h.fit x hx
    · exact or_lt _ _ (h.lt _)
  · rw [bit_set ws p q (h.place hp)] at hq
    simp only [Bool.or_eq_true, decide_eq_true_eq] at hq
    rcases hq with rfl | hq
    · exact hp
    · exact h.in_ q hq

set_option maxHeartbeats 1000000 in
theorem set_core (h : At w g gw n ws) (p : Nat) (hp : p < n) (m r : Nat) (hm : m = 2 ^ (p % 64)) (k1 : bits .or .u64 ((ws.getD (p / 64) 0 : Nat) : Int) (m : Int) = (r : Int)) (b : Bool) (hb : bit ws p = b) :
    Calls Tryd.prog 9 #[.pointer (some ⟨g, 0, none⟩), .int .i64 p] w fun e w' => e = .returned (.tuple #[.bool !b, .int .i64 0]) ∧ ∃ k, w' = (w.drewN k).setCell ⟨gw, p / 64, none⟩ (.int .u64 r) := by
  have hn := h.most
  have h1 : (0 : Int) ≤ p := by omega
  have h2 : (p : Int) < 65536 := by omega
  have HM := Lib.hid hm
  have H := Lib.hid h
  have HB := Lib.hid hb
  obtain ⟨L, hL⟩ : ∃ L, ws.length = L := ⟨_, rfl⟩
  have HL := Lib.hid hL
  have hq := h.place hp
  rw [hL] at hq
  have hL2 : L ≤ 1024 := by have := h.many; omega
  clear hm h hL hb
  obtain ⟨x, hx⟩ : ∃ x, ws.getD (p / 64) 0 = x := ⟨_, rfl⟩
  have HX := Lib.hid hx
  rw [hx] at k1
  clear hx
  have hq2 : (p : Int) / 64 < (L : Int) := by omega
  have hq3 : (0 : Int) ≤ (p : Int) / 64 := by omega
  have hq4 : ((p : Int) / 64).toNat = p / 64 := by omega
  go_enter Tryd.func9, Tryd.ntmps9
  go_wp2_with fail
  refine (place_yes H.out p hp).mono ?_
  rintro e w1 ⟨rfl, rfl⟩
  go_wp2_with fail
  refine (has_yes H.out p hp).mono ?_
  rintro e w2 ⟨rfl, k, rfl⟩
  rw [HB.out]
  have H2 := H.out.drewN k
  have hc1 := H2.c1
  have hc2 := H2.word (i := p / 64) (by rw [HL.out]; exact hq)
  have hf2 := H2.words.frozen (p / 64)
  rw [HL.out] at hc1
  rw [HX.out] at hc2
  clear H2
  obtain ⟨w2, hw2⟩ : ∃ w2, w.drewN k = w2 := ⟨_, rfl⟩
  rw [hw2] at hc1 hc2 hf2 ⊢
  have HW2 := Lib.hid hw2
  clear hw2
  have hq5 : IntKind.i64.wrap ((p : Int) / 64) = (p : Int) / 64 := IntWalk.i64_in _ (by omega)
  go_wp2
  go_still_tail 12, (by kernel_rfl)
  still_call ((bitOf_any p m (by omega) _ HM.out).mono fun e w' h => ⟨h.1, h.2.symm⟩)
  repeat still_step
  refine wpStill_nil ?_
  change wpList _ _ _ _ _ w2.drew
  have hc3 : w2.drew.cell? ⟨gw, p / 64, none⟩ = some (.int .u64 x) := hc2
  have hf3 : w2.drew.frozen? ⟨gw, p / 64, none⟩ = false := hf2
  obtain ⟨w3, hw3⟩ : ∃ w3, w2.drew = w3 := ⟨_, rfl⟩
  rw [hw3] at hc3 hf3 ⊢
  have HW3 := Lib.hid hw3
  clear hw3 hc1 hc2 hf2
  go_wp2
  go_ret2
  refine ⟨rfl, k + 1, ?_⟩
  rw [← HW3.out, ← HW2.out]
  rfl

theorem or_bit (x p : Nat) (hx : x < 18446744073709551616) : bits .or .u64 (x : Int) ((2 ^ (p % 64) : Nat) : Int) = ((x ||| 2 ^ (p % 64) : Nat) : Int) := bits_or_u64_nat _ _ hx (pow_lt p)

theorem set_yes (h : At w g gw n ws) (p : Nat) (hp : p < n) :
    Calls Tryd.prog 9 #[.pointer (some ⟨g, 0, none⟩), .int .i64 p] w fun e w' => e = .returned (.tuple #[.bool !(bit ws p), .int .i64 0]) ∧ At w' g gw n (setW ws p) ∧ Else g gw w w' := by
  refine (set_core h p hp _ _ rfl (or_bit _ _ (h.lt _)) _ rfl).mono ?_
  rintro e w' ⟨rfl, k, rfl⟩
  refine ⟨rfl, (h.drewN k).set p hp, ⟨rfl, rfl, rfl, ?_, fun i hi h1 h2 => ?_⟩⟩
  · simp [World.drewN]
  · rw [Below.heap_setCell _ _ _ i h2]; rfl

set_option maxHeartbeats 1000000 in
theorem set_no (h : At w g gw n ws) (z : Int) (hz : z < 0 ∨ (n : Int) ≤ z) :
    Calls Tryd.prog 9 #[.pointer (some ⟨g, 0, none⟩), .int .i64 z] w fun e w' => e = .returned (.tuple #[.bool false, .int .i64 1]) ∧ w = w' := by
  have H := Lib.hid h
  have HZ := Lib.hid hz
  clear h hz
  go_enter Tryd.func9, Tryd.ntmps9
  go_wp2_with fail
  refine (place_no H.out z HZ.out).mono ?_
  rintro e w1 ⟨rfl, rfl⟩
  go_wp2
  go_ret2
  exact ⟨rfl, rfl⟩
end
end Go.Proofs.YtiomiaciaefbaaaDoor
