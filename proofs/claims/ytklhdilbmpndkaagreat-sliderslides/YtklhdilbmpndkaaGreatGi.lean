/- A map of the program in memory: the words that tell where it lies, and what stays as it is. The small calls: Size, isPlace, bitOf, Has. Set: a place's bit. New, Clear. The document's example; a slice of small numbers that came in; a map that is not nil. -/
import Derived.Test.YtklhdilbmpndkaaGreatGa
import Derived.WalkKit
import Derived.WalkSpells
import Derived.WalkLawsBesides
import Derived.Laws.MakeOwn
import Derived.Deep.QuietTactic
import Derived.BigQuiet
import Derived.StillTailTactics
import Derived.Lib.Hide
import Derived.Laws.BitsAllLaws
import Derived.Laws.Bits128
import Derived.Lib.SliceRun
import Derived.ProofKit
import Derived.OpenShut
import Derived.Deep.Slices
namespace Go.Proofs.YtklhdilbmpndkaaGreat
set_option maxRecDepth 20000
open Go.RowKit
/-- What was there lies as it did. -/
theorem Lies.kept {w w' : World} {g : Nat} {t : TypeId} {cs : List Value} (h : Lies w g t cs) (hb : Below w.heap.size w w') : Lies w' g t cs := h.below hb h.lt
end Go.Proofs.YtklhdilbmpndkaaGreat
namespace Go.Proofs.YtklhdilbmpndkaaGreat.Mk
open Go.RowKit
set_option linter.unusedVariables false

/-- One step more, behind which nothing that was there has turned. -/
theorem on {B : Nat} {a b c : World} (h : Below B a b) (hB : B ≤ b.heap.size) (k : Below b.heap.size b c) : Below B a c := h.trans (k.mono hB)
theorem ret_bool {a b : Bool} (h : a = b) : Ending.returned (.bool a) = .returned (.bool b) := by rw [h]
theorem below_one (w : World) (X : Obj) : Below w.heap.size w (w.alloc X) := (Below.refl _ _).alloc (Nat.le_refl _) _

/-- The bit of a place. -/
def bit (ws : List Nat) (p : Nat) : Bool := (ws.getD (p / 64) 0).testBit (p % 64)

/-- A map of n places: its own two cells, its words. -/
structure At (w : World) (g gw n : Nat) (ws : List Nat) : Prop where
  own : Lies w g 93 [.int .i64 n, .slice (some ⟨gw, 0, none⟩) ws.length ws.length]
  words : Lies w gw 101 (ws.map fun x => Value.int .u64 (x : Nat))
  many : ws.length = (n + 63) / 64
  some_ : 1 ≤ n
  most : n ≤ 65536
  fit : ∀ x ∈ ws, x < 18446744073709551616
  in_ : ∀ p, bit ws p = true → p < n

/-- All but two blocks are as they were. -/
structure Else (g gw : Nat) (w w' : World) : Prop where
  os : w'.os = w.os
  tape : w'.tape = w.tape
  output : w'.output = w.output
  size : w.heap.size ≤ w'.heap.size
  block : ∀ k, k < w.heap.size → k ≠ g → k ≠ gw → w'.heap[k]? = w.heap[k]?

theorem Else.refl (g gw : Nat) (w : World) : Else g gw w w := ⟨rfl, rfl, rfl, Nat.le_refl _, fun _ _ _ _ => rfl⟩
theorem Else.of_below {g gw : Nat} {w w' : World} (h : Below w.heap.size w w') : Else g gw w w' := ⟨h.os, h.tape, h.output, h.size, fun i hi _ _ => h.block i hi⟩
theorem Else.below {g gw B : Nat} {w w' : World} (h : Else g gw w w') (hB : B ≤ w.heap.size) (h1 : B ≤ g) (h2 : B ≤ gw) : Below B w w' :=
  ⟨h.os, h.tape, h.output, h.size, fun k hk => h.block k (by omega) (by omega) (by omega)⟩
theorem Else.lies {g gw b : Nat} {w w' : World} {t : TypeId} {cs : List Value} (h : Else g gw w w') (hl : Lies w b t cs) (h1 : b ≠ g) (h2 : b ≠ gw) : Lies w' b t cs :=
  hl.of_block (h.block b hl.lt h1 h2)
theorem Else.trans {g gw : Nat} {a b c : World} (h : Else g gw a b) (k : Else g gw b c) : Else g gw a c :=
  ⟨k.os.trans h.os, k.tape.trans h.tape, k.output.trans h.output, Nat.le_trans h.size k.size, fun i hi h1 h2 =>
    (k.block i (Nat.lt_of_lt_of_le hi h.size) h1 h2).trans (h.block i hi h1 h2)⟩

section
variable {w w' : World} {g gw n : Nat} {ws : List Nat}
theorem At.gne (h : At w g gw n ws) : g ≠ gw := h.own.apart h.words (by decide)
theorem At.of_blocks (h : At w g gw n ws) (h1 : w'.heap[g]? = w.heap[g]?) (h2 : w'.heap[gw]? = w.heap[gw]?) : At w' g gw n ws :=
  ⟨h.own.of_block h1, h.words.of_block h2, h.many, h.some_, h.most, h.fit, h.in_⟩
theorem At.kept (h : At w g gw n ws) (hb : Below w.heap.size w w') : At w' g gw n ws := h.of_blocks (hb.block g h.own.lt) (hb.block gw h.words.lt)
theorem At.alloc (h : At w g gw n ws) (o : Obj) : At (w.alloc o) g gw n ws := h.kept (below_one w o)
theorem At.far (h : At w g gw n ws) {g' gw' : Nat} (he : Else g' gw' w w') (h1 : g ≠ g') (h2 : g ≠ gw') (h3 : gw ≠ g') (h4 : gw ≠ gw') : At w' g gw n ws :=
  h.of_blocks (he.block g h.own.lt h1 h2) (he.block gw h.words.lt h3 h4)
theorem At.c0 (h : At w g gw n ws) : w.cell? ⟨g, 0, none⟩ = some (.int .i64 n) := h.own.cell 0
theorem At.c1 (h : At w g gw n ws) : w.cell? ⟨g, 1, none⟩ = some (.slice (some ⟨gw, 0, none⟩) ws.length ws.length) := h.own.cell 1
theorem At.word (h : At w g gw n ws) {i : Nat} (hi : i < ws.length) : w.cell? ⟨gw, i, none⟩ = some (.int .u64 (ws.getD i 0 : Nat)) := by
  rw [h.words.cell i]; simp [List.getD, hi]
theorem At.lt (h : At w g gw n ws) (i : Nat) : ws.getD i 0 < 18446744073709551616 := by
  by_cases hi : i < ws.length
  · have := h.fit ws[i] (List.getElem_mem hi)
    simpa [List.getD, hi] using this
  · simp [List.getD, hi]
theorem At.place (h : At w g gw n ws) {p : Nat} (hp : p < n) : p / 64 < ws.length := by rw [h.many]; omega
end
end Go.Proofs.YtklhdilbmpndkaaGreat.Mk

namespace Go.Proofs.YtklhdilbmpndkaaGreat.Mk
set_option maxRecDepth 20000
open Go.RowKit
set_option linter.unusedVariables false
set_option linter.unusedSimpArgs false

section
variable {w : World} {g gw n : Nat} {ws : List Nat}

theorem place_yes (h : At w g gw n ws) (p : Nat) (hp : p < n) : Calls Tryz.prog 45 #[.pointer (some ⟨g, 0, none⟩), .int .i64 p] w fun e w' => e = .returned (.bool true) ∧ w = w' := by
  have hc0 := h.c0
  have h1 : (0 : Int) ≤ p := by omega
  have h2 : (p : Int) < (n : Int) := by omega
  clear h
  go_enter Tryz.func45, Tryz.ntmps45
  go_wp2
  go_ret
  exact ⟨ret_bool (by simp), rfl⟩

theorem place_no (h : At w g gw n ws) (z : Int) (hz : z < 0 ∨ (n : Int) ≤ z) : Calls Tryz.prog 45 #[.pointer (some ⟨g, 0, none⟩), .int .i64 z] w fun e w' => e = .returned (.bool false) ∧ w = w' := by
  have hc0 := h.c0
  clear h
  by_cases h1 : z < 0
  · have d1 : decide ((0 : Int) ≤ z) = false := by simp; omega
    go_enter Tryz.func45, Tryz.ntmps45
    go_wp2
    go_ret
    exact ⟨rfl, rfl⟩
  · have d1 : decide ((0 : Int) ≤ z) = true := by simp; omega
    have d2 : decide (z < (n : Int)) = false := by simp; omega
    go_enter Tryz.func45, Tryz.ntmps45
    go_wp2
    go_ret
    exact ⟨rfl, rfl⟩

theorem pow_lt (i : Nat) : 2 ^ (i % 64) < 18446744073709551616 := by
  have h : 2 ^ (i % 64) ≤ 2 ^ 63 := Nat.pow_le_pow_right (by decide) (by omega)
  have e : 2 ^ 63 = 9223372036854775808 := by decide
  omega
theorem bitOf_any (p m : Nat) (hp : p < 65536) (w : World) (hm : m = 2 ^ (p % 64)) : Calls Tryz.prog 47 #[.int .i64 p] w fun e w' => e = .returned (.int .u64 m) ∧ w = w' := by
  have h1 : (0 : Int) ≤ p := by omega
  have h2 : (p : Int) < 65536 := by omega
  have hw : IntKind.u64.wrap (2 ^ (p % 64)) = (m : Int) := by
    rw [hm, IntKind.wrap_u64]
    have := pow_lt p
    have e : ((2 ^ (p % 64) : Nat) : Int) = 2 ^ (p % 64) := by simp
    rw [← e]
    omega
  have HW := Lib.hid hw
  clear hw hm
  go_enter Tryz.func47, Tryz.ntmps47
  go_wp2
  go_ret
  exact ⟨congrArg (fun x => Ending.returned (.int .u64 x)) HW.out, rfl⟩

theorem At.drewN (h : At w g gw n ws) (k : Nat) : At (w.drewN k) g gw n ws := h.of_blocks rfl rfl
theorem quiet_same {P : Program} {f : FuncId} {args : Array Value} {w : World} {n : Nat} {v : Value}
    (h : Calls P f args (w.drewN n) fun e w' => e = .returned v ∧ w.drewN n = w') : Calls P f args (w.drewN n) fun e w'' => e = .returned v ∧ ∃ m, w'' = w.drewN m :=
  h.mono fun _ _ ⟨he, hm⟩ => ⟨he, n, hm.symm⟩

theorem and_bit (x i : Nat) (hx : x < 18446744073709551616) : bits .and .u64 (x : Int) ((2 ^ (i % 64) : Nat) : Int) = ((x &&& 2 ^ (i % 64) : Nat) : Int) := bits_and_u64_nat _ _ hx (pow_lt i)
theorem and_ne (x i : Nat) : (((x &&& 2 ^ i : Nat) : Int) != 0) = x.testBit i := by
  have h : x &&& 2 ^ i = x / 2 ^ i % 2 * 2 ^ i := nat_bit i x
  have hp : 0 < 2 ^ i := Nat.two_pow_pos i
  rw [h, Nat.testBit_eq_decide_div_mod_eq]
  by_cases e : x / 2 ^ i % 2 = 1
  · rw [e, Nat.one_mul]
    have h3 : (((2 ^ i : Nat) : Int) != 0) = true := bne_iff_ne.2 (by omega)
    rw [h3]; rfl
  · have e0 : x / 2 ^ i % 2 = 0 := by omega
    rw [e0]; simp

set_option maxHeartbeats 1000000 in
theorem has_core (h : At w g gw n ws) (p : Nat) (hp : p < n) (m r : Nat) (b : Bool) (hm : m = 2 ^ (p % 64)) (k1 : bits .and .u64 ((ws.getD (p / 64) 0 : Nat) : Int) (m : Int) = (r : Int)) (k2 : ((r : Int) != 0) = b) :
    Calls Tryz.prog 46 #[.pointer (some ⟨g, 0, none⟩), .int .i64 p] w fun e w' => e = .returned (.bool b) ∧ ∃ k, w' = w.drewN k := by
  have hc1 := h.c1
  have hq := h.place hp
  have hc2 := h.word hq
  have hn := h.most
  have h1 : (0 : Int) ≤ p := by omega
  have h2 : (p : Int) < 65536 := by omega
  have HM := Lib.hid hm
  have H := Lib.hid h
  obtain ⟨L, hL⟩ : ∃ L, ws.length = L := ⟨_, rfl⟩
  rw [hL] at hc1 hq
  have hL2 : L ≤ 1024 := by have := h.many; omega
  clear hm h hL
  generalize ws.getD (p / 64) 0 = x at *
  have hq2 : (p : Int) / 64 < (L : Int) := by omega
  have hq3 : (0 : Int) ≤ (p : Int) / 64 := by omega
  have hq4 : ((p : Int) / 64).toNat = p / 64 := by omega
  go_enter Tryz.func46, Tryz.ntmps46
  go_wp2
  go_quiet ((first | (go_at_call 45; exact quiet_same (place_yes (H.out.drewN _) p hp)) | (go_at_call 47; exact quiet_same (bitOf_any p m (by omega) _ HM.out))))
  go_wp2
  go_ret
  exact ⟨rfl, _, rfl⟩

theorem has_yes (h : At w g gw n ws) (p : Nat) (hp : p < n) : Calls Tryz.prog 46 #[.pointer (some ⟨g, 0, none⟩), .int .i64 p] w fun e w' => e = .returned (.bool (bit ws p)) ∧ ∃ k, w' = w.drewN k :=
  has_core h p hp (2 ^ (p % 64)) (ws.getD (p / 64) 0 &&& 2 ^ (p % 64)) (bit ws p) rfl (and_bit _ _ (h.lt _)) (and_ne _ _)

set_option maxHeartbeats 1000000 in
theorem has_no (h : At w g gw n ws) (z : Int) (hz : z < 0 ∨ (n : Int) ≤ z) : Calls Tryz.prog 46 #[.pointer (some ⟨g, 0, none⟩), .int .i64 z] w fun e w' => e = .returned (.bool false) ∧ ∃ k, w' = w.drewN k := by
  have H := Lib.hid h
  clear h
  go_enter Tryz.func46, Tryz.ntmps46
  go_wp2
  go_quiet ((go_at_call 45; exact quiet_same (place_no (H.out.drewN _) z hz)))
  go_wp2
  go_ret
  exact ⟨rfl, _, rfl⟩

theorem below_drewN (w : World) (k : Nat) : Below w.heap.size w (w.drewN k) := by
  refine ⟨rfl, ?_, rfl, Nat.le_refl _, fun _ _ => rfl⟩
  rfl
end
end Go.Proofs.YtklhdilbmpndkaaGreat.Mk

namespace Go.Proofs.YtklhdilbmpndkaaGreat.Mk
set_option maxRecDepth 20000
open Go.RowKit
set_option linter.unusedVariables false
set_option linter.unusedSimpArgs false

/-- A place's bit is set. -/
def setW (ws : List Nat) (p : Nat) : List Nat := ws.set (p / 64) (ws.getD (p / 64) 0 ||| 2 ^ (p % 64))
theorem setW_len (ws : List Nat) (p : Nat) : (setW ws p).length = ws.length := by simp [setW]
theorem bit_set (ws : List Nat) (p q : Nat) (hp : p / 64 < ws.length) : bit (setW ws p) q = (decide (q = p) || bit ws q) := by
  unfold bit setW
  by_cases h : q / 64 = p / 64
  · rw [h]
    have e : (ws.set (p / 64) (ws.getD (p / 64) 0 ||| 2 ^ (p % 64))).getD (p / 64) 0 = ws.getD (p / 64) 0 ||| 2 ^ (p % 64) := by simp [List.getD, hp]
    rw [e, Nat.testBit_or, Nat.testBit_two_pow, Bool.or_comm]
    congr 1
    by_cases h2 : p % 64 = q % 64
    · have : q = p := by omega
      simp [h2, this]
    · have : ¬ q = p := by omega
      simp [h2, this]
  · have hne : ¬ q = p := by rintro rfl; exact h rfl
    have e : (ws.set (p / 64) (ws.getD (p / 64) 0 ||| 2 ^ (p % 64))).getD (q / 64) 0 = ws.getD (q / 64) 0 := by
      simp [List.getD, List.getElem?_set, Ne.symm h]
    rw [e]
    simp [hne]
theorem or_lt (x p : Nat) (hx : x < 18446744073709551616) : x ||| 2 ^ (p % 64) < 18446744073709551616 := by
  have := Nat.or_lt_two_pow (n := 64) (x := x) (y := 2 ^ (p % 64)) (by simpa using hx) (by simpa using pow_lt p)
  simpa using this

section
variable {w : World} {g gw n : Nat} {ws : List Nat}
theorem At.set (h : At w g gw n ws) (p : Nat) (hp : p < n) : At (w.setCell ⟨gw, p / 64, none⟩ (.int .u64 ((ws.getD (p / 64) 0 ||| 2 ^ (p % 64) : Nat) : Int))) g gw n (setW ws p) := by
  refine ⟨?_, ?_, by rw [setW_len]; exact h.many, h.some_, h.most, fun x hx => ?_, fun q hq => ?_⟩
  · rw [setW_len]
    exact h.own.far (p := ⟨gw, p / 64, none⟩) h.gne _
  · have := h.words.set (p / 64) (.int .u64 ((ws.getD (p / 64) 0 ||| 2 ^ (p % 64) : Nat) : Int))
    rw [setW, List.map_set]
    exact this
  · rcases List.mem_or_eq_of_mem_set hx with hx | rfl
    · exact h.fit x hx
    · exact or_lt _ _ (h.lt _)
  · rw [bit_set ws p q (h.place hp)] at hq
    simp only [Bool.or_eq_true, decide_eq_true_eq] at hq
    rcases hq with rfl | hq
    · exact hp
    · exact h.in_ q hq

set_option maxRecDepth 100000 in
set_option maxHeartbeats 1000000 in
theorem set_core (h : At w g gw n ws) (p : Nat) (hp : p < n) (m r : Nat) (hm : m = 2 ^ (p % 64)) (k1 : bits .or .u64 ((ws.getD (p / 64) 0 : Nat) : Int) (m : Int) = (r : Int)) (b : Bool) (hb : bit ws p = b) :
    Calls Tryz.prog 25 #[.pointer (some ⟨g, 0, none⟩), .int .i64 p] w fun e w' => e = .returned (.tuple #[.bool !b, .int .i64 0]) ∧ ∃ k, w' = (w.drewN k).setCell ⟨gw, p / 64, none⟩ (.int .u64 r) := by
  have hn := h.most
  have h1 : (0 : Int) ≤ p := by omega
  have h2 : (p : Int) < 65536 := by omega
  have HM := Lib.hid hm
  have H := Lib.hid h
  have HB := Lib.hid hb
  obtain ⟨L, hL⟩ : ∃ L, ws.length = L := ⟨_, rfl⟩
  have HL := Lib.hid hL
  have hq := h.place hp
  rw [hL] at hq
  have hL2 : L ≤ 1024 := by have := h.many; omega
  clear hm h hL hb
  obtain ⟨x, hx⟩ : ∃ x, ws.getD (p / 64) 0 = x := ⟨_, rfl⟩
  have HX := Lib.hid hx
  rw [hx] at k1
  clear hx
  have hq2 : (p : Int) / 64 < (L : Int) := by omega
  have hq3 : (0 : Int) ≤ (p : Int) / 64 := by omega
  have hq4 : ((p : Int) / 64).toNat = p / 64 := by omega
  go_enter Tryz.func25, Tryz.ntmps25
  go_wp2_with fail
  refine (place_yes H.out p hp).mono ?_
  rintro e w1 ⟨rfl, rfl⟩
  go_wp2_with fail
  refine (has_yes H.out p hp).mono ?_
  rintro e w2 ⟨rfl, k, rfl⟩
  rw [HB.out]
  have H2 := H.out.drewN k
  have hc1 := H2.c1
  have hc2 := H2.word (i := p / 64) (by rw [HL.out]; exact hq)
  have hf2 := H2.words.frozen (p / 64)
  rw [HL.out] at hc1
  rw [HX.out] at hc2
  clear H2
  obtain ⟨w2, hw2⟩ : ∃ w2, w.drewN k = w2 := ⟨_, rfl⟩
  rw [hw2] at hc1 hc2 hf2 ⊢
  have HW2 := Lib.hid hw2
  clear hw2
  have hq5 : IntKind.i64.wrap ((p : Int) / 64) = (p : Int) / 64 := IntWalk.i64_in _ (by omega)
  go_wp2
  go_still_tail 12, (by kernel_rfl)
  still_call ((bitOf_any p m (by omega) _ HM.out).mono fun e w' h => ⟨h.1, h.2.symm⟩)
  repeat still_step
  refine wpStill_nil ?_
  change wpList _ _ _ _ _ w2.drew
  have hc3 : w2.drew.cell? ⟨gw, p / 64, none⟩ = some (.int .u64 x) := hc2
  have hf3 : w2.drew.frozen? ⟨gw, p / 64, none⟩ = false := hf2
  obtain ⟨w3, hw3⟩ : ∃ w3, w2.drew = w3 := ⟨_, rfl⟩
  rw [hw3] at hc3 hf3 ⊢
  have HW3 := Lib.hid hw3
  clear hw3 hc1 hc2 hf2
  go_wp2
  go_ret2
  refine ⟨rfl, k + 1, ?_⟩
  rw [← HW3.out, ← HW2.out]
  rfl

theorem or_bit (x p : Nat) (hx : x < 18446744073709551616) : bits .or .u64 (x : Int) ((2 ^ (p % 64) : Nat) : Int) = ((x ||| 2 ^ (p % 64) : Nat) : Int) := bits_or_u64_nat _ _ hx (pow_lt p)

theorem set_yes (h : At w g gw n ws) (p : Nat) (hp : p < n) :
    Calls Tryz.prog 25 #[.pointer (some ⟨g, 0, none⟩), .int .i64 p] w fun e w' => e = .returned (.tuple #[.bool !(bit ws p), .int .i64 0]) ∧ At w' g gw n (setW ws p) ∧ Else g gw w w' := by
  refine (set_core h p hp _ _ rfl (or_bit _ _ (h.lt _)) _ rfl).mono ?_
  rintro e w' ⟨rfl, k, rfl⟩
  refine ⟨rfl, (h.drewN k).set p hp, ⟨rfl, rfl, rfl, ?_, fun i hi h1 h2 => ?_⟩⟩
  · simp [World.drewN]
  · rw [Below.heap_setCell _ _ _ i h2]; rfl

set_option maxHeartbeats 1000000 in
theorem set_no (h : At w g gw n ws) (z : Int) (hz : z < 0 ∨ (n : Int) ≤ z) :
    Calls Tryz.prog 25 #[.pointer (some ⟨g, 0, none⟩), .int .i64 z] w fun e w' => e = .returned (.tuple #[.bool false, .int .i64 1]) ∧ w = w' := by
  have H := Lib.hid h
  have HZ := Lib.hid hz
  clear h hz
  go_enter Tryz.func25, Tryz.ntmps25
  go_wp2_with fail
  refine (place_no H.out z HZ.out).mono ?_
  rintro e w1 ⟨rfl, rfl⟩
  go_wp2
  go_ret2
  exact ⟨rfl, rfl⟩
end
end Go.Proofs.YtklhdilbmpndkaaGreat.Mk

namespace Go.Proofs.YtklhdilbmpndkaaGreat.Mk
set_option maxRecDepth 20000
open Go.RowKit
set_option linter.unusedVariables false
set_option linter.unusedSimpArgs false

def noughts (n : Nat) : List Value := List.replicate n (.int .u64 0)
theorem noughts_eq (n : Nat) : noughts n = (List.replicate n (0 : Nat)).map (fun x => Value.int .u64 (x : Nat)) := by simp [noughts]
theorem made_one (z : Value) (n : Nat) : madeCells #[z] n = (List.replicate n z).toArray := by
  apply Array.ext
  · simp [madeCells]
  · intro i h1 h2
    simp [madeCells, Nat.mod_one]
set_option maxRecDepth 100000 in
set_option maxRecDepth 100000 in
theorem infoW : ∃ i, Tryz.prog.info? 101 = some i ∧ i.zero = some (.int .u64 0) ∧ i.size = 1 ∧ i.bytes = 8 := ⟨_, rfl, rfl, rfl, rfl⟩
theorem makeW (n : Nat) (hn : n ≤ 65536) (w : World) : (Instr.makeSlice 91 (.int .i64 (n : Int)) (.int .i64 (n : Int))).run Tryz.prog w = .ok (.slice (some ⟨w.heap.size, 0, none⟩) n n) (w.alloc (.cells (noughts n).toArray 101)) := by
  obtain ⟨i0, hi0, hz0, hz1, hz2⟩ := infoW
  have := run_make (P := Tryz.prog) w 91 101 i0 _ Tryz.underlying91 hi0 hz0 .i64 .i64 n n (by omega) (Int.le_refl _) (by rw [hz2]; omega) (by omega)
  rw [this, hz1]
  simp [Value.cells, made_one, noughts]
theorem bit_new (m p : Nat) : bit (List.replicate m 0) p = false := by
  unfold bit
  have : (List.replicate m (0 : Nat)).getD (p / 64) 0 = 0 := by
    simp [List.getD, List.getElem?_replicate]
    split <;> rfl
  rw [this]; simp

set_option maxRecDepth 100000 in
set_option maxHeartbeats 1000000 in
theorem new_yes (z : Int) (n : Nat) (hz : z = n) (w : World) (h1 : 1 ≤ n) (h2 : n ≤ 65536) :
    Calls Tryz.prog 22 #[.int .i64 z] w fun e w' => ∃ g gw, e = .returned (.tuple #[.pointer (some ⟨g, 0, none⟩), .int .i64 0]) ∧ Below w.heap.size w w' ∧ w.heap.size ≤ g ∧ w.heap.size ≤ gw ∧ At w' g gw n (List.replicate ((n + 63) / 64) 0) := by
  obtain ⟨m, hm⟩ : ∃ m, (n + 63) / 64 = m := ⟨_, rfl⟩
  have hm2 : m ≤ 1024 := by omega
  have hmk := makeW m (by omega)
  have d1 : decide (z < 1) = false := by simp; omega
  have d2 : decide (65536 < z) = false := by simp; omega
  have hd : (z + 64 - 1) / 64 = (m : Int) := by omega
  have hd' : (z + 63) / 64 = (m : Int) := by omega
  have hb1 : 1 ≤ z := by omega
  have hb2 : z ≤ 65536 := by omega
  obtain ⟨X, hX⟩ : ∃ X : Obj, X = .cells (noughts m).toArray 101 := ⟨_, rfl⟩
  have HB := Lib.hid (below_one w X)
  have hL0 : Hid (Lies (w.alloc X) w.heap.size 101 (noughts m)) := Lib.hid (by rw [hX]; exact Lies.new w 101 (noughts m))
  have HS : Hid ((w.alloc X).heap.size = w.heap.size + 1) := Lib.hid (by simp)
  have HZ := Lib.hid hz
  have HM := Lib.hid hm
  rw [← hX] at hmk
  clear hX hz hm
  go_enter Tryz.func22, Tryz.ntmps22
  go_wp2
  go_ret2
  refine ⟨w.heap.size + 1, w.heap.size, rfl, on HB.out HB.out.size (below_one _ _), by omega, Nat.le_refl _, ?_⟩
  have L1 := Lies.new (w.alloc X) 93 [.int .i64 z, .slice (some ⟨w.heap.size, 0, none⟩) m m]
  rw [HS.out] at L1
  have L0 := hL0.out.alloc (.cells [.int .i64 z, .slice (some ⟨w.heap.size, 0, none⟩) m m].toArray 93)
  refine ⟨?_, by rw [HM.out, ← noughts_eq]; exact L0, by simp, h1, h2, fun x hx => ?_, fun p hp => ?_⟩
  · rw [HM.out, ← HZ.out]; simpa using L1
  · have := (List.mem_replicate.1 hx).2; omega
  · rw [bit_new] at hp; cases hp

set_option maxRecDepth 100000 in
set_option maxHeartbeats 1000000 in
theorem new_no (n : Int) (w : World) (h : n < 1 ∨ 65536 < n) :
    Calls Tryz.prog 22 #[.int .i64 n] w fun e w' => e = .returned (.tuple #[.pointer none, .int .i64 1]) ∧ w = w' := by
  by_cases h1 : n < 1
  · have d1 : decide (n < 1) = true := by simp; omega
    go_enter Tryz.func22, Tryz.ntmps22
    go_wp2
    go_ret2
    exact ⟨rfl, rfl⟩
  · have d1 : decide (n < 1) = false := by simp; omega
    have d2 : decide (65536 < n) = true := by simp; omega
    go_enter Tryz.func22, Tryz.ntmps22
    go_wp2
    go_ret2
    exact ⟨rfl, rfl⟩

theorem lies_cells {g : Nat} {t : TypeId} : ∀ (vs pre cur : List Value) (o : Nat) (w : World), Lies w g t (pre ++ cur) → pre.length = o → vs.length = cur.length → Lies (w.setCells g o vs) g t (pre ++ vs)
  | [], pre, cur, o, w, h, _, hl => by
    have : cur = [] := by cases cur with | nil => rfl | cons => simp at hl
    subst this; exact h
  | v :: vs, pre, cur, o, w, h, ho, hl => by
    cases cur with
    | nil => simp at hl
    | cons c cur =>
      have h1 := h.set o v
      have e : (pre ++ c :: cur).set o v = (pre ++ [v]) ++ cur := by subst ho; simp
      rw [e] at h1
      have h2 := lies_cells vs (pre ++ [v]) cur (o + 1) _ h1 (by simp [ho]) (by simpa using hl)
      have e2 : (pre ++ [v]) ++ vs = pre ++ v :: vs := by simp
      rw [e2] at h2
      exact h2
theorem else_cells {g gw : Nat} : ∀ (vs : List Value) (o : Nat) (w : World), Else g gw w (w.setCells gw o vs)
  | [], o, w => Else.refl _ _ _
  | v :: vs, o, w => Else.trans (b := w.setCell ⟨gw, o, none⟩ v) ⟨rfl, rfl, rfl, by simp, fun i hi h1 h2 => Below.heap_setCell w ⟨gw, o, none⟩ v i h2⟩ (else_cells vs (o + 1) _)
theorem own_cells {g gw : Nat} {t : TypeId} {cs : List Value} (hne : g ≠ gw) : ∀ (vs : List Value) (o : Nat) (w : World), Lies w g t cs → Lies (w.setCells gw o vs) g t cs
  | [], o, w, h => h
  | v :: vs, o, w, h => own_cells hne vs (o + 1) _ (h.far (p := ⟨gw, o, none⟩) hne v)

section
variable {w : World} {g gw n : Nat} {ws : List Nat}
end
end Go.Proofs.YtklhdilbmpndkaaGreat.Mk

namespace Go.Proofs.YtklhdilbmpndkaaGreat.Mk
set_option maxRecDepth 20000
open Go.ChangeShapes Go.WideShapes Go.ChangeAt Go.RowKit Go.Deep
set_option linter.unusedVariables false
set_option linter.unusedSimpArgs false

theorem At.low {w w' : World} {g gw n : Nat} {ws : List Nat} (h : At w g gw n ws) {B : Nat} (he : Else g gw w w') (h1 : B ≤ g) (h2 : B ≤ gw) : Below B w w' := he.below (by have := h.own.lt; omega) h1 h2

/-- A slice of numbers reads as a list. -/
def Row (k : IntKind) (w : World) (A : Option Addr) (zs : List Int) : Prop :=
  0 < zs.length → ∃ ad, A = some ad ∧ ad.block < w.heap.size ∧ ∀ j v, (zs.map (Value.int k))[j]? = some v → w.cell? (ad.add j) = some v
theorem block_add (a : Addr) (n : Nat) : (a.add n).block = a.block := by unfold Addr.add; split <;> rfl
theorem Row.kept {k : IntKind} {w w' : World} {A : Option Addr} {zs : List Int} (h : Row k w A zs) (hb : Below w.heap.size w w') : Row k w' A zs := fun h0 => by
  obtain ⟨ad, e, hl, hc⟩ := h h0
  exact ⟨ad, e, Nat.lt_of_lt_of_le hl hb.size, fun j v hv => (hb.cell (by rw [block_add]; exact hl)).trans (hc j v hv)⟩
theorem Row.at_ {k : IntKind} {w : World} {A : Option Addr} {zs : List Int} (h : Row k w A zs) {i : Nat} (hi : i < zs.length) : ∃ ad, A = some ad ∧ w.cell? (ad.add i) = some (.int k zs[i]) := by
  obtain ⟨ad, e, hl, hc⟩ := h (by omega)
  exact ⟨ad, e, hc i _ (by simp [hi])⟩

/-- What a list of numbers that came in is: as many as are told, they lie there, and each fits. -/
def Came (k : IntKind) (W : World) (a : Option Addr) (len : Nat) (zs : List Int) : Prop :=
  zs.length = len ∧ Row k W a zs ∧ ∀ z ∈ zs, k.min ≤ z ∧ z ≤ k.max

theorem reads_any {k : IntKind} {t e : TypeId} (ht : Tryz.prog.underlying t = some (.slice e)) (he : Tryz.prog.underlying e = some (.int k)) (hc1 : Tryz.prog.cellsOf e = 1)
    {H : Type} {enc : TypeId × Value → H} {W : World} {sp : Nat → Bool} {held : Bool} {a : Option Addr} {len cap : Nat} {d : DataW H} {p : List MemPlace} (h : DataW.Trod enc Tryz.prog W 0 sp held t (.slice a len cap) d p) :
    ∃ zs, Came k W a len zs := by
  obtain ⟨fuel, hf⟩ := h
  rcases open_ints ht he hc1 hf with ⟨hcs, _⟩ | ⟨x, l, c, zs, hcs, _, hl, hm, hz, _, hcell, hwz⟩
  · simp [Value.cells] at hcs
    obtain ⟨rfl, rfl, rfl⟩ := hcs
    exact ⟨[], rfl, fun h => by simp at h, fun i => by simp⟩
  · simp [Value.cells] at hcs
    obtain ⟨rfl, rfl, rfl⟩ := hcs
    have hz' : len ≤ zs.length := by rw [hz]; split <;> omega
    refine ⟨zs.take len, by simp; omega, fun h0 => ⟨x, rfl, ?_, fun j v hv => ?_⟩, fun z hz => ?_⟩
    · have h1 : 0 < zs.length := by simp at h0; omega
      have := hcell 0 h1
      exact World.block_lt_of_cell? W _ this
    · simp only [List.getElem?_map, List.getElem?_take] at hv
      split at hv
      · have hj : j < zs.length := by omega
        rw [List.getElem?_eq_getElem hj] at hv
        simp at hv
        rw [hcell j hj, ← hv]
        simp [List.getD, hj]
      · simp at hv
    · have := hwz z (List.mem_of_mem_take hz)
      simpa [Lit.wf] using this

theorem reads_bytes {H : Type} {enc : TypeId × Value → H} {W : World} {sp : Nat → Bool} {held : Bool} {a : Option Addr} {len cap : Nat} {d : DataW H} {p : List MemPlace} (h : DataW.Trod enc Tryz.prog W 0 sp held 23 (.slice a len cap) d p) :
    ∃ zs, Came .u8 W a len zs := reads_any Tryz.underlying23 Tryz.underlying5 (by kernel_rfl) h

/-- A number of a byte's, as a place. -/
theorem rem_place (z : Int) (n : Nat) (h0 : 0 ≤ z) (hn : 1 ≤ n) : ∃ p : Nat, z % (n : Int) = p ∧ p < n := by
  have h1 := Int.emod_nonneg z (show (n : Int) ≠ 0 by omega)
  have h2 := Int.emod_lt_of_pos z (show (0 : Int) < n by omega)
  exact ⟨(z % (n : Int)).toNat, by omega, by omega⟩
end Go.Proofs.YtklhdilbmpndkaaGreat.Mk
