/- A copy of words: what 'copied' and 'Words' answer; whether two lists of words are the same. How a head is laid, and noughts behind it: 'lay'. -/
import Derived.Test.YtklhdilbmpndkaaGreatLook
import Derived.Laws.MakeOwn
import Derived.Laws.CopyOwn
import Derived.Maps.AppendAt
import Derived.Deep.QuietTactic
import Derived.BigQuiet
import Derived.Lib.SliceRun
import Derived.Lib.Hide
import Derived.Deep.RegionHeld3
import Derived.Deep.RegionLaw
namespace Go.Proofs.YtklhdilbmpndkaaGreat
set_option maxRecDepth 20000
open Go.RowKit
set_option linter.unusedVariables false

/-- Noughts; and none that is set. -/
def noughts (n : Nat) : List Value := List.replicate n (.int .i64 0)
def noBits (n : Nat) : List Value := List.replicate n (.bool false)
theorem noughts_length (n : Nat) : (noughts n).length = n := by simp [noughts]
theorem noBits_length (n : Nat) : (noBits n).length = n := by simp [noBits]
theorem noughts_eq (n : Nat) : noughts n = (List.replicate n (0 : Int)).map (Value.int .i64) := by simp [noughts]
theorem noBits_eq (n : Nat) : noBits n = (List.replicate n false).map Value.bool := by simp [noBits]

theorem made_one (z : Value) (n : Nat) : madeCells #[z] n = (List.replicate n z).toArray := by
  apply Array.ext
  · simp [madeCells]
  · intro i h1 h2
    simp [madeCells, Nat.mod_one]

theorem info3 : (Tryz.prog.info? 3).map (fun i => (i.zero, i.size, i.bytes)) = some (some (.int .i64 0), 1, 8) := by kernel_rfl
theorem info4 : (Tryz.prog.info? 4).map (fun i => (i.zero, i.size, i.bytes)) = some (some (.bool false), 1, 1) := by kernel_rfl

theorem make51 (n : Nat) (hn : n ≤ 65536) (w : World) : (Instr.makeSlice 30 (.int .i64 (n : Int)) (.int .i64 (n : Int))).run Tryz.prog w = .ok (.slice (some ⟨w.heap.size, 0, none⟩) n n) (w.alloc (.cells (noughts n).toArray 3)) := by
  obtain ⟨i0, hi0, hz0, hz1, hz2⟩ := info_parts info3
  have := run_make (P := Tryz.prog) w 30 3 i0 _ Tryz.underlying30 hi0 hz0 .i64 .i64 n n (by omega) (Int.le_refl _) (by rw [hz2]; omega) (by omega)
  rw [this, hz1]
  simp [Value.cells, made_one, noughts]
theorem make75 (n : Nat) (hn : n ≤ 65536) (w : World) : (Instr.makeSlice 35 (.int .i64 (n : Int)) (.int .i64 (n : Int))).run Tryz.prog w = .ok (.slice (some ⟨w.heap.size, 0, none⟩) n n) (w.alloc (.cells (noBits n).toArray 4)) := by
  obtain ⟨i0, hi0, hz0, hz1, hz2⟩ := info_parts info4
  have := run_make (P := Tryz.prog) w 35 4 i0 _ Tryz.underlying35 hi0 hz0 .i64 .i64 n n (by omega) (Int.le_refl _) (by rw [hz2]; omega) (by omega)
  rw [this, hz1]
  simp [Value.cells, made_one, noBits]

/-- A slice of numbers reads as a list. -/
def Row (w : World) (A : Option Addr) (zs : List Int) : Prop :=
  0 < zs.length → ∃ ad, A = some ad ∧ ad.block < w.heap.size ∧ ∀ j v, (zs.map (Value.int .i64))[j]? = some v → w.cell? (ad.add j) = some v

theorem block_add (a : Addr) (n : Nat) : (a.add n).block = a.block := by unfold Addr.add; split <;> rfl

theorem Row.kept {w w' : World} {A : Option Addr} {zs : List Int} (h : Row w A zs) (hb : Below w.heap.size w w') : Row w' A zs := fun h0 => by
  obtain ⟨ad, e, hl, hc⟩ := h h0
  exact ⟨ad, e, Nat.lt_of_lt_of_le hl hb.size, fun j v hv => (hb.cell (by rw [block_add]; exact hl)).trans (hc j v hv)⟩
theorem Row.of_lies {w : World} {q : Nat} {zs : List Int} (h : Lies w q 3 (zs.map (Value.int .i64))) : Row w (some ⟨q, 0, none⟩) zs := fun _ =>
  ⟨_, rfl, h.lt, fun j v hv => by
    have e : (⟨q, 0, none⟩ : Addr).add j = ⟨q, j, none⟩ := by unfold Addr.add; split <;> simp_all
    rw [e, h.cell j]; exact hv⟩
theorem Row.at_ {w : World} {A : Option Addr} {zs : List Int} (h : Row w A zs) {i : Nat} (hi : i < zs.length) : ∃ ad, A = some ad ∧ w.cell? (ad.add i) = some (.int .i64 (zs.getD i 0)) := by
  obtain ⟨ad, e, hl, hc⟩ := h (by omega)
  exact ⟨ad, e, hc i _ (by simp [List.getD, hi])⟩

/-- The built-in copy, onto a new block that is as long. -/
theorem run_copy51 (A : Option Addr) (c : Nat) (zs : List Int) (w : World) (hr : Row w A zs) :
    ∃ w2, (Builtin.copy_ #[30, 30] 3 #[.slice (some ⟨w.heap.size, 0, none⟩) zs.length zs.length, .slice A zs.length c]).run Tryz.prog (w.alloc (.cells (noughts zs.length).toArray 3)) = .ok (goInt zs.length) w2 ∧
      Lies w2 w.heap.size 3 (zs.map (Value.int .i64)) ∧ Below w.heap.size w w2 := by
  have hB : Below w.heap.size w (w.alloc (.cells (noughts zs.length).toArray 3)) := (Below.refl _ _).alloc (Nat.le_refl _) _
  rcases Nat.eq_zero_or_pos zs.length with h0 | h0
  · obtain rfl : zs = [] := List.eq_nil_of_length_eq_zero h0
    exact ⟨_, run_copy_none (P := Tryz.prog) _ 30 30 3 3 _ _ _ _ _ _ Tryz.underlying30 (by kernel_rfl) rfl, Lies.new w 3 (noughts 0), hB⟩
  · obtain ⟨ad, rfl, hl, hc⟩ := hr h0
    have hg : (w.alloc (.cells (noughts zs.length).toArray 3)).heap[w.heap.size]? = some (.cells (noughts zs.length).toArray 3 (0, 0)) := Lies.new w 3 (noughts zs.length)
    have hrun := run_copy_row (P := Tryz.prog) (w.alloc (.cells (noughts zs.length).toArray 3)) 30 30 3 3 w.heap.size 0 zs.length zs.length ad zs.length c _ 3 (zs.map (Value.int .i64)) Tryz.underlying30 (by kernel_rfl) hg (by simp)
      (fun j v hv => by rw [World.cell?_alloc_lt _ _ _ (by rw [block_add]; exact hl)]; exact hc j v hv) (by simp [noughts_length]) (fun v hv => by simp at hv; obtain ⟨a, _, rfl⟩ := hv; rfl)
    refine ⟨_, by simpa using hrun, ?_, below_setRow hB (Nat.le_refl _) _⟩
    unfold Lies
    rw [setRow_heap _ _ _ _ _ _ hg]
    simp [noughts]

theorem take_next {xs ys : List Int} {k : Nat} (h : xs.take k = ys.take k) (hx : k < xs.length) (hy : k < ys.length) (e : xs.getD k 0 = ys.getD k 0) : xs.take (k + 1) = ys.take (k + 1) := by
  rw [List.take_succ_eq_append_getElem hx, List.take_succ_eq_append_getElem hy, h]
  simp [List.getD, hx, hy] at e
  rw [e]
theorem below_draws (w : World) (n : Nat) : Below w.heap.size w (w.drewN n) := ⟨rfl, rfl, rfl, Nat.le_refl _, fun _ _ => rfl⟩

end Go.Proofs.YtklhdilbmpndkaaGreat

namespace Go.Proofs.YtklhdilbmpndkaaGreat
set_option maxRecDepth 20000
open Go.RowKit
set_option linter.unusedVariables false

/-- All but one block is as it was. -/
structure But (g : Nat) (w w' : World) : Prop where
  os : w'.os = w.os
  tape : w'.tape = w.tape
  output : w'.output = w.output
  size : w'.heap.size = w.heap.size
  block : ∀ k, k ≠ g → w'.heap[k]? = w.heap[k]?

theorem But.lies {g b : Nat} {w w' : World} {t : TypeId} {cs : List Value} (h : But g w w') (hl : Lies w b t cs) (h1 : b ≠ g) : Lies w' b t cs := hl.of_block (h.block b h1)

/-- Words, with noughts from a place on. -/
def cleared (zs : List Int) (i n : Nat) : List Int := zs.take i ++ (List.replicate n 0 ++ zs.drop (i + n))
theorem cleared_length (zs : List Int) (i n : Nat) (h : i + n ≤ zs.length) : (cleared zs i n).length = zs.length := by simp [cleared]; omega

theorem zero3 (w : World) : (zeroValue 3).run Tryz.prog w = .ok (.int .i64 0) w := by
  obtain ⟨i0, hi0, hz0, hz1, hz2⟩ := info_parts info3
  simp [zeroValue, typeInfo, hi0, hz0]

theorem run_clear51 (W : World) (gw i n c : Nat) (zs : List Int) (hL : Lies W gw 3 (zs.map (Value.int .i64))) (hn : 0 < n) (hfit : i + n ≤ zs.length) (ty : TypeId) :
    ∃ W2, (Builtin.clear_ #[30] ty #[.slice (some ⟨gw, i, none⟩) n c]).run Tryz.prog W = .ok (.tuple #[]) W2 ∧ Lies W2 gw 3 ((cleared zs i n).map (Value.int .i64)) ∧ But gw W W2 := by
  have hzc : (Builtin.zeroCells (Value.int .i64 0).cells n).toList = List.replicate n (Value.int .i64 0) := by
    simp [Builtin.zeroCells, Value.cells]
    apply List.ext_getElem
    · simp
    · intro i h1 h2
      simp [Nat.mod_one]
  have hst := run_storeCells_at Tryz.prog gw i 3 (List.replicate n (Value.int .i64 0)) 0 _ W hL (by simpa using hfit) (by intro v hv'; rw [List.eq_of_mem_replicate hv']; rfl)
  obtain ⟨m, rfl⟩ : ∃ m, n = m + 1 := ⟨n - 1, by omega⟩
  refine ⟨W.setRow gw (List.take i (zs.map (Value.int .i64)) ++ (List.replicate (m + 1) (Value.int .i64 0) ++ List.drop (i + (m + 1)) (zs.map (Value.int .i64)))).toArray,
    by simp [Builtin.clear_, run_underlying Tryz.underlying30, hzc, hst], ?_, ⟨rfl, rfl, rfl, by simp [World.setRow], fun k hk => setRow_other W gw k _ hk⟩⟩
  unfold Lies
  rw [setRow_heap _ _ _ _ _ _ hL]
  simp [cleared]

theorem step_clear51 {ops : Array Oper} {o : Oper} {a : Act} {W : World} {K : Act → World → Prop} {Q : Exit → Act → World → Prop} {E : Prop} (hgd : o.guard = none) (x : Operand)
    (ho : o.op = .call { callee := .builtin .clear, args := #[x], argTypes := #[30] }) (gw i n c : Nat) (hx : a.eval x = .slice (some ⟨gw, i, none⟩) n c) (zs : List Int) (hL : Lies W gw 3 (zs.map (Value.int .i64))) (hn : 0 < n) (hfit : i + n ≤ zs.length)
    (h : ∀ W2, Lies W2 gw 3 ((cleared zs i n).map (Value.int .i64)) → But gw W W2 → K (a.put o.dst (.tuple #[])) W2) :
    if Region.wanted o (yielded ops a.tmps) = true then Oper.wp Tryz.prog o a W K Q else E := by
  have hw : Region.wanted o (yielded ops a.tmps) = true := by simp [Region.wanted, hgd]
  rw [if_pos hw]
  obtain ⟨W2, hrun, h1, h2⟩ := run_clear51 W gw i n c zs hL hn hfit o.type
  unfold Oper.wp
  simp [execOp, ho, resolve, invoke, builtin, hx, hrun, Result.andThen]
  exact h W2 h1 h2

theorem far_cell {w : World} {p q : Addr} (u : Value) (h : q.block ≠ p.block) {v : Value} (hc : w.cell? q = some v) : (w.setCell p u).cell? q = some v := by
  rw [World.cell?_of_block (w := w) (Below.heap_setCell w p u q.block h)]; exact hc

/-- Words with a head at a place, and noughts behind it. -/
def laid (zs : List Int) (i l : Nat) (n : Int) : List Int := (cleared zs i (1 + l)).set i n

set_option maxHeartbeats 1000000 in
theorem lay_any {w : World} {g gw gb : Nat} {zs : List Int} {top : Nat} {bs : List Bool} (h : HeapAt w g gw gb zs top bs) (i l : Nat) (k p : Int) (hg : goodB k l p = true) (hi : i + (1 + l) ≤ zs.length) :
    Calls Tryz.prog 75 #[.pointer (some ⟨g, 0, none⟩), .int .i64 i, .agg #[.int .i64 k, .int .i64 l, .int .i64 p]] w fun e w' =>
      e = .returned (.tuple #[]) ∧ HeapAt w' g gw gb (laid zs i l (packW k l p)) top (bs.set i true) ∧ Else g gw gb w w' := by
  have hc0 := h.c0
  have hc2 := h.c2
  have hlt := h.own.lt
  have hl4 : l ≤ 4095 := by have := (good_iff k l p).1 hg; omega
  have hm := h.most
  have b1 : (0 : Int) ≤ (i : Int) := by omega
  have b2 : (i : Int) ≤ (i : Int) + (1 + (l : Int)) := by omega
  have b3 : (i : Int) + (1 + (l : Int)) ≤ (zs.length : Int) := by omega
  have b4 : ((i : Int) + (1 + (l : Int))).toNat = i + (1 + l) := by omega
  have b5 : IntKind.i64.wrap ((i : Int) + (1 + (l : Int))) = (i : Int) + (1 + (l : Int)) := IntWalk.i64_in _ (by omega)
  have b6 : ¬ zs.length = i := by omega
  have b7 : (0 : Int) ≤ (i : Int) + (1 + (l : Int)) := by omega
  obtain ⟨W2, hcl, hL2, hB2⟩ := run_clear51 (((w.alloc (.cells #[.int .i64 k, .int .i64 l, .int .i64 p] 64)).alloc (.cells #[.int .i64 k, .int .i64 l, .int .i64 p] 64)).drew) gw i (1 + l) (zs.length - i) zs (((h.words.alloc _).alloc _).drew) (by omega) hi 0
  have hne1 : g ≠ gw := h.own.apart h.words (by decide)
  have hne2 : gb ≠ gw := h.begins.apart h.words (by decide)
  have own2 := hB2.lies (((h.own.alloc _).alloc _).drew) hne1
  have beg2 := hB2.lies (((h.begins.alloc _).alloc _).drew) hne2
  have box2 := hB2.lies (((Lies.new w 64 [.int .i64 k, .int .i64 l, .int .i64 p]).alloc (.cells #[.int .i64 k, .int .i64 l, .int .i64 p] 64)).drew) (by have := h.words.lt; omega)
  have x0 : W2.cell? ⟨w.heap.size, 0, none⟩ = some (.int .i64 k) := box2.cell 0
  have x1 : W2.cell? ⟨w.heap.size, 1, none⟩ = some (.int .i64 l) := box2.cell 1
  have x2 : W2.cell? ⟨w.heap.size, 2, none⟩ = some (.int .i64 p) := box2.cell 2
  have y0 : W2.cell? ⟨g, 0, none⟩ = some (.slice (some ⟨gw, 0, none⟩) zs.length zs.length) := own2.cell 0
  have hsz : W2.heap.size = w.heap.size + 2 := by have := hB2.size; simpa using this
  go_enter Tryz.func75, Tryz.ntmps75
  go_wp2_with fail
  go_region_held3 (fun W => W.cell? ⟨g, 0, none⟩ = some (.slice (some ⟨gw, 0, none⟩) zs.length zs.length) ∧ W.cell? ⟨w.heap.size, 0, none⟩ = some (.int .i64 k) ∧ W.cell? ⟨w.heap.size, 1, none⟩ = some (.int .i64 l) ∧ W.cell? ⟨w.heap.size, 2, none⟩ = some (.int .i64 p))
    (first | go_keep)
    ((first
    | (go_at_call 74; refine (room_any _ _ _ _ (by omega) (by omega)).mono ?_; rintro e w' ⟨rfl, rfl⟩)
    | fail))
  clear hcl hc0 hc2 b2 b3 b4 b5 b7
  have z1 : g < W2.heap.size := own2.lt
  have z2 : gw < W2.heap.size := hL2.lt
  have z3 : w.heap.size < W2.heap.size := box2.lt
  have z4 : gb < W2.heap.size := beg2.lt
  clear hsz
  have hcl : (cleared zs i (1 + l)).length = zs.length := cleared_length _ _ _ hi
  obtain ⟨v0, hv0⟩ : ∃ v0, W2.cell? ⟨gw, i, none⟩ = some v0 := by
    rw [hL2.cell i]
    exact ⟨_, List.getElem?_eq_getElem (by simp [hcl]; omega)⟩
  have hf0 : W2.frozen? ⟨gw, i, none⟩ = false := hL2.frozen i
  have HC := Lib.hid hcl
  clear hcl
  have b8 : (i : Int) < (zs.length : Int) := by omega
  have hne3 : w.heap.size ≠ gw := by have := h.words.lt; omega
  go_wp2_with fail
  go_region_held3 (fun W => W.cell? ⟨g, 0, none⟩ = some (.slice (some ⟨gw, 0, none⟩) zs.length zs.length) ∧ W.cell? ⟨w.heap.size, 0, none⟩ = some (.int .i64 k) ∧ W.cell? ⟨w.heap.size, 1, none⟩ = some (.int .i64 l) ∧ W.cell? ⟨w.heap.size, 2, none⟩ = some (.int .i64 p))
    (first | go_keep | (refine ⟨?_, ?_, ?_, ?_⟩ <;> first | exact (hk3 _ _ z1).trans y0 | exact (hk3 _ _ z3).trans x0 | exact (hk3 _ _ z3).trans x1 | exact (hk3 _ _ z3).trans x2 | exact far_cell _ hne1 ((hk3 _ _ z1).trans y0) | exact far_cell _ hne3 ((hk3 _ _ z3).trans x0) | exact far_cell _ hne3 ((hk3 _ _ z3).trans x1) | exact far_cell _ hne3 ((hk3 _ _ z3).trans x2)))
    ((first
    | (go_at_call 101; refine (pack_yes _ _ _ _ hg).mono ?_; rintro e w3 ⟨rfl, hb3⟩; obtain ⟨hk3, hf3⟩ := kept hb3; have hc3 := (hk3 gw i z2).trans hv0; have hz3 := (hf3 gw i z2).trans hf0)
    | fail))
  have L4 := (hL2.drew.below hb3 z2).set i (.int .i64 (packW k l p))
  have own4 := (own2.drew.below hb3 z1).far (p := ⟨gw, i, none⟩) hne1 (.int .i64 (packW k l p))
  have beg4 := (beg2.drew.below hb3 z4).far (p := ⟨gw, i, none⟩) hne2 (.int .i64 (packW k l p))
  have E3 : Else g gw gb w (w3.setCell ⟨gw, i, none⟩ (.int .i64 (packW k l p))) := by
    refine Else.trans (b := w3) (Else.trans (b := W2) ⟨hB2.os, hB2.tape, hB2.output, by have := hB2.size; simp at this; omega, fun j hj h1 h2 h3 => ?_⟩ ⟨hb3.os, hb3.tape, hb3.output, hb3.size, fun j hj _ _ _ => hb3.block j hj⟩)
      ⟨rfl, rfl, rfl, by simp [World.setCell], fun j hj h1 h2 h3 => Below.heap_setCell _ _ _ _ h2⟩
    rw [hB2.block j h2]
    exact (Below.heap_alloc _ _ j (by simp; omega)).trans (Below.heap_alloc _ _ j hj)
  clear hk3 hf3 hc3 hz3 hb3 x0 x1 x2 y0 box2 hL2 own2 beg2 hB2
  generalize w3.setCell ⟨gw, i, none⟩ (.int .i64 (packW k l p)) = W4 at *
  have hbl : bs.length = zs.length := h.same
  have u2 : W4.cell? ⟨g, 2, none⟩ = some (.slice (some ⟨gb, 0, none⟩) zs.length zs.length) := own4.cell 2
  obtain ⟨v1, hv1⟩ : ∃ v1, W4.cell? ⟨gb, i, none⟩ = some v1 := by
    rw [beg4.cell i]
    exact ⟨_, List.getElem?_eq_getElem (by simp [hbl]; omega)⟩
  have hf1 : W4.frozen? ⟨gb, i, none⟩ = false := beg4.frozen i
  have HB := Lib.hid hbl
  clear hbl
  go_wp2
  go_end0
  have hll : (laid zs i l (packW k l p)).length = zs.length := by simp [laid, HC.out]
  have hne4 : g ≠ gb := h.own.apart h.begins (by decide)
  refine ⟨rfl, ⟨?_, ?_, ?_, ?_, ?_, ?_, ?_⟩, E3.trans ⟨rfl, rfl, rfl, by simp [World.setCell], fun j hj h1 h2 h3 => Below.heap_setCell _ _ _ _ h3⟩⟩
  · rw [hll]; exact own4.far hne4 _
  · have := L4.far (p := ⟨gb, i, none⟩) hne2.symm (.bool true)
    simpa [laid, List.map_set] using this
  · have := beg4.set i (.bool true)
    simpa [List.map_set] using this
  · rw [hll]; simpa using HB.out
  · rw [hll]; exact h.some_
  · rw [hll]; exact h.most
  · rw [hll]; exact h.fits
end Go.Proofs.YtklhdilbmpndkaaGreat
