/- A copy of words: what 'copied' and 'Words' answer; whether two lists of words are the same. How a head is laid, and noughts behind it: 'lay'. What Place does. What find does: it tells whether just objects stand ahead of the top, and notes where they begin. What New and Of do. The walk of HeapTails: it returns true, and turns nothing that was there. -/
import Derived.Test.YtibfhpbklnpknaaGa
import Derived.Laws.MakeOwn
import Derived.Laws.CopyOwn
import Derived.Maps.AppendAt
import Derived.Deep.QuietTactic
import Derived.BigQuiet
import Derived.Lib.SliceRun
import Derived.Lib.Hide
import Derived.Deep.RegionHeld3
import Derived.Deep.RegionLaw
import Derived.Deep.RegionWith
namespace Go.Proofs.Ytibfhpbklnpknaa
open Go.RowKit
set_option linter.unusedVariables false

/-- Noughts; and none that is set. -/
def noughts (n : Nat) : List Value := List.replicate n (.int .i64 0)
def noBits (n : Nat) : List Value := List.replicate n (.bool false)
theorem noughts_length (n : Nat) : (noughts n).length = n := by simp [noughts]
theorem noBits_length (n : Nat) : (noBits n).length = n := by simp [noBits]
theorem noughts_eq (n : Nat) : noughts n = (List.replicate n (0 : Int)).map (Value.int .i64) := by simp [noughts]
theorem noBits_eq (n : Nat) : noBits n = (List.replicate n false).map Value.bool := by simp [noBits]

theorem made_one (z : Value) (n : Nat) : madeCells #[z] n = (List.replicate n z).toArray := by
  apply Array.ext
  · simp [madeCells]
  · intro i h1 h2
    simp [madeCells, Nat.mod_one]

theorem info3 : (Try.prog.info? 3).map (fun i => (i.zero, i.size, i.bytes)) = some (some (.int .i64 0), 1, 8) := by kernel_rfl
theorem info4 : (Try.prog.info? 4).map (fun i => (i.zero, i.size, i.bytes)) = some (some (.bool false), 1, 1) := by kernel_rfl

theorem make51 (n : Nat) (hn : n ≤ 65536) (w : World) : (Instr.makeSlice 37 (.int .i64 (n : Int)) (.int .i64 (n : Int))).run Try.prog w = .ok (.slice (some ⟨w.heap.size, 0, none⟩) n n) (w.alloc (.cells (noughts n).toArray 3)) := by
  obtain ⟨i0, hi0, hz0, hz1, hz2⟩ := info_parts info3
  have := run_make (P := Try.prog) w 37 3 i0 _ Try.underlying37 hi0 hz0 .i64 .i64 n n (by omega) (Int.le_refl _) (by rw [hz2]; omega) (by omega)
  rw [this, hz1]
  simp [Value.cells, made_one, noughts]
theorem make75 (n : Nat) (hn : n ≤ 65536) (w : World) : (Instr.makeSlice 56 (.int .i64 (n : Int)) (.int .i64 (n : Int))).run Try.prog w = .ok (.slice (some ⟨w.heap.size, 0, none⟩) n n) (w.alloc (.cells (noBits n).toArray 4)) := by
  obtain ⟨i0, hi0, hz0, hz1, hz2⟩ := info_parts info4
  have := run_make (P := Try.prog) w 56 4 i0 _ Try.underlying56 hi0 hz0 .i64 .i64 n n (by omega) (Int.le_refl _) (by rw [hz2]; omega) (by omega)
  rw [this, hz1]
  simp [Value.cells, made_one, noBits]

/-- A slice of numbers reads as a list. -/
def Row (w : World) (A : Option Addr) (zs : List Int) : Prop :=
  0 < zs.length → ∃ ad, A = some ad ∧ ad.block < w.heap.size ∧ ∀ j v, (zs.map (Value.int .i64))[j]? = some v → w.cell? (ad.add j) = some v

theorem block_add (a : Addr) (n : Nat) : (a.add n).block = a.block := by unfold Addr.add; split <;> rfl

theorem Row.kept {w w' : World} {A : Option Addr} {zs : List Int} (h : Row w A zs) (hb : Below w.heap.size w w') : Row w' A zs := fun h0 => by
  obtain ⟨ad, e, hl, hc⟩ := h h0
  exact ⟨ad, e, Nat.lt_of_lt_of_le hl hb.size, fun j v hv => (hb.cell (by rw [block_add]; exact hl)).trans (hc j v hv)⟩
theorem Row.of_lies {w : World} {q : Nat} {zs : List Int} (h : Lies w q 3 (zs.map (Value.int .i64))) : Row w (some ⟨q, 0, none⟩) zs := fun _ =>
  ⟨_, rfl, h.lt, fun j v hv => by
    have e : (⟨q, 0, none⟩ : Addr).add j = ⟨q, j, none⟩ := by unfold Addr.add; split <;> simp_all
    rw [e, h.cell j]; exact hv⟩
theorem Row.at_ {w : World} {A : Option Addr} {zs : List Int} (h : Row w A zs) {i : Nat} (hi : i < zs.length) : ∃ ad, A = some ad ∧ w.cell? (ad.add i) = some (.int .i64 (zs.getD i 0)) := by
  obtain ⟨ad, e, hl, hc⟩ := h (by omega)
  exact ⟨ad, e, hc i _ (by simp [List.getD, hi])⟩

/-- The built-in copy, onto a new block that is as long. -/
theorem run_copy51 (A : Option Addr) (c : Nat) (zs : List Int) (w : World) (hr : Row w A zs) :
    ∃ w2, (Builtin.copy_ #[37, 37] 3 #[.slice (some ⟨w.heap.size, 0, none⟩) zs.length zs.length, .slice A zs.length c]).run Try.prog (w.alloc (.cells (noughts zs.length).toArray 3)) = .ok (goInt zs.length) w2 ∧
      Lies w2 w.heap.size 3 (zs.map (Value.int .i64)) ∧ Below w.heap.size w w2 := by
  have hB : Below w.heap.size w (w.alloc (.cells (noughts zs.length).toArray 3)) := (Below.refl _ _).alloc (Nat.le_refl _) _
  rcases Nat.eq_zero_or_pos zs.length with h0 | h0
  · obtain rfl : zs = [] := List.eq_nil_of_length_eq_zero h0
    exact ⟨_, run_copy_none (P := Try.prog) _ 37 37 3 3 _ _ _ _ _ _ Try.underlying37 (by kernel_rfl) rfl, Lies.new w 3 (noughts 0), hB⟩
  · obtain ⟨ad, rfl, hl, hc⟩ := hr h0
    have hg : (w.alloc (.cells (noughts zs.length).toArray 3)).heap[w.heap.size]? = some (.cells (noughts zs.length).toArray 3 (0, 0)) := Lies.new w 3 (noughts zs.length)
    have hrun := run_copy_row (P := Try.prog) (w.alloc (.cells (noughts zs.length).toArray 3)) 37 37 3 3 w.heap.size 0 zs.length zs.length ad zs.length c _ 3 (zs.map (Value.int .i64)) Try.underlying37 (by kernel_rfl) hg (by simp)
      (fun j v hv => by rw [World.cell?_alloc_lt _ _ _ (by rw [block_add]; exact hl)]; exact hc j v hv) (by simp [noughts_length]) (fun v hv => by simp at hv; obtain ⟨a, _, rfl⟩ := hv; rfl)
    refine ⟨_, by simpa using hrun, ?_, below_setRow hB (Nat.le_refl _) _⟩
    unfold Lies
    rw [setRow_heap _ _ _ _ _ _ hg]
    simp [noughts]

set_option maxHeartbeats 1000000 in
theorem copied_any (A : Option Addr) (c : Nat) (zs : List Int) (w : World) (hr : Row w A zs) (hn : zs.length ≤ 65536) :
    Calls Try.prog 46 #[.slice A zs.length c] w fun e w' => e = .returned (.slice (some ⟨w.heap.size, 0, none⟩) zs.length zs.length) ∧ Lies w' w.heap.size 3 (zs.map (Value.int .i64)) ∧ Below w.heap.size w w' := by
  have hmk := make51 zs.length hn
  obtain ⟨w2, hcp, hL, hB⟩ := run_copy51 A c zs w hr
  go_enter Try.func46, Try.ntmps46
  go_wp2
  go_ret
  exact ⟨rfl, hL, hB⟩

theorem words_any {w : World} {g gw gb : Nat} {zs : List Int} {top : Nat} {bs : List Bool} (h : HeapAt w g gw gb zs top bs) :
    Calls Try.prog 24 #[.pointer (some ⟨g, 0, none⟩)] w fun e w' => e = .returned (.slice (some ⟨w.heap.size, 0, none⟩) zs.length zs.length) ∧ Lies w' w.heap.size 3 (zs.map (Value.int .i64)) ∧ Below w.heap.size w w' := by
  have hc0 := h.c0
  have hm := h.most
  go_enter Try.func24, Try.ntmps24
  go_wp2_with fail
  refine (copied_any _ _ zs _ (Row.of_lies h.words) hm).mono ?_
  rintro e w2 ⟨rfl, hL, hB⟩
  go_wp2
  go_ret
  exact ⟨rfl, hL, hB⟩

theorem take_next {xs ys : List Int} {k : Nat} (h : xs.take k = ys.take k) (hx : k < xs.length) (hy : k < ys.length) (e : xs.getD k 0 = ys.getD k 0) : xs.take (k + 1) = ys.take (k + 1) := by
  rw [List.take_succ_eq_append_getElem hx, List.take_succ_eq_append_getElem hy, h]
  simp [List.getD, hx, hy] at e
  rw [e]
theorem below_draws (w : World) (n : Nat) : Below w.heap.size w (w.drewN n) := ⟨rfl, rfl, rfl, Nat.le_refl _, fun _ _ => rfl⟩

set_option maxHeartbeats 1000000 in
theorem ints_any (A B : Option Addr) (c d : Nat) (xs ys : List Int) (w : World) (hx : Row w A xs) (hy : Row w B ys) (hn : xs.length ≤ 65536) (hm : ys.length ≤ 65536) :
    Calls Try.prog 39 #[.slice A xs.length c, .slice B ys.length d] w fun e w' => e = .returned (.bool (decide (xs = ys))) ∧ Below w.heap.size w w' := by
  by_cases hl : xs.length = ys.length
  · have hl' : ((xs.length : Int) != (ys.length : Int)) = false := by simp [hl]
    go_enter Try.func39, Try.ntmps39
    go_wp2
    go_loopw [13] (fun i wr => ∃ k : Nat, k ≤ xs.length ∧ i = .int .i64 k ∧ xs.take k = ys.take k ∧ ∃ nq, wr = w.drewN nq) (fun i _ => xs.length - (intOf i).toNat)
    case atStart => exact ⟨0, Nat.zero_le _, rfl, rfl, 0, rfl⟩
    case round =>
      obtain ⟨k, hk, rfl, ht, nq, rfl⟩ := hrel
      by_cases hlt : k < xs.length
      · obtain ⟨ad, rfl, hcx⟩ := hx.at_ hlt
        obtain ⟨bd, rfl, hcy⟩ := hy.at_ (hl ▸ hlt)
        have hkx : (k : Int) < (xs.length : Int) := by omega
        have hky : (k : Int) < (ys.length : Int) := by omega
        have hk0 : (0 : Int) ≤ (k : Int) := by omega
        generalize hX : xs.getD k 0 = x at hcx
        generalize hY : ys.getD k 0 = y at hcy
        by_cases hxy : x = y
        · have hne : (x != y) = false := by simp [hxy]
          have HT : Hid (xs.take (k + 1) = ys.take (k + 1)) := take_next ht hlt (hl ▸ hlt) (by rw [hX, hY, hxy])
          clear hX hY ht hl hxy
          go_wp2
          go_quiet (fail)
          go_wp2
          exact ⟨⟨k + 1, by omega, by go_num, HT.out, _, rfl⟩, by simp [intOf]; omega⟩
        · have hne : (x != y) = true := by simp [hxy]
          have HT : Hid (decide (xs = ys) = false) := decide_eq_false (fun e => hxy (by rw [← hX, ← hY, e]))
          clear hX hY ht hl hxy
          go_wp2
          go_quiet (fail)
          go_wp2
          go_ret
          exact ⟨ret_bool HT.out.symm, ⟨rfl, rfl, rfl, Nat.le_refl _, fun _ _ => rfl⟩⟩
      · have HT : Hid (decide (xs = ys) = true) := by
          refine decide_eq_true ?_
          rw [List.take_of_length_le (by omega), List.take_of_length_le (by omega)] at ht
          exact ht
        have hge : ys.length ≤ k := by omega
        have hge' : xs.length ≤ k := by omega
        clear ht hl hlt
        go_wp2
        go_ret
        exact ⟨ret_bool HT.out.symm, ⟨rfl, rfl, rfl, Nat.le_refl _, fun _ _ => rfl⟩⟩
  · have hl' : ((xs.length : Int) != (ys.length : Int)) = true := by simp; omega
    have HT : Hid (decide (xs = ys) = false) := decide_eq_false (fun e => hl (by rw [e]))
    go_enter Try.func39, Try.ntmps39
    go_wp2
    go_ret
    exact ⟨ret_bool HT.out.symm, Below.refl _ _⟩
end Go.Proofs.Ytibfhpbklnpknaa

namespace Go.Proofs.Ytibfhpbklnpknaa
open Go.RowKit
set_option linter.unusedVariables false

/-- All but one block is as it was. -/
structure But (g : Nat) (w w' : World) : Prop where
  os : w'.os = w.os
  tape : w'.tape = w.tape
  output : w'.output = w.output
  size : w'.heap.size = w.heap.size
  block : ∀ k, k ≠ g → w'.heap[k]? = w.heap[k]?

theorem But.lies {g b : Nat} {w w' : World} {t : TypeId} {cs : List Value} (h : But g w w') (hl : Lies w b t cs) (h1 : b ≠ g) : Lies w' b t cs := hl.of_block (h.block b h1)

/-- Words, with noughts from a place on. -/
def cleared (zs : List Int) (i n : Nat) : List Int := zs.take i ++ (List.replicate n 0 ++ zs.drop (i + n))
theorem cleared_length (zs : List Int) (i n : Nat) (h : i + n ≤ zs.length) : (cleared zs i n).length = zs.length := by simp [cleared]; omega

theorem zero3 (w : World) : (zeroValue 3).run Try.prog w = .ok (.int .i64 0) w := by
  obtain ⟨i0, hi0, hz0, hz1, hz2⟩ := info_parts info3
  simp [zeroValue, typeInfo, hi0, hz0]

theorem run_clear51 (W : World) (gw i n c : Nat) (zs : List Int) (hL : Lies W gw 3 (zs.map (Value.int .i64))) (hn : 0 < n) (hfit : i + n ≤ zs.length) (ty : TypeId) :
    ∃ W2, (Builtin.clear_ #[37] ty #[.slice (some ⟨gw, i, none⟩) n c]).run Try.prog W = .ok (.tuple #[]) W2 ∧ Lies W2 gw 3 ((cleared zs i n).map (Value.int .i64)) ∧ But gw W W2 := by
  have hzc : (Builtin.zeroCells (Value.int .i64 0).cells n).toList = List.replicate n (Value.int .i64 0) := by
    simp [Builtin.zeroCells, Value.cells]
    apply List.ext_getElem
    · simp
    · intro i h1 h2
      simp [Nat.mod_one]
  have hst := run_storeCells_at Try.prog gw i 3 (List.replicate n (Value.int .i64 0)) 0 _ W hL (by simpa using hfit) (by intro v hv'; rw [List.eq_of_mem_replicate hv']; rfl)
  obtain ⟨m, rfl⟩ : ∃ m, n = m + 1 := ⟨n - 1, by omega⟩
  refine ⟨W.setRow gw (List.take i (zs.map (Value.int .i64)) ++ (List.replicate (m + 1) (Value.int .i64 0) ++ List.drop (i + (m + 1)) (zs.map (Value.int .i64)))).toArray,
    by simp [Builtin.clear_, run_underlying Try.underlying37, hzc, hst], ?_, ⟨rfl, rfl, rfl, by simp [World.setRow], fun k hk => setRow_other W gw k _ hk⟩⟩
  unfold Lies
  rw [setRow_heap _ _ _ _ _ _ hL]
  simp [cleared]

theorem step_clear51 {ops : Array Oper} {o : Oper} {a : Act} {W : World} {K : Act → World → Prop} {Q : Exit → Act → World → Prop} {E : Prop} (hgd : o.guard = none) (x : Operand)
    (ho : o.op = .call { callee := .builtin .clear, args := #[x], argTypes := #[37] }) (gw i n c : Nat) (hx : a.eval x = .slice (some ⟨gw, i, none⟩) n c) (zs : List Int) (hL : Lies W gw 3 (zs.map (Value.int .i64))) (hn : 0 < n) (hfit : i + n ≤ zs.length)
    (h : ∀ W2, Lies W2 gw 3 ((cleared zs i n).map (Value.int .i64)) → But gw W W2 → K (a.put o.dst (.tuple #[])) W2) :
    if Region.wanted o (yielded ops a.tmps) = true then Oper.wp Try.prog o a W K Q else E := by
  have hw : Region.wanted o (yielded ops a.tmps) = true := by simp [Region.wanted, hgd]
  rw [if_pos hw]
  obtain ⟨W2, hrun, h1, h2⟩ := run_clear51 W gw i n c zs hL hn hfit o.type
  unfold Oper.wp
  simp [execOp, ho, resolve, invoke, builtin, hx, hrun, Result.andThen]
  exact h W2 h1 h2

theorem far_cell {w : World} {p q : Addr} (u : Value) (h : q.block ≠ p.block) {v : Value} (hc : w.cell? q = some v) : (w.setCell p u).cell? q = some v := by
  rw [World.cell?_of_block (w := w) (Below.heap_setCell w p u q.block h)]; exact hc

/-- Words with a head at a place, and noughts behind it. -/
def laid (zs : List Int) (i l : Nat) (n : Int) : List Int := (cleared zs i (1 + l)).set i n

set_option maxHeartbeats 1000000 in
theorem lay_any {w : World} {g gw gb : Nat} {zs : List Int} {top : Nat} {bs : List Bool} (h : HeapAt w g gw gb zs top bs) (i l : Nat) (k p : Int) (hg : goodB k l p = true) (hi : i + (1 + l) ≤ zs.length) :
    Calls Try.prog 56 #[.pointer (some ⟨g, 0, none⟩), .int .i64 i, .agg #[.int .i64 k, .int .i64 l, .int .i64 p]] w fun e w' =>
      e = .returned (.tuple #[]) ∧ HeapAt w' g gw gb (laid zs i l (packW k l p)) top (bs.set i true) ∧ Else g gw gb w w' := by
  have hc0 := h.c0
  have hc2 := h.c2
  have hlt := h.own.lt
  have hl4 : l ≤ 4095 := by have := (good_iff k l p).1 hg; omega
  have hm := h.most
  have b1 : (0 : Int) ≤ (i : Int) := by omega
  have b2 : (i : Int) ≤ (i : Int) + (1 + (l : Int)) := by omega
  have b3 : (i : Int) + (1 + (l : Int)) ≤ (zs.length : Int) := by omega
  have b4 : ((i : Int) + (1 + (l : Int))).toNat = i + (1 + l) := by omega
  have b5 : IntKind.i64.wrap ((i : Int) + (1 + (l : Int))) = (i : Int) + (1 + (l : Int)) := IntWalk.i64_in _ (by omega)
  have b6 : ¬ zs.length = i := by omega
  have b7 : (0 : Int) ≤ (i : Int) + (1 + (l : Int)) := by omega
  obtain ⟨W2, hcl, hL2, hB2⟩ := run_clear51 (((w.alloc (.cells #[.int .i64 k, .int .i64 l, .int .i64 p] 40)).alloc (.cells #[.int .i64 k, .int .i64 l, .int .i64 p] 40)).drew) gw i (1 + l) (zs.length - i) zs (((h.words.alloc _).alloc _).drew) (by omega) hi 0
  have hne1 : g ≠ gw := h.own.apart h.words (by decide)
  have hne2 : gb ≠ gw := h.begins.apart h.words (by decide)
  have own2 := hB2.lies (((h.own.alloc _).alloc _).drew) hne1
  have beg2 := hB2.lies (((h.begins.alloc _).alloc _).drew) hne2
  have box2 := hB2.lies (((Lies.new w 40 [.int .i64 k, .int .i64 l, .int .i64 p]).alloc (.cells #[.int .i64 k, .int .i64 l, .int .i64 p] 40)).drew) (by have := h.words.lt; omega)
  have x0 : W2.cell? ⟨w.heap.size, 0, none⟩ = some (.int .i64 k) := box2.cell 0
  have x1 : W2.cell? ⟨w.heap.size, 1, none⟩ = some (.int .i64 l) := box2.cell 1
  have x2 : W2.cell? ⟨w.heap.size, 2, none⟩ = some (.int .i64 p) := box2.cell 2
  have y0 : W2.cell? ⟨g, 0, none⟩ = some (.slice (some ⟨gw, 0, none⟩) zs.length zs.length) := own2.cell 0
  have hsz : W2.heap.size = w.heap.size + 2 := by have := hB2.size; simpa using this
  go_enter Try.func56, Try.ntmps56
  go_wp2_with fail
  go_region_held3 (fun W => W.cell? ⟨g, 0, none⟩ = some (.slice (some ⟨gw, 0, none⟩) zs.length zs.length) ∧ W.cell? ⟨w.heap.size, 0, none⟩ = some (.int .i64 k) ∧ W.cell? ⟨w.heap.size, 1, none⟩ = some (.int .i64 l) ∧ W.cell? ⟨w.heap.size, 2, none⟩ = some (.int .i64 p))
    (first | go_keep)
    ((first
    | (go_at_call 51; refine (room_any _ _ _ _ (by omega) (by omega)).mono ?_; rintro e w' ⟨rfl, rfl⟩)
    | fail))
  clear hcl hc0 hc2 b2 b3 b4 b5 b7
  have z1 : g < W2.heap.size := own2.lt
  have z2 : gw < W2.heap.size := hL2.lt
  have z3 : w.heap.size < W2.heap.size := box2.lt
  have z4 : gb < W2.heap.size := beg2.lt
  clear hsz
  have hcl : (cleared zs i (1 + l)).length = zs.length := cleared_length _ _ _ hi
  obtain ⟨v0, hv0⟩ : ∃ v0, W2.cell? ⟨gw, i, none⟩ = some v0 := by
    rw [hL2.cell i]
    exact ⟨_, List.getElem?_eq_getElem (by simp [hcl]; omega)⟩
  have hf0 : W2.frozen? ⟨gw, i, none⟩ = false := hL2.frozen i
  have HC := Lib.hid hcl
  clear hcl
  have b8 : (i : Int) < (zs.length : Int) := by omega
  have hne3 : w.heap.size ≠ gw := by have := h.words.lt; omega
  go_wp2_with fail
  go_region_held3 (fun W => W.cell? ⟨g, 0, none⟩ = some (.slice (some ⟨gw, 0, none⟩) zs.length zs.length) ∧ W.cell? ⟨w.heap.size, 0, none⟩ = some (.int .i64 k) ∧ W.cell? ⟨w.heap.size, 1, none⟩ = some (.int .i64 l) ∧ W.cell? ⟨w.heap.size, 2, none⟩ = some (.int .i64 p))
    (first | go_keep | (refine ⟨?_, ?_, ?_, ?_⟩ <;> first | exact (hk3 _ _ z1).trans y0 | exact (hk3 _ _ z3).trans x0 | exact (hk3 _ _ z3).trans x1 | exact (hk3 _ _ z3).trans x2 | exact far_cell _ hne1 ((hk3 _ _ z1).trans y0) | exact far_cell _ hne3 ((hk3 _ _ z3).trans x0) | exact far_cell _ hne3 ((hk3 _ _ z3).trans x1) | exact far_cell _ hne3 ((hk3 _ _ z3).trans x2)))
    ((first
    | (go_at_call 47; refine (pack_yes _ _ _ _ hg).mono ?_; rintro e w3 ⟨rfl, hb3⟩; obtain ⟨hk3, hf3⟩ := kept hb3; have hc3 := (hk3 gw i z2).trans hv0; have hz3 := (hf3 gw i z2).trans hf0)
    | fail))
  have L4 := (hL2.drew.below hb3 z2).set i (.int .i64 (packW k l p))
  have own4 := (own2.drew.below hb3 z1).far (p := ⟨gw, i, none⟩) hne1 (.int .i64 (packW k l p))
  have beg4 := (beg2.drew.below hb3 z4).far (p := ⟨gw, i, none⟩) hne2 (.int .i64 (packW k l p))
  have E3 : Else g gw gb w (w3.setCell ⟨gw, i, none⟩ (.int .i64 (packW k l p))) := by
    refine Else.trans (b := w3) (Else.trans (b := W2) ⟨hB2.os, hB2.tape, hB2.output, by have := hB2.size; simp at this; omega, fun j hj h1 h2 h3 => ?_⟩ ⟨hb3.os, hb3.tape, hb3.output, hb3.size, fun j hj _ _ _ => hb3.block j hj⟩)
      ⟨rfl, rfl, rfl, by simp [World.setCell], fun j hj h1 h2 h3 => Below.heap_setCell _ _ _ _ h2⟩
    rw [hB2.block j h2]
    exact (Below.heap_alloc _ _ j (by simp; omega)).trans (Below.heap_alloc _ _ j hj)
  clear hk3 hf3 hc3 hz3 hb3 x0 x1 x2 y0 box2 hL2 own2 beg2 hB2
  generalize w3.setCell ⟨gw, i, none⟩ (.int .i64 (packW k l p)) = W4 at *
  have hbl : bs.length = zs.length := h.same
  have u2 : W4.cell? ⟨g, 2, none⟩ = some (.slice (some ⟨gb, 0, none⟩) zs.length zs.length) := own4.cell 2
  obtain ⟨v1, hv1⟩ : ∃ v1, W4.cell? ⟨gb, i, none⟩ = some v1 := by
    rw [beg4.cell i]
    exact ⟨_, List.getElem?_eq_getElem (by simp [hbl]; omega)⟩
  have hf1 : W4.frozen? ⟨gb, i, none⟩ = false := beg4.frozen i
  have HB := Lib.hid hbl
  clear hbl
  go_wp2
  go_end0
  have hll : (laid zs i l (packW k l p)).length = zs.length := by simp [laid, HC.out]
  have hne4 : g ≠ gb := h.own.apart h.begins (by decide)
  refine ⟨rfl, ⟨?_, ?_, ?_, ?_, ?_, ?_, ?_⟩, E3.trans ⟨rfl, rfl, rfl, by simp [World.setCell], fun j hj h1 h2 h3 => Below.heap_setCell _ _ _ _ h3⟩⟩
  · rw [hll]; exact own4.far hne4 _
  · have := L4.far (p := ⟨gb, i, none⟩) hne2.symm (.bool true)
    simpa [laid, List.map_set] using this
  · have := beg4.set i (.bool true)
    simpa [List.map_set] using this
  · rw [hll]; simpa using HB.out
  · rw [hll]; exact h.some_
  · rw [hll]; exact h.most
  · rw [hll]; exact h.fits
end Go.Proofs.Ytibfhpbklnpknaa

namespace Go.Proofs.Ytibfhpbklnpknaa
open Go.RowKit
set_option linter.unusedVariables false

theorem mayBe_b (k l p : Int) (w : World) (b : Bool) (hb : goodB k l p = b) :
    Calls Try.prog 54 #[.agg #[.int .i64 k, .int .i64 l, .int .i64 p]] w fun e w' => e = .returned (.bool b) ∧ Below w.heap.size w w' :=
  (mayBe_any k l p w).mono fun e w' ⟨he, hw⟩ => ⟨by rw [he, hb], by rw [hw]; exact (Below.refl _ _).alloc (Nat.le_refl _) _⟩
theorem room_b (k p : Int) (l : Nat) (w : World) (h1 : l ≤ 4095) :
    Calls Try.prog 51 #[.agg #[.int .i64 k, .int .i64 l, .int .i64 p]] w fun e w' => e = .returned (.int .i64 (1 + l)) ∧ Below w.heap.size w w' :=
  (room_any k l p w (by omega) (by omega)).mono fun e w' ⟨he, hw⟩ => ⟨he, by rw [hw]; exact (Below.refl _ _).alloc (Nat.le_refl _) _⟩

set_option maxHeartbeats 1000000 in
theorem place_bad {w : World} {g gw gb : Nat} {zs : List Int} {top : Nat} {bs : List Bool} (h : HeapAt w g gw gb zs top bs) (k l p : Int) (hg : goodB k l p = false) :
    Calls Try.prog 48 #[.pointer (some ⟨g, 0, none⟩), .agg #[.int .i64 k, .int .i64 l, .int .i64 p]] w fun e w' =>
      e = .returned (.tuple #[.int .i64 0, .int .i64 1]) ∧ Below w.heap.size w w' := by
  go_enter Try.func48, Try.ntmps48
  go_wp2_with fail
  refine (mayBe_any k l p _).mono ?_
  rintro e w' ⟨rfl, rfl⟩
  rw [hg]
  go_wp2
  go_ret2
  exact ⟨rfl, ((Below.refl _ _).alloc (Nat.le_refl _) _).alloc (by simp) _⟩

set_option maxHeartbeats 1000000 in
theorem place_full {w : World} {g gw gb : Nat} {zs : List Int} {top : Nat} {bs : List Bool} (h : HeapAt w g gw gb zs top bs) (k p : Int) (l : Nat) (hg : goodB k l p = true) (hf : zs.length < top + (1 + l)) :
    Calls Try.prog 48 #[.pointer (some ⟨g, 0, none⟩), .agg #[.int .i64 k, .int .i64 l, .int .i64 p]] w fun e w' =>
      e = .returned (.tuple #[.int .i64 0, .int .i64 6]) ∧ Below w.heap.size w w' := by
  have hl4 : l ≤ 4095 := by have := (good_iff k l p).1 hg; omega
  have hm := h.most
  have ht := h.fits
  have b0 : IntKind.i64.wrap ((zs.length : Int) - (top : Int)) = (zs.length : Int) - (top : Int) := IntWalk.i64_in _ (by omega)
  have b1 : decide ((zs.length : Int) - (top : Int) < 1 + (l : Int)) = true := by simp; omega
  go_enter Try.func48, Try.ntmps48
  go_wp2_with fail
  refine (mayBe_b k l p _ true hg).mono ?_
  rintro e w1 ⟨rfl, hb1⟩
  have box1 := (Lies.new w 40 [.int .i64 k, .int .i64 l, .int .i64 p]).below hb1 (by simp)
  have H1 := (h.alloc (.cells #[.int .i64 k, .int .i64 l, .int .i64 p] 40)).kept hb1
  have B1 : Below w.heap.size w w1 := on ((Below.refl _ _).alloc (Nat.le_refl _) _) (by simp) hb1
  have y0 := H1.c0
  have y1 := H1.c1
  have x0 : w1.cell? ⟨w.heap.size, 0, none⟩ = some (.int .i64 k) := box1.cell 0
  have x1 : w1.cell? ⟨w.heap.size, 1, none⟩ = some (.int .i64 l) := box1.cell 1
  have x2 : w1.cell? ⟨w.heap.size, 2, none⟩ = some (.int .i64 p) := box1.cell 2
  have z1 := H1.own.lt
  have z3 := box1.lt
  clear hb1
  go_wp2_with fail
  go_region_held3 (fun W => W.cell? ⟨g, 0, none⟩ = some (.slice (some ⟨gw, 0, none⟩) zs.length zs.length) ∧ W.cell? ⟨g, 1, none⟩ = some (.int .i64 top) ∧ W.cell? ⟨w.heap.size, 0, none⟩ = some (.int .i64 k) ∧ W.cell? ⟨w.heap.size, 1, none⟩ = some (.int .i64 l) ∧ W.cell? ⟨w.heap.size, 2, none⟩ = some (.int .i64 p))
    (first | go_keep | (refine ⟨?_, ?_, ?_, ?_, ?_⟩ <;> first | exact (hk3 _ _ z1).trans y0 | exact (hk3 _ _ z1).trans y1 | exact (hk3 _ _ z3).trans x0 | exact (hk3 _ _ z3).trans x1 | exact (hk3 _ _ z3).trans x2))
    ((first
    | (go_at_call 51; refine (room_b _ _ _ _ hl4).mono ?_; rintro e w3 ⟨rfl, hb3⟩; obtain ⟨hk3, hf3⟩ := kept hb3)
    | fail))
  go_wp2
  go_ret2
  exact ⟨rfl, B1.drew.trans (hb3.mono B1.size)⟩

theorem Else.drewl {g gw gb : Nat} {w w' : World} (h : Else g gw gb w.drew w') : Else g gw gb w w' := ⟨h.os, h.tape, h.output, h.size, h.block⟩

theorem laid_length (zs : List Int) (i l : Nat) (n : Int) (h : i + (1 + l) ≤ zs.length) : (laid zs i l n).length = zs.length := by
  simp [laid, cleared_length _ _ _ h]
theorem raised {w w' : World} {g gw gb : Nat} {zs : List Int} {top n : Nat} {bs : List Bool} (h : HeapAt w g gw gb zs top bs) (hb : Below w.drew.heap.size w.drew w') (hn : top + (1 + n) ≤ zs.length) :
    HeapAt (w'.setCell ⟨g, 1, none⟩ (.int .i64 ((top : Int) + (1 + (n : Int))))) g gw gb zs (top + (1 + n)) bs := by
  have hne1 : gw ≠ g := (h.own.apart h.words (by decide)).symm
  have hne2 : gb ≠ g := (h.own.apart h.begins (by decide)).symm
  refine ⟨?_, (h.words.drew.below hb h.words.lt).far hne1 _, (h.begins.drew.below hb h.begins.lt).far hne2 _, h.same, h.some_, h.most, hn⟩
  have := (h.own.drew.below hb h.own.lt).set 1 (.int .i64 ((top : Int) + (1 + (n : Int))))
  have e : ((top + (1 + n) : Nat) : Int) = (top : Int) + (1 + (n : Int)) := by omega
  rw [e]
  exact this
theorem raised_else {w w' : World} {g gw gb : Nat} {u : Value} (hb : Below w.drew.heap.size w.drew w') : Else g gw gb w (w'.setCell ⟨g, 1, none⟩ u) :=
  Else.trans (b := w') ⟨hb.os, hb.tape, hb.output, hb.size, fun j hj _ _ _ => hb.block j hj⟩ ⟨rfl, rfl, rfl, by simp [World.setCell], fun j hj h1 h2 h3 => Below.heap_setCell _ _ _ _ h1⟩

set_option maxHeartbeats 2000000 in
theorem place_yes {w : World} {g gw gb : Nat} {zs : List Int} {top : Nat} {bs : List Bool} (h : HeapAt w g gw gb zs top bs) (k p : Int) (l : Nat) (hg : goodB k l p = true) (hf : top + (1 + l) ≤ zs.length) :
    Calls Try.prog 48 #[.pointer (some ⟨g, 0, none⟩), .agg #[.int .i64 k, .int .i64 l, .int .i64 p]] w fun e w' =>
      e = .returned (.tuple #[.int .i64 top, .int .i64 0]) ∧ HeapAt w' g gw gb (laid zs top l (packW k l p)) (top + (1 + l)) (bs.set top true) ∧ Else g gw gb w w' := by
  have hl4 : l ≤ 4095 := by have := (good_iff k l p).1 hg; omega
  have hm := h.most
  have ht := h.fits
  have b0 : IntKind.i64.wrap ((zs.length : Int) - (top : Int)) = (zs.length : Int) - (top : Int) := IntWalk.i64_in _ (by omega)
  have b1 : decide ((zs.length : Int) - (top : Int) < 1 + (l : Int)) = false := by simp; omega
  go_enter Try.func48, Try.ntmps48
  go_wp2_with fail
  refine (mayBe_b k l p _ true hg).mono ?_
  rintro e w1 ⟨rfl, hb1⟩
  have box1 := (Lies.new w 40 [.int .i64 k, .int .i64 l, .int .i64 p]).below hb1 (by simp)
  have H1 := (h.alloc (.cells #[.int .i64 k, .int .i64 l, .int .i64 p] 40)).kept hb1
  have B1 : Below w.heap.size w w1 := on ((Below.refl _ _).alloc (Nat.le_refl _) _) (by simp) hb1
  have y0 := H1.c0
  have y1 := H1.c1
  have x0 : w1.cell? ⟨w.heap.size, 0, none⟩ = some (.int .i64 k) := box1.cell 0
  have x1 : w1.cell? ⟨w.heap.size, 1, none⟩ = some (.int .i64 l) := box1.cell 1
  have x2 : w1.cell? ⟨w.heap.size, 2, none⟩ = some (.int .i64 p) := box1.cell 2
  have z1 := H1.own.lt
  have z3 := box1.lt
  clear hb1
  go_wp2_with fail
  go_region_held3 (fun W => W.cell? ⟨g, 0, none⟩ = some (.slice (some ⟨gw, 0, none⟩) zs.length zs.length) ∧ W.cell? ⟨g, 1, none⟩ = some (.int .i64 top) ∧ W.cell? ⟨w.heap.size, 0, none⟩ = some (.int .i64 k) ∧ W.cell? ⟨w.heap.size, 1, none⟩ = some (.int .i64 l) ∧ W.cell? ⟨w.heap.size, 2, none⟩ = some (.int .i64 p))
    (first | go_keep | (refine ⟨?_, ?_, ?_, ?_, ?_⟩ <;> first | exact (hk3 _ _ z1).trans y0 | exact (hk3 _ _ z1).trans y1 | exact (hk3 _ _ z3).trans x0 | exact (hk3 _ _ z3).trans x1 | exact (hk3 _ _ z3).trans x2))
    ((first
    | (go_at_call 51; refine (room_b _ _ _ _ hl4).mono ?_; rintro e w3 ⟨rfl, hb3⟩; obtain ⟨hk3, hf3⟩ := kept hb3)
    | fail))
  have H3 : HeapAt w3 g gw gb zs top bs := HeapAt.of_below (w := w1) ⟨H1.own, H1.words, H1.begins, H1.same, H1.some_, H1.most, H1.fits⟩ (B := w1.heap.size) ⟨hb3.os, hb3.tape, hb3.output, hb3.size, hb3.block⟩ H1.own.lt H1.words.lt H1.begins.lt
  have box3 := box1.drew.below hb3 z3
  have B3 : Below w.heap.size w w3 := B1.drew.trans (hb3.mono B1.size)
  clear hk3 hf3 x0 x1 x2 y0 y1 z1 z3 H1 box1 B1 hb3 b0 b1
  have y1 := H3.c1
  have x0 : w3.cell? ⟨w.heap.size, 0, none⟩ = some (.int .i64 k) := box3.cell 0
  have x1 : w3.cell? ⟨w.heap.size, 1, none⟩ = some (.int .i64 l) := box3.cell 1
  have x2 : w3.cell? ⟨w.heap.size, 2, none⟩ = some (.int .i64 p) := box3.cell 2
  go_wp2_with fail
  refine (lay_any H3 top l k p hg hf).mono ?_
  rintro e w4 ⟨rfl, H4, E4⟩
  have box4 := E4.lies box3 (by have := h.own.lt; omega) (by have := h.words.lt; omega) (by have := h.begins.lt; omega)
  have E04 : Else g gw gb w w4 := (Else.of_below B3).trans E4
  clear x0 x1 x2 y1 H3 box3 B3 E4
  have y1 := H4.c1
  have x0 : w4.cell? ⟨w.heap.size, 0, none⟩ = some (.int .i64 k) := box4.cell 0
  have x1 : w4.cell? ⟨w.heap.size, 1, none⟩ = some (.int .i64 l) := box4.cell 1
  have x2 : w4.cell? ⟨w.heap.size, 2, none⟩ = some (.int .i64 p) := box4.cell 2
  have z1 := H4.own.lt
  have z3 := box4.lt
  have b0 : IntKind.i64.wrap ((top : Int) + (1 + (l : Int))) = (top : Int) + (1 + (l : Int)) := IntWalk.i64_in _ (by omega)
  have hfr := H4.own.frozen 1
  have hne3 : w.heap.size ≠ g := by have := h.own.lt; omega
  go_wp2_with fail
  go_region_with ((first
    | (go_at_call 51; refine (room_b _ _ _ _ hl4).mono ?_; rintro e w5 ⟨rfl, hb5⟩; obtain ⟨hk3, hf3⟩ := kept hb5; have hc5 := (hk3 g 1 z1).trans y1; have hf5 := (hf3 g 1 z1).trans hfr)
    | fail))
  all_goals go_wp2
  all_goals go_ret2
  all_goals exact ⟨rfl, raised H4 hb5 (by rw [laid_length _ _ _ _ hf]; exact hf), E04.trans (raised_else hb5)⟩
end Go.Proofs.Ytibfhpbklnpknaa

namespace Go.Proofs.Ytibfhpbklnpknaa
open Go.RowKit
set_option linter.unusedVariables false

/-- Where objects begin, as find notes it. -/
def noted (obs : List Ob) (n : Nat) : List Bool := marks obs ++ List.replicate n false

theorem noted_next {pre : List Ob} {a m n : Nat} {o : Ob} (ha : (flat pre).length = a) (hn : o.2.length + 1 ≤ n) :
    (noted pre n).set a true = noted (pre ++ [o]) (n - (1 + o.2.length)) := by
  have hm : (marks pre).length = a := by rw [marks_length, ha]
  unfold noted
  rw [marks_append, marks_cons]
  rw [List.set_append_right _ _ (by omega), hm, Nat.sub_self]
  obtain ⟨q, rfl⟩ : ∃ q, n = q + (1 + o.2.length) := ⟨n - (1 + o.2.length), by omega⟩
  have e : q + (1 + o.2.length) = (o.2.length + q) + 1 := by omega
  rw [Nat.add_sub_cancel, e, List.replicate_succ, List.set_cons_zero, List.append_assoc]
  simp [marks]

theorem HeapAt.mark {w : World} {g gw gb : Nat} {zs : List Int} {top : Nat} {bs : List Bool} (h : HeapAt w g gw gb zs top bs) (a : Nat) : HeapAt (w.setCell ⟨gb, a, none⟩ (.bool true)) g gw gb zs top (bs.set a true) := by
  refine ⟨h.own.far (h.own.apart h.begins (by decide)) _, h.words.far (h.words.apart h.begins (by decide)) _, ?_, by simpa using h.same, h.some_, h.most, h.fits⟩
  have := h.begins.set a (.bool true)
  simpa [List.map_set] using this
theorem marked_else {g gw gb : Nat} (w : World) (a : Nat) (u : Value) : Else g gw gb w (w.setCell ⟨gb, a, none⟩ u) :=
  ⟨rfl, rfl, rfl, by simp [World.setCell], fun j hj h1 h2 h3 => Below.heap_setCell _ _ _ _ h3⟩

end Go.Proofs.Ytibfhpbklnpknaa

namespace Go.Proofs.Ytibfhpbklnpknaa
open Go.RowKit
set_option linter.unusedVariables false

theorem undrawn {w w' : World} (h : Below w.drew.heap.size w.drew w') : Below w.heap.size w w' := ⟨h.os, h.tape, h.output, h.size, h.block⟩
theorem Row.drew {w : World} {A : Option Addr} {zs : List Int} (h : Row w A zs) : Row w.drew A zs := h
theorem Row.alloc {w : World} {A : Option Addr} {zs : List Int} (h : Row w A zs) (o : Obj) : Row (w.alloc o) A zs := h.kept ((Below.refl _ _).alloc (Nat.le_refl _) _)

theorem made {w : World} {q r n top : Nat} {zs : List Int} (hq : Lies w q 3 (zs.map (Value.int .i64))) (hr : Lies w r 4 (noBits zs.length)) (h1 : 1 ≤ zs.length) (h2 : zs.length ≤ 65536) (h3 : top ≤ zs.length) :
    HeapAt (w.alloc (.cells #[.slice (some ⟨q, 0, none⟩) zs.length zs.length, .int .i64 top, .slice (some ⟨r, 0, none⟩) zs.length zs.length] 69)) w.heap.size q r zs top (noted [] zs.length) := by
  refine ⟨Lies.new w 69 [_, _, _], hq.alloc _, ?_, by simp [noted, marks], h1, h2, h3⟩
  have := hr.alloc (.cells #[.slice (some ⟨q, 0, none⟩) zs.length zs.length, .int .i64 top, .slice (some ⟨r, 0, none⟩) zs.length zs.length] 69)
  rw [noBits_eq] at this
  exact this

set_option maxHeartbeats 1000000 in
theorem new_bad (n : Int) (w : World) (hn : ¬ (1 ≤ n ∧ n ≤ 65536)) :
    Calls Try.prog 8 #[.int .i64 n] w fun e w' => e = .returned (.tuple #[.pointer none, .int .i64 1]) ∧ Below w.heap.size w w' := by
  have hs : decide (1 ≤ n ∧ n ≤ 65536) = false := decide_eq_false hn
  go_enter Try.func8, Try.ntmps8
  go_wp2_with fail
  refine (maySize_any _ _).mono ?_
  rintro e w' ⟨rfl, rfl⟩
  rw [hs]
  go_wp2
  go_ret2
  exact ⟨rfl, Below.refl _ _⟩

set_option maxHeartbeats 1000000 in
theorem new_yes (n : Nat) (w : World) (h1 : 1 ≤ n) (h2 : n ≤ 65536) :
    Calls Try.prog 8 #[.int .i64 n] w fun e w' => ∃ g gw gb, e = .returned (.tuple #[.pointer (some ⟨g, 0, none⟩), .int .i64 0]) ∧ Below w.heap.size w w' ∧ w.heap.size ≤ g ∧ w.heap.size ≤ gw ∧ w.heap.size ≤ gb ∧
      HeapAt w' g gw gb (List.replicate n 0) 0 (noted [] n) := by
  have hs : decide (1 ≤ (n : Int) ∧ (n : Int) ≤ 65536) = true := by simp; omega
  have hmk := make75 n h2
  have hmk' := make51 n h2
  go_enter Try.func8, Try.ntmps8
  go_wp2_with fail
  refine (maySize_any _ _).mono ?_
  rintro e w' ⟨rfl, rfl⟩
  rw [hs]
  go_wp2_with fail
  go_region
  all_goals go_wp2
  all_goals go_ret2
  · have hL : Lies ((w.alloc (.cells (noughts n).toArray 3)).alloc (.cells (noBits n).toArray 4)) w.heap.size 3 ((List.replicate n (0 : Int)).map (Value.int .i64)) := by
      have := (Lies.new w 3 (noughts n)).alloc (.cells (noBits n).toArray 4)
      rw [noughts_eq] at this ⊢
      exact this
    have hN : Lies ((w.alloc (.cells (noughts n).toArray 3)).alloc (.cells (noBits n).toArray 4)) (w.heap.size + 1) 4 (noBits (List.replicate n (0 : Int)).length) := by
      have := Lies.new (w.alloc (.cells (noughts n).toArray 3)) 4 (noBits n)
      rw [World.size_alloc] at this
      simpa using this
    have HM := made (top := 0) (n := 0) hL hN (by simpa using h1) (by simpa using h2) (by simp)
    simp only [List.length_replicate, World.size_alloc] at HM
    refine ⟨w.heap.size + 1 + 1, w.heap.size, w.heap.size + 1, rfl, ?_, by omega, by omega, by omega, ⟨HM.own, HM.words, HM.begins, HM.same, HM.some_, HM.most, HM.fits⟩⟩
    exact ((((Below.refl _ w).alloc (Nat.le_refl _) _).alloc (by simp) _).alloc (by simp; omega) _).drew
  · have hL : Lies ((w.alloc (.cells (noBits n).toArray 4)).alloc (.cells (noughts n).toArray 3)) (w.heap.size + 1) 3 ((List.replicate n (0 : Int)).map (Value.int .i64)) := by
      have := Lies.new (w.alloc (.cells (noBits n).toArray 4)) 3 (noughts n)
      rw [World.size_alloc] at this
      rw [noughts_eq] at this ⊢
      exact this
    have hN : Lies ((w.alloc (.cells (noBits n).toArray 4)).alloc (.cells (noughts n).toArray 3)) w.heap.size 4 (noBits (List.replicate n (0 : Int)).length) := by
      have := (Lies.new w 4 (noBits n)).alloc (.cells (noughts n).toArray 3)
      simpa using this
    have HM := made (top := 0) (n := 0) hL hN (by simpa using h1) (by simpa using h2) (by simp)
    simp only [List.length_replicate, World.size_alloc] at HM
    refine ⟨w.heap.size + 1 + 1, w.heap.size + 1, w.heap.size, rfl, ?_, by omega, by omega, by omega, ⟨HM.own, HM.words, HM.begins, HM.same, HM.some_, HM.most, HM.fits⟩⟩
    exact ((((Below.refl _ w).alloc (Nat.le_refl _) _).alloc (by simp) _).alloc (by simp; omega) _).drew
end Go.Proofs.Ytibfhpbklnpknaa

namespace Go.Proofs.Ytibfhpbklnpknaa
open Go.RowKit
set_option linter.unusedVariables false

theorem cleared_at (zs : List Int) (i n j : Nat) (h : i + n ≤ zs.length) : (cleared zs i n).getD j 0 = if i ≤ j ∧ j < i + n then 0 else zs.getD j 0 := by
  unfold cleared
  simp only [List.getD, List.getElem?_append, List.length_take, List.length_replicate, List.getElem?_take, List.getElem?_replicate, List.getElem?_drop]
  have hm : min i zs.length = i := by omega
  rw [hm]
  by_cases h1 : j < i
  · rw [if_pos h1, if_pos h1, if_neg (by omega)]
  · rw [if_neg h1]
    by_cases h2 : j - i < n
    · rw [if_pos h2, if_pos h2, if_pos (by omega)]; rfl
    · rw [if_neg h2, if_neg (by omega)]
      have : i + n + (j - i - n) = j := by omega
      rw [this]
theorem laid_at (zs : List Int) (i l j : Nat) (v : Int) (h : i + (1 + l) ≤ zs.length) : (laid zs i l v).getD j 0 = if j = i then v else if i < j ∧ j ≤ i + l then 0 else zs.getD j 0 := by
  unfold laid
  have hl : (cleared zs i (1 + l)).length = zs.length := cleared_length _ _ _ h
  by_cases h1 : j = i
  · subst h1
    rw [if_pos rfl]
    simp [List.getD, hl, show j < zs.length by omega]
  · have e : ((cleared zs i (1 + l)).set i v).getD j 0 = (cleared zs i (1 + l)).getD j 0 := by
      simp [List.getD, Ne.symm h1]
    rw [if_neg h1, e, cleared_at _ _ _ _ h]
    by_cases h2 : i < j ∧ j ≤ i + l
    · rw [if_pos (by omega), if_pos h2]
    · rw [if_neg (by omega), if_neg h2]

theorem nil_eq (w : World) : (binOp .eql 26 (.pointer none) (.pointer none)).run Try.prog w = .ok (.bool true) w := by kernel_rfl

end Go.Proofs.Ytibfhpbklnpknaa
