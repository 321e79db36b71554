/- A copy of words: what 'copied' and 'Words' answer; whether two lists of words are the same. -/
import Derived.Test.YtehmcbpkhknpcaaLook
import Derived.Laws.MakeOwn
import Derived.Laws.CopyOwn
import Derived.Maps.AppendAt
import Derived.Deep.QuietTactic
import Derived.BigQuiet
namespace Go.Proofs.Ytehmcbpkhknpcaa
open Go.RowKit
set_option linter.unusedVariables false

/-- Noughts; and none that is set. -/
def noughts (n : Nat) : List Value := List.replicate n (.int .i64 0)
def noBits (n : Nat) : List Value := List.replicate n (.bool false)
theorem noughts_length (n : Nat) : (noughts n).length = n := by simp [noughts]
theorem noBits_length (n : Nat) : (noBits n).length = n := by simp [noBits]
theorem noughts_eq (n : Nat) : noughts n = (List.replicate n (0 : Int)).map (Value.int .i64) := by simp [noughts]
theorem noBits_eq (n : Nat) : noBits n = (List.replicate n false).map Value.bool := by simp [noBits]

theorem made_one (z : Value) (n : Nat) : madeCells #[z] n = (List.replicate n z).toArray := by
  apply Array.ext
  · simp [madeCells]
  · intro i h1 h2
    simp [madeCells, Nat.mod_one]

theorem info3 : (Try.prog.info? 3).map (fun i => (i.zero, i.size, i.bytes)) = some (some (.int .i64 0), 1, 8) := by kernel_rfl
theorem info4 : (Try.prog.info? 4).map (fun i => (i.zero, i.size, i.bytes)) = some (some (.bool false), 1, 1) := by kernel_rfl

theorem make51 (n : Nat) (hn : n ≤ 65536) (w : World) : (Instr.makeSlice 38 (.int .i64 (n : Int)) (.int .i64 (n : Int))).run Try.prog w = .ok (.slice (some ⟨w.heap.size, 0, none⟩) n n) (w.alloc (.cells (noughts n).toArray 3)) := by
  obtain ⟨i0, hi0, hz0, hz1, hz2⟩ := info_parts info3
  have := run_make (P := Try.prog) w 38 3 i0 _ Try.underlying38 hi0 hz0 .i64 .i64 n n (by omega) (Int.le_refl _) (by rw [hz2]; omega) (by omega)
  rw [this, hz1]
  simp [Value.cells, made_one, noughts]
theorem make75 (n : Nat) (hn : n ≤ 65536) (w : World) : (Instr.makeSlice 70 (.int .i64 (n : Int)) (.int .i64 (n : Int))).run Try.prog w = .ok (.slice (some ⟨w.heap.size, 0, none⟩) n n) (w.alloc (.cells (noBits n).toArray 4)) := by
  obtain ⟨i0, hi0, hz0, hz1, hz2⟩ := info_parts info4
  have := run_make (P := Try.prog) w 70 4 i0 _ Try.underlying70 hi0 hz0 .i64 .i64 n n (by omega) (Int.le_refl _) (by rw [hz2]; omega) (by omega)
  rw [this, hz1]
  simp [Value.cells, made_one, noBits]

/-- A slice of numbers reads as a list. -/
def Row (w : World) (A : Option Addr) (zs : List Int) : Prop :=
  0 < zs.length → ∃ ad, A = some ad ∧ ad.block < w.heap.size ∧ ∀ j v, (zs.map (Value.int .i64))[j]? = some v → w.cell? (ad.add j) = some v

theorem block_add (a : Addr) (n : Nat) : (a.add n).block = a.block := by unfold Addr.add; split <;> rfl

theorem Row.kept {w w' : World} {A : Option Addr} {zs : List Int} (h : Row w A zs) (hb : Below w.heap.size w w') : Row w' A zs := fun h0 => by
  obtain ⟨ad, e, hl, hc⟩ := h h0
  exact ⟨ad, e, Nat.lt_of_lt_of_le hl hb.size, fun j v hv => (hb.cell (by rw [block_add]; exact hl)).trans (hc j v hv)⟩
theorem Row.of_lies {w : World} {q : Nat} {zs : List Int} (h : Lies w q 3 (zs.map (Value.int .i64))) : Row w (some ⟨q, 0, none⟩) zs := fun _ =>
  ⟨_, rfl, h.lt, fun j v hv => by
    have e : (⟨q, 0, none⟩ : Addr).add j = ⟨q, j, none⟩ := by unfold Addr.add; split <;> simp_all
    rw [e, h.cell j]; exact hv⟩
theorem Row.at_ {w : World} {A : Option Addr} {zs : List Int} (h : Row w A zs) {i : Nat} (hi : i < zs.length) : ∃ ad, A = some ad ∧ w.cell? (ad.add i) = some (.int .i64 (zs.getD i 0)) := by
  obtain ⟨ad, e, hl, hc⟩ := h (by omega)
  exact ⟨ad, e, hc i _ (by simp [List.getD, hi])⟩

/-- The built-in copy, onto a new block that is as long. -/
theorem run_copy51 (A : Option Addr) (c : Nat) (zs : List Int) (w : World) (hr : Row w A zs) :
    ∃ w2, (Builtin.copy_ #[38, 38] 3 #[.slice (some ⟨w.heap.size, 0, none⟩) zs.length zs.length, .slice A zs.length c]).run Try.prog (w.alloc (.cells (noughts zs.length).toArray 3)) = .ok (goInt zs.length) w2 ∧
      Lies w2 w.heap.size 3 (zs.map (Value.int .i64)) ∧ Below w.heap.size w w2 := by
  have hB : Below w.heap.size w (w.alloc (.cells (noughts zs.length).toArray 3)) := (Below.refl _ _).alloc (Nat.le_refl _) _
  rcases Nat.eq_zero_or_pos zs.length with h0 | h0
  · obtain rfl : zs = [] := List.eq_nil_of_length_eq_zero h0
    exact ⟨_, run_copy_none (P := Try.prog) _ 38 38 3 3 _ _ _ _ _ _ Try.underlying38 (by kernel_rfl) rfl, Lies.new w 3 (noughts 0), hB⟩
  · obtain ⟨ad, rfl, hl, hc⟩ := hr h0
    have hg : (w.alloc (.cells (noughts zs.length).toArray 3)).heap[w.heap.size]? = some (.cells (noughts zs.length).toArray 3 (0, 0)) := Lies.new w 3 (noughts zs.length)
    have hrun := run_copy_row (P := Try.prog) (w.alloc (.cells (noughts zs.length).toArray 3)) 38 38 3 3 w.heap.size 0 zs.length zs.length ad zs.length c _ 3 (zs.map (Value.int .i64)) Try.underlying38 (by kernel_rfl) hg (by simp)
      (fun j v hv => by rw [World.cell?_alloc_lt _ _ _ (by rw [block_add]; exact hl)]; exact hc j v hv) (by simp [noughts_length]) (fun v hv => by simp at hv; obtain ⟨a, _, rfl⟩ := hv; rfl)
    refine ⟨_, by simpa using hrun, ?_, below_setRow hB (Nat.le_refl _) _⟩
    unfold Lies
    rw [setRow_heap _ _ _ _ _ _ hg]
    simp [noughts]

theorem take_next {xs ys : List Int} {k : Nat} (h : xs.take k = ys.take k) (hx : k < xs.length) (hy : k < ys.length) (e : xs.getD k 0 = ys.getD k 0) : xs.take (k + 1) = ys.take (k + 1) := by
  rw [List.take_succ_eq_append_getElem hx, List.take_succ_eq_append_getElem hy, h]
  simp [List.getD, hx, hy] at e
  rw [e]
theorem below_draws (w : World) (n : Nat) : Below w.heap.size w (w.drewN n) := ⟨rfl, rfl, rfl, Nat.le_refl _, fun _ _ => rfl⟩

end Go.Proofs.Ytehmcbpkhknpcaa
