/- Regions in memory: a row of what stays, of each, its live words, and where it goes. -/
import Derived.Test.YtehmcbpkhknpcaaMar
namespace Go.Proofs.Ytehmcbpkhknpcaa
set_option maxRecDepth 20000
open Go.RowKit
set_option linter.unusedVariables false
set_option linter.unusedSimpArgs false

structure Reg where
  B : Option Addr
  cap : Nat
  row : List Int
  live : Nat
  first : Nat
def Reg.cells (x : Reg) : List Value := [.slice x.B x.row.length x.cap, .int .i64 (x.live : Nat), .int .i64 (x.first : Nat)]
def regC (l : List Reg) : List Value := l.flatMap Reg.cells
theorem regC_cons (x : Reg) (l : List Reg) : regC (x :: l) = .slice x.B x.row.length x.cap :: .int .i64 (x.live : Nat) :: .int .i64 (x.first : Nat) :: regC l := rfl
theorem regC_len : ∀ l : List Reg, (regC l).length = 3 * l.length
  | [] => rfl
  | x :: l => by rw [regC_cons]; simp [regC_len l]; omega
theorem regC_at : ∀ {l : List Reg} {k : Nat} {x : Reg}, l[k]? = some x → (regC l)[k * 3]? = some (.slice x.B x.row.length x.cap) ∧ (regC l)[k * 3 + 1]? = some (.int .i64 (x.live : Nat)) ∧ (regC l)[k * 3 + 2]? = some (.int .i64 (x.first : Nat))
  | [], k, x, h => by simp at h
  | y :: l, 0, x, h => by
    simp at h; subst h
    exact ⟨rfl, rfl, rfl⟩
  | y :: l, k + 1, x, h => by
    simp at h
    have := regC_at h
    rw [regC_cons]
    have e : (k + 1) * 3 = k * 3 + 1 + 1 + 1 := by omega
    rw [e]
    simpa using this
theorem regC_set : ∀ {l : List Reg} {k : Nat} {x : Reg} (y : Reg), l[k]? = some x →
    regC (l.set k y) = (((regC l).set (k * 3) (.slice y.B y.row.length y.cap)).set (k * 3 + 1) (.int .i64 (y.live : Nat))).set (k * 3 + 2) (.int .i64 (y.first : Nat))
  | [], k, x, y, h => by simp at h
  | z :: l, 0, x, y, h => rfl
  | z :: l, k + 1, x, y, h => by
    simp at h
    have := regC_set y h
    rw [List.set_cons_succ, regC_cons, this, regC_cons]
    have e : (k + 1) * 3 = k * 3 + 1 + 1 + 1 := by omega
    rw [e]
    simp

/-- Regions in memory: their cells in block q, their rows behind base, each in a block of its own. -/
structure Rg (w : World) (base q : Nat) (l : List Reg) : Prop where
  own : Lies w q 93 (regC l)
  rows : ∀ x ∈ l, Rv w base x.B x.cap x.row
  apart : ∀ (i j : Nat) (x y : Reg), l[i]? = some x → l[j]? = some y → i ≠ j → blk x.B = blk y.B → blk x.B = none
  lo : q < base

/-- Blocks but those of regions are as they were. -/
structure Pass (q base : Nat) (w w' : World) : Prop where
  os : w'.os = w.os
  tape : w'.tape = w.tape
  output : w'.output = w.output
  size : w.heap.size ≤ w'.heap.size
  block : ∀ k, k < w.heap.size → k ≠ q → k < base → w'.heap[k]? = w.heap[k]?
  others : ∀ (k : Nat) (cs : Array Value) (t : TypeId) (fr : Nat × Nat), w.heap[k]? = some (.cells cs t fr) → t ≠ 3 → k ≠ q → w'.heap[k]? = w.heap[k]?
  keeps : KeepsOthers w w'
theorem Pass.below {q base : Nat} {w w' : World} (h : Pass q base w w') (hq : q ≤ base) : q ≤ w.heap.size → Below q w w' := fun hs =>
  ⟨h.os, h.tape, h.output, h.size, fun k hk => h.block k (by omega) (by omega) (by omega)⟩
theorem keeps_below {w w' : World} (h : Below w.heap.size w w') : KeepsOthers w w' := ⟨h.size, fun k o hk _ => (h.block k (Array.getElem?_eq_some_iff.1 hk).1).trans hk⟩
theorem Pass.of_below {q base : Nat} {w w' : World} (h : Below w.heap.size w w') : Pass q base w w' :=
  ⟨h.os, h.tape, h.output, h.size, fun k hk _ _ => h.block k hk, fun k cs t fr hk _ _ => h.block k (Array.getElem?_eq_some_iff.1 hk).1, keeps_below h⟩
theorem Pass.trans {q base : Nat} {a b c : World} (h : Pass q base a b) (k : Pass q base b c) : Pass q base a c :=
  ⟨k.os.trans h.os, k.tape.trans h.tape, k.output.trans h.output, Nat.le_trans h.size k.size, fun i hi h1 h2 => (k.block i (Nat.lt_of_lt_of_le hi h.size) h1 h2).trans (h.block i hi h1 h2),
    fun i cs t fr hi h1 h2 => (k.others i cs t fr ((h.others i cs t fr hi h1 h2).trans hi) h1 h2).trans (h.others i cs t fr hi h1 h2), h.keeps.trans k.keeps⟩
theorem Pass.lies {q base b : Nat} {w w' : World} {t : TypeId} {cs : List Value} (h : Pass q base w w') (hl : Lies w b t cs) (ht : t ≠ 3) (hb : b ≠ q) : Lies w' b t cs := hl.of_block (h.others b _ t _ hl ht hb)
theorem Pass.set {q base : Nat} (w : World) (i : Nat) (u : Value) : Pass q base w (w.setCell ⟨q, i, none⟩ u) :=
  ⟨rfl, rfl, rfl, by simp, fun k _ h1 _ => Below.heap_setCell w ⟨q, i, none⟩ u k h1, fun k _ _ _ _ _ h1 => Below.heap_setCell w ⟨q, i, none⟩ u k h1, KeepsOthers.setCell _ _ _⟩

section
variable {w w' : World} {base q : Nat} {l : List Reg}
theorem Rg.kept (h : Rg w base q l) (hb : Below w.heap.size w w') : Rg w' base q l := ⟨h.own.kept hb, fun x hx => (h.rows x hx).below hb, h.apart, h.lo⟩
theorem Rg.cells (h : Rg w base q l) {k : Nat} {x : Reg} (hx : l[k]? = some x) : w.cell? ⟨q, k * 3, none⟩ = some (.slice x.B x.row.length x.cap) ∧ w.cell? ⟨q, k * 3 + 1, none⟩ = some (.int .i64 (x.live : Nat)) ∧ w.cell? ⟨q, k * 3 + 2, none⟩ = some (.int .i64 (x.first : Nat)) := by
  obtain ⟨h1, h2, h3⟩ := regC_at hx
  exact ⟨by rw [h.own.cell]; exact h1, by rw [h.own.cell]; exact h2, by rw [h.own.cell]; exact h3⟩
/-- One region's numbers are turned. -/
theorem Rg.nums (h : Rg w base q l) {k : Nat} {x : Reg} (hx : l[k]? = some x) (live first : Nat) {w' : World} (own : Lies w' q 93 (regC (l.set k { x with live := live, first := first }))) (hs : ∀ b, b ≠ q → w'.heap[b]? = w.heap[b]?) : Rg w' base q (l.set k { x with live := live, first := first }) := by
  refine ⟨own, fun y hy => ?_, fun i j y z hy hz hij hb => ?_, h.lo⟩
  · have hR : ∀ y ∈ l, Rv w' base y.B y.cap y.row := fun y hy => (h.rows y hy).off fun b hb _ => hs b (by have := h.lo; omega)
    rcases List.mem_or_eq_of_mem_set hy with hy | rfl
    · exact hR y hy
    · exact hR x (List.mem_of_getElem? hx)
  · have hf : ∀ (i : Nat) (y : Reg), (l.set k { x with live := live, first := first })[i]? = some y → ∃ y' : Reg, l[i]? = some y' ∧ y'.B = y.B := fun i y hy => by
      rw [List.getElem?_set] at hy
      split at hy
      · next e =>
        subst e
        split at hy
        · injection hy with hy
          exact ⟨x, hx, by rw [← hy]⟩
        · cases hy
      · exact ⟨y, hy, rfl⟩
    obtain ⟨y', h1, e1⟩ := hf i y hy
    obtain ⟨z', h2, e2⟩ := hf j z hz
    rw [← e1]
    exact h.apart i j y' z' h1 h2 hij (by rw [e1, e2]; exact hb)
/-- One region's row grows. -/
theorem Rg.grown (h : Rg w base q l) (hbase : base ≤ w.heap.size) {k : Nat} {x : Reg} (hx : l[k]? = some x) {B' : Option Addr} {cap' : Nat} {y : Int} (R : Rv w' base B' cap' (x.row ++ [y])) (G : w.grownBy w' (blk x.B)) (M : blk B' = blk x.B ∨ blk B' = some w.heap.size) :
    (∀ i z, l[i]? = some z → i ≠ k → Rv w' base z.B z.cap z.row ∧ (blk z.B = blk B' → blk z.B = none)) ∧ Lies w' q 93 (regC l) ∧ Pass q base w w' := by
  have hlt := h.lo
  have hnb : ∀ b, b < base → some b ≠ blk x.B := fun b hb e => by have := ((h.rows x (List.mem_of_getElem? hx)).blk_lt e.symm).1; omega
  refine ⟨fun i z hz hik => ⟨?_, fun e => ?_⟩, h.own.of_block (G.block q h.own.lt (hnb q hlt)), ⟨G.os, G.tape, G.output, G.size, fun b hb _ h2 => G.block b hb (hnb b h2), fun b cs t fr hb ht _ => G.block b (Array.getElem?_eq_some_iff.1 hb).1 fun e => ?_, KeepsOthers.of_grownBy G fun j o e hj => ?_⟩⟩
  · refine (h.rows z (List.mem_of_getElem? hz)).kept fun b cs hb hl => hl.of_block (G.block b hl.lt fun e => ?_)
    have := h.apart i k z x hz hx hik (by rw [hb, e])
    rw [hb] at this; cases this
  · rcases M with e2 | e2
    · exact h.apart i k z x hz hx hik (e.trans e2)
    · cases hz2 : blk z.B with
      | none => rfl
      | some b =>
        have := ((h.rows z (List.mem_of_getElem? hz)).blk_lt hz2).2
        rw [hz2, e2] at e
        injection e with e
        omega
  · obtain ⟨cs', hl, _⟩ := (h.rows x (List.mem_of_getElem? hx)).lies e.symm
    unfold Lies at hl
    rw [hl] at hb
    injection hb with hb
    injection hb with _ hb
    exact ht hb.symm
  · obtain ⟨cs', hl, _⟩ := (h.rows x (List.mem_of_getElem? hx)).lies e
    unfold Lies at hl
    rw [hl] at hj
    injection hj with hj
    rw [← hj]; rfl
end
end Go.Proofs.Ytehmcbpkhknpcaa
