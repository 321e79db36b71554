/- A heap of the program in memory: the words that tell where it lies, and what stays as it is. -/
import Derived.Test.YtibfhpbklnpknaaSmall
namespace Go.Proofs.Ytibfhpbklnpknaa
open Go.RowKit
set_option linter.unusedVariables false

/-- Block g is just these cells, of that type; none of them is frozen. -/
def Lies (w : World) (g : Nat) (t : TypeId) (cs : List Value) : Prop := w.heap[g]? = some (.cells cs.toArray t (0, 0))

section
variable {w w' : World} {g : Nat} {t : TypeId} {cs : List Value}
theorem Lies.lt (h : Lies w g t cs) : g < w.heap.size := by
  unfold Lies at h
  exact (Array.getElem?_eq_some_iff.1 h).1
theorem Lies.cell (h : Lies w g t cs) (i : Nat) : w.cell? ⟨g, i, none⟩ = cs[i]? := by
  unfold Lies at h
  simp [World.cell?, h]
theorem Lies.frozen (h : Lies w g t cs) (i : Nat) : w.frozen? ⟨g, i, none⟩ = false := by
  unfold Lies at h
  simp [World.frozen?, h]
theorem Lies.new (w : World) (t : TypeId) (cs : List Value) : Lies (w.alloc (.cells cs.toArray t)) w.heap.size t cs := by
  unfold Lies
  show (w.heap.push _)[w.heap.size]? = _
  simp
theorem Lies.of_block (h : Lies w g t cs) (e : w'.heap[g]? = w.heap[g]?) : Lies w' g t cs := e.trans h
theorem Lies.alloc (h : Lies w g t cs) (o : Obj) : Lies (w.alloc o) g t cs := h.of_block (Below.heap_alloc w o g h.lt)
theorem Lies.drew (h : Lies w g t cs) : Lies w.drew g t cs := h
theorem Lies.below {B : Nat} (h : Lies w g t cs) (hb : Below B w w') (hg : g < B) : Lies w' g t cs := h.of_block (hb.block g hg)
theorem Lies.far (h : Lies w g t cs) {p : Addr} (hp : g ≠ p.block) (u : Value) : Lies (w.setCell p u) g t cs := h.of_block (Below.heap_setCell w p u g hp)
theorem Lies.set (h : Lies w g t cs) (i : Nat) (u : Value) : Lies (w.setCell ⟨g, i, none⟩ u) g t (cs.set i u) := by
  unfold Lies at h ⊢
  simp [World.setCell, Array.getElem?_modify, h]
theorem Lies.apart {g' : Nat} {t' : TypeId} {cs' : List Value} (h : Lies w g t cs) (h' : Lies w g' t' cs') (hne : t ≠ t') : g ≠ g' := by
  rintro rfl
  unfold Lies at h h'
  rw [h] at h'
  injection h' with h'
  injection h' with _ ht
  exact hne ht
end

/-- A heap of the program: its own three cells, its words, where objects begin. -/
structure HeapAt (w : World) (g gw gb : Nat) (zs : List Int) (top : Nat) (bs : List Bool) : Prop where
  own : Lies w g 69 [.slice (some ⟨gw, 0, none⟩) zs.length zs.length, .int .i64 top, .slice (some ⟨gb, 0, none⟩) zs.length zs.length]
  words : Lies w gw 3 (zs.map (Value.int .i64))
  begins : Lies w gb 4 (bs.map Value.bool)
  same : bs.length = zs.length
  some_ : 1 ≤ zs.length
  most : zs.length ≤ 65536
  fits : top ≤ zs.length

/-- All but three blocks are as they were. -/
structure Else (g gw gb : Nat) (w w' : World) : Prop where
  os : w'.os = w.os
  tape : w'.tape = w.tape
  output : w'.output = w.output
  size : w.heap.size ≤ w'.heap.size
  block : ∀ k, k < w.heap.size → k ≠ g → k ≠ gw → k ≠ gb → w'.heap[k]? = w.heap[k]?

theorem Else.refl (g gw gb : Nat) (w : World) : Else g gw gb w w := ⟨rfl, rfl, rfl, Nat.le_refl _, fun _ _ _ _ _ => rfl⟩
theorem Else.trans {g gw gb : Nat} {a b c : World} (h : Else g gw gb a b) (k : Else g gw gb b c) : Else g gw gb a c :=
  ⟨k.os.trans h.os, k.tape.trans h.tape, k.output.trans h.output, Nat.le_trans h.size k.size, fun i hi h1 h2 h3 => (k.block i (Nat.lt_of_lt_of_le hi h.size) h1 h2 h3).trans (h.block i hi h1 h2 h3)⟩
theorem Else.of_below {g gw gb : Nat} {w w' : World} (h : Below w.heap.size w w') : Else g gw gb w w' := ⟨h.os, h.tape, h.output, h.size, fun i hi _ _ _ => h.block i hi⟩
theorem Else.below {g gw gb B : Nat} {w w' : World} (h : Else g gw gb w w') (hB : B ≤ w.heap.size) (h1 : B ≤ g) (h2 : B ≤ gw) (h3 : B ≤ gb) : Below B w w' :=
  ⟨h.os, h.tape, h.output, h.size, fun k hk => h.block k (by omega) (by omega) (by omega) (by omega)⟩
theorem Else.lies {g gw gb b : Nat} {w w' : World} {t : TypeId} {cs : List Value} (h : Else g gw gb w w') (hl : Lies w b t cs) (h1 : b ≠ g) (h2 : b ≠ gw) (h3 : b ≠ gb) : Lies w' b t cs :=
  hl.of_block (h.block b hl.lt h1 h2 h3)

section
variable {w w' : World} {g gw gb : Nat} {zs : List Int} {top : Nat} {bs : List Bool}
theorem HeapAt.of_below (h : HeapAt w g gw gb zs top bs) {B : Nat} (hb : Below B w w') (h1 : g < B) (h2 : gw < B) (h3 : gb < B) : HeapAt w' g gw gb zs top bs :=
  ⟨h.own.below hb h1, h.words.below hb h2, h.begins.below hb h3, h.same, h.some_, h.most, h.fits⟩
theorem HeapAt.kept (h : HeapAt w g gw gb zs top bs) (hb : Below w.heap.size w w') : HeapAt w' g gw gb zs top bs :=
  h.of_below hb h.own.lt h.words.lt h.begins.lt
theorem HeapAt.alloc (h : HeapAt w g gw gb zs top bs) (o : Obj) : HeapAt (w.alloc o) g gw gb zs top bs :=
  ⟨h.own.alloc o, h.words.alloc o, h.begins.alloc o, h.same, h.some_, h.most, h.fits⟩
theorem HeapAt.c0 (h : HeapAt w g gw gb zs top bs) : w.cell? ⟨g, 0, none⟩ = some (.slice (some ⟨gw, 0, none⟩) zs.length zs.length) := h.own.cell 0
theorem HeapAt.c1 (h : HeapAt w g gw gb zs top bs) : w.cell? ⟨g, 1, none⟩ = some (.int .i64 top) := h.own.cell 1
theorem HeapAt.c2 (h : HeapAt w g gw gb zs top bs) : w.cell? ⟨g, 2, none⟩ = some (.slice (some ⟨gb, 0, none⟩) zs.length zs.length) := h.own.cell 2
theorem HeapAt.w_at (h : HeapAt w g gw gb zs top bs) {i : Nat} (hi : i < zs.length) : w.cell? ⟨gw, i, none⟩ = some (.int .i64 (zs.getD i 0)) := by
  rw [h.words.cell i]; simp [List.getD, hi]
theorem HeapAt.b_at (h : HeapAt w g gw gb zs top bs) {i : Nat} (hi : i < zs.length) : w.cell? ⟨gb, i, none⟩ = some (.bool (bs.getD i false)) := by
  have := h.same
  rw [h.begins.cell i]; simp [List.getD, this, hi]
end
end Go.Proofs.Ytibfhpbklnpknaa
