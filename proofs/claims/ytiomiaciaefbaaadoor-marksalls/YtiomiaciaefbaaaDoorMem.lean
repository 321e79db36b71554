/- A map of the program in memory: the words that tell where it lies, and what stays as it is. -/
import Derived.Test.YtiomiaciaefbaaaDoorProg
import Derived.Test.YtiomiaciaefbaaaDoorNum
import Derived.WalkKit
import Derived.WalkSpells
import Derived.WalkLawsBesides
import Derived.Laws.MakeOwn
import Derived.Deep.QuietTactic
import Derived.BigQuiet
import Derived.StillTailTactics
import Derived.Lib.Hide
namespace Go.Proofs.YtiomiaciaefbaaaDoor
open Go.RowKit
set_option linter.unusedVariables false

/-- Block g is just these cells, of that type; none of them is frozen. -/
def Lies (w : World) (g : Nat) (t : TypeId) (cs : List Value) : Prop := w.heap[g]? = some (.cells cs.toArray t (0, 0))

section
variable {w w' : World} {g : Nat} {t : TypeId} {cs : List Value}
theorem Lies.lt (h : Lies w g t cs) : g < w.heap.size := by
  unfold Lies at h
  exact (Array.getElem?_eq_some_iff.1 h).1
theorem Lies.cell (h : Lies w g t cs) (i : Nat) : w.cell? ⟨g, i, none⟩ = cs[i]? := by
  unfold Lies at h
  simp [World.cell?, h]
theorem Lies.frozen (h : Lies w g t cs) (i : Nat) : w.frozen? ⟨g, i, none⟩ = false := by
  unfold Lies at h
  simp [World.frozen?, h]
theorem Lies.new (w : World) (t : TypeId) (cs : List Value) : Lies (w.alloc (.cells cs.toArray t)) w.heap.size t cs := by
  unfold Lies
  show (w.heap.push _)[w.heap.size]? = _
  simp
theorem Lies.of_block (h : Lies w g t cs) (e : w'.heap[g]? = w.heap[g]?) : Lies w' g t cs := e.trans h
theorem Lies.alloc (h : Lies w g t cs) (o : Obj) : Lies (w.alloc o) g t cs := h.of_block (Below.heap_alloc w o g h.lt)
theorem Lies.drew (h : Lies w g t cs) : Lies w.drew g t cs := h
theorem Lies.below {B : Nat} (h : Lies w g t cs) (hb : Below B w w') (hg : g < B) : Lies w' g t cs := h.of_block (hb.block g hg)
theorem Lies.kept (h : Lies w g t cs) (hb : Below w.heap.size w w') : Lies w' g t cs := h.below hb h.lt
theorem Lies.far (h : Lies w g t cs) {p : Addr} (hp : g ≠ p.block) (u : Value) : Lies (w.setCell p u) g t cs := h.of_block (Below.heap_setCell w p u g hp)
theorem Lies.set (h : Lies w g t cs) (i : Nat) (u : Value) : Lies (w.setCell ⟨g, i, none⟩ u) g t (cs.set i u) := by
  unfold Lies at h ⊢
  simp [World.setCell, Array.getElem?_modify, h]
theorem Lies.apart {g' : Nat} {t' : TypeId} {cs' : List Value} (h : Lies w g t cs) (h' : Lies w g' t' cs') (hne : t ≠ t') : g ≠ g' := by
  rintro rfl
  unfold Lies at h h'
  rw [h] at h'
  injection h' with h'
  injection h' with _ ht
  exact hne ht
end

/-- One step more, behind which nothing that was there has turned. -/
theorem on {B : Nat} {a b c : World} (h : Below B a b) (hB : B ≤ b.heap.size) (k : Below b.heap.size b c) : Below B a c := h.trans (k.mono hB)
theorem ret_bool {a b : Bool} (h : a = b) : Ending.returned (.bool a) = .returned (.bool b) := by rw [h]
theorem below_one (w : World) (X : Obj) : Below w.heap.size w (w.alloc X) := (Below.refl _ _).alloc (Nat.le_refl _) _

/-- The bit of a place. -/
def bit (ws : List Nat) (p : Nat) : Bool := (ws.getD (p / 64) 0).testBit (p % 64)

/-- A map of n places: its own two cells, its words. -/
structure At (w : World) (g gw n : Nat) (ws : List Nat) : Prop where
  own : Lies w g 46 [.int .i64 n, .slice (some ⟨gw, 0, none⟩) ws.length ws.length]
  words : Lies w gw 47 (ws.map fun x => Value.int .u64 (x : Nat))
  many : ws.length = (n + 63) / 64
  some_ : 1 ≤ n
  most : n ≤ 65536
  fit : ∀ x ∈ ws, x < 18446744073709551616
  in_ : ∀ p, bit ws p = true → p < n

/-- All but two blocks are as they were. -/
structure Else (g gw : Nat) (w w' : World) : Prop where
  os : w'.os = w.os
  tape : w'.tape = w.tape
  output : w'.output = w.output
  size : w.heap.size ≤ w'.heap.size
  block : ∀ k, k < w.heap.size → k ≠ g → k ≠ gw → w'.heap[k]? = w.heap[k]?

theorem Else.refl (g gw : Nat) (w : World) : Else g gw w w := ⟨rfl, rfl, rfl, Nat.le_refl _, fun _ _ _ _ => rfl⟩
theorem Else.of_below {g gw : Nat} {w w' : World} (h : Below w.heap.size w w') : Else g gw w w' := ⟨h.os, h.tape, h.output, h.size, fun i hi _ _ => h.block i hi⟩
theorem Else.below {g gw B : Nat} {w w' : World} (h : Else g gw w w') (hB : B ≤ w.heap.size) (h1 : B ≤ g) (h2 : B ≤ gw) : Below B w w' :=
  ⟨h.os, h.tape, h.output, h.size, fun k hk => h.block k (by omega) (by omega) (by omega)⟩
theorem Else.lies {g gw b : Nat} {w w' : World} {t : TypeId} {cs : List Value} (h : Else g gw w w') (hl : Lies w b t cs) (h1 : b ≠ g) (h2 : b ≠ gw) : Lies w' b t cs :=
  hl.of_block (h.block b hl.lt h1 h2)
theorem Else.trans {g gw : Nat} {a b c : World} (h : Else g gw a b) (k : Else g gw b c) : Else g gw a c :=
  ⟨k.os.trans h.os, k.tape.trans h.tape, k.output.trans h.output, Nat.le_trans h.size k.size, fun i hi h1 h2 =>
    (k.block i (Nat.lt_of_lt_of_le hi h.size) h1 h2).trans (h.block i hi h1 h2)⟩

section
variable {w w' : World} {g gw n : Nat} {ws : List Nat}
theorem At.gne (h : At w g gw n ws) : g ≠ gw := h.own.apart h.words (by decide)
theorem At.of_blocks (h : At w g gw n ws) (h1 : w'.heap[g]? = w.heap[g]?) (h2 : w'.heap[gw]? = w.heap[gw]?) : At w' g gw n ws :=
  ⟨h.own.of_block h1, h.words.of_block h2, h.many, h.some_, h.most, h.fit, h.in_⟩
theorem At.kept (h : At w g gw n ws) (hb : Below w.heap.size w w') : At w' g gw n ws := h.of_blocks (hb.block g h.own.lt) (hb.block gw h.words.lt)
theorem At.alloc (h : At w g gw n ws) (o : Obj) : At (w.alloc o) g gw n ws := h.kept (below_one w o)
theorem At.far (h : At w g gw n ws) {g' gw' : Nat} (he : Else g' gw' w w') (h1 : g ≠ g') (h2 : g ≠ gw') (h3 : gw ≠ g') (h4 : gw ≠ gw') : At w' g gw n ws :=
  h.of_blocks (he.block g h.own.lt h1 h2) (he.block gw h.words.lt h3 h4)
theorem At.c0 (h : At w g gw n ws) : w.cell? ⟨g, 0, none⟩ = some (.int .i64 n) := h.own.cell 0
theorem At.c1 (h : At w g gw n ws) : w.cell? ⟨g, 1, none⟩ = some (.slice (some ⟨gw, 0, none⟩) ws.length ws.length) := h.own.cell 1
theorem At.word (h : At w g gw n ws) {i : Nat} (hi : i < ws.length) : w.cell? ⟨gw, i, none⟩ = some (.int .u64 (ws.getD i 0 : Nat)) := by
  rw [h.words.cell i]; simp [List.getD, hi]
theorem At.lt (h : At w g gw n ws) (i : Nat) : ws.getD i 0 < 18446744073709551616 := by
  by_cases hi : i < ws.length
  · have := h.fit ws[i] (List.getElem_mem hi)
    simpa [List.getD, hi] using this
  · simp [List.getD, hi]
theorem At.place (h : At w g gw n ws) {p : Nat} (hp : p < n) : p / 64 < ws.length := by rw [h.many]; omega
end
end Go.Proofs.YtiomiaciaefbaaaDoor
