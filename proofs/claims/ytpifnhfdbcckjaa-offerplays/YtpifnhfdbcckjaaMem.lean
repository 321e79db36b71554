/- Cells of the program in memory: the words that tell where they lie, and what stays as it is. -/
import Derived.Test.YtpifnhfdbcckjaaProg
import Derived.WalkKit
import Derived.WalkSpells
import Derived.WalkLawsBesides
import Derived.Laws.MakeOwn
import Derived.Laws.CopyOwn
import Derived.Maps.AppendAt
import Derived.Deep.QuietTactic
import Derived.BigQuiet
import Derived.Lib.Hide
namespace Go.Proofs.Ytpifnhfdbcckjaa
open Go.RowKit
set_option linter.unusedVariables false

/-- Block g is just these cells, of that type; none of them is frozen. -/
def Lies (w : World) (g : Nat) (t : TypeId) (cs : List Value) : Prop := w.heap[g]? = some (.cells cs.toArray t (0, 0))

section
variable {w w' : World} {g : Nat} {t : TypeId} {cs : List Value}
theorem Lies.lt (h : Lies w g t cs) : g < w.heap.size := by
  unfold Lies at h
  exact (Array.getElem?_eq_some_iff.1 h).1
theorem Lies.cell (h : Lies w g t cs) (i : Nat) : w.cell? ⟨g, i, none⟩ = cs[i]? := by
  unfold Lies at h
  simp [World.cell?, h]
theorem Lies.frozen (h : Lies w g t cs) (i : Nat) : w.frozen? ⟨g, i, none⟩ = false := by
  unfold Lies at h
  simp [World.frozen?, h]
theorem Lies.new (w : World) (t : TypeId) (cs : List Value) : Lies (w.alloc (.cells cs.toArray t)) w.heap.size t cs := by
  unfold Lies
  show (w.heap.push _)[w.heap.size]? = _
  simp
theorem Lies.of_block (h : Lies w g t cs) (e : w'.heap[g]? = w.heap[g]?) : Lies w' g t cs := e.trans h
theorem Lies.alloc (h : Lies w g t cs) (o : Obj) : Lies (w.alloc o) g t cs := h.of_block (Below.heap_alloc w o g h.lt)
theorem Lies.drew (h : Lies w g t cs) : Lies w.drew g t cs := h
theorem Lies.below {B : Nat} (h : Lies w g t cs) (hb : Below B w w') (hg : g < B) : Lies w' g t cs := h.of_block (hb.block g hg)
theorem Lies.kept (h : Lies w g t cs) (hb : Below w.heap.size w w') : Lies w' g t cs := h.below hb h.lt
theorem Lies.far (h : Lies w g t cs) {p : Addr} (hp : g ≠ p.block) (u : Value) : Lies (w.setCell p u) g t cs := h.of_block (Below.heap_setCell w p u g hp)
theorem Lies.set (h : Lies w g t cs) (i : Nat) (u : Value) : Lies (w.setCell ⟨g, i, none⟩ u) g t (cs.set i u) := by
  unfold Lies at h ⊢
  simp [World.setCell, Array.getElem?_modify, h]
theorem Lies.apart {g' : Nat} {t' : TypeId} {cs' : List Value} (h : Lies w g t cs) (h' : Lies w g' t' cs') (hne : t ≠ t') : g ≠ g' := by
  rintro rfl
  unfold Lies at h h'
  rw [h] at h'
  injection h' with h'
  injection h' with _ ht
  exact hne ht
end

/-- One step more, behind which nothing that was there has turned. -/
theorem on {B : Nat} {a b c : World} (h : Below B a b) (hB : B ≤ b.heap.size) (k : Below b.heap.size b c) : Below B a c := h.trans (k.mono hB)
theorem ret_bool {a b : Bool} (h : a = b) : Ending.returned (.bool a) = .returned (.bool b) := by rw [h]
theorem below_one (w : World) (X : Obj) : Below w.heap.size w (w.alloc X) := (Below.refl _ _).alloc (Nat.le_refl _) _

/-- A touch, as its five numbers. -/
structure Tc where
  who : Int
  place : Int
  what : Int
  was : Int
  is : Int
def Tc.cells (t : Tc) : List Value := [.int .i64 t.who, .int .i64 t.place, .int .i64 t.what, .int .i64 t.was, .int .i64 t.is]
def cellsT (ts : List Tc) : List Value := ts.flatMap Tc.cells
theorem cellsT_nil : cellsT [] = [] := rfl
theorem cellsT_add (ts : List Tc) (t : Tc) : cellsT (ts ++ [t]) = cellsT ts ++ t.cells := by simp [cellsT]
theorem cellsT_len : ∀ ts : List Tc, (cellsT ts).length = ts.length * 5
  | [] => rfl
  | t :: l => by
    have := cellsT_len l
    simp only [cellsT, List.flatMap_cons, List.length_append, List.length_cons, Tc.cells, List.length_nil] at this ⊢
    omega

/-- Cells: their own three words, the words, the touches in a row of their own. -/
structure At (w : World) (base g gw : Nat) (zs : List Int) (A : Option Addr) (c : Nat) (ts : List Tc) : Prop where
  own : Lies w g 53 [.slice (some ⟨gw, 0, none⟩) zs.length zs.length, .slice A ts.length c, .int .i64 0]
  words : Lies w gw 3 (zs.map (Value.int .i64))
  log : w.ownsRow base 58 5 (.slice A ts.length c) ts.length (cellsT ts)
  some_ : 1 ≤ zs.length
  most : zs.length ≤ 65536
  lo : base ≤ g
  lo' : base ≤ gw

/-- All but two blocks, and a row, are as they were. -/
structure Else (g gw : Nat) (row : Option Nat) (w w' : World) : Prop where
  os : w'.os = w.os
  tape : w'.tape = w.tape
  output : w'.output = w.output
  size : w.heap.size ≤ w'.heap.size
  block : ∀ k, k < w.heap.size → k ≠ g → k ≠ gw → some k ≠ row → w'.heap[k]? = w.heap[k]?

def blk (A : Option Addr) : Option Nat := A.map Addr.block
theorem own_blk (A : Option Addr) (n c : Nat) : (Value.slice A n c).ownBlock = blk A := by cases A <;> rfl

theorem Else.refl (g gw : Nat) (row : Option Nat) (w : World) : Else g gw row w w := ⟨rfl, rfl, rfl, Nat.le_refl _, fun _ _ _ _ _ => rfl⟩
theorem Else.of_below {g gw : Nat} {row : Option Nat} {w w' : World} (h : Below w.heap.size w w') : Else g gw row w w' := ⟨h.os, h.tape, h.output, h.size, fun i hi _ _ _ => h.block i hi⟩
theorem Else.below {g gw B : Nat} {row : Option Nat} {w w' : World} (h : Else g gw row w w') (hB : B ≤ w.heap.size) (h1 : B ≤ g) (h2 : B ≤ gw) (h3 : ∀ k, row = some k → B ≤ k) : Below B w w' :=
  ⟨h.os, h.tape, h.output, h.size, fun k hk => h.block k (by omega) (by omega) (by omega) (fun e => by have := h3 k e.symm; omega)⟩
theorem Else.lies {g gw b : Nat} {row : Option Nat} {w w' : World} {t : TypeId} {cs : List Value} (h : Else g gw row w w') (hl : Lies w b t cs) (h1 : b ≠ g) (h2 : b ≠ gw) (h3 : some b ≠ row) : Lies w' b t cs :=
  hl.of_block (h.block b hl.lt h1 h2 h3)
/-- The row may have moved, to a place that is new. -/
def Moved (w : World) (r r' : Option Nat) : Prop := r' = r ∨ ∃ k, r' = some k ∧ w.heap.size ≤ k
theorem Else.trans {g gw : Nat} {r r' : Option Nat} {a b c : World} (h : Else g gw r a b) (k : Else g gw r' b c) (m : Moved a r r') : Else g gw r a c :=
  ⟨k.os.trans h.os, k.tape.trans h.tape, k.output.trans h.output, Nat.le_trans h.size k.size, fun i hi h1 h2 h3 =>
    (k.block i (Nat.lt_of_lt_of_le hi h.size) h1 h2 (by
      rcases m with rfl | ⟨q, rfl, hq⟩
      · exact h3
      · intro e; injection e with e; omega)).trans (h.block i hi h1 h2 h3)⟩
theorem Moved.trans {a b : World} {r r' r'' : Option Nat} (h : Moved a r r') (k : Moved b r' r'') (hs : a.heap.size ≤ b.heap.size) : Moved a r r'' := by
  rcases k with rfl | ⟨q, rfl, hq⟩
  · exact h
  · exact Or.inr ⟨q, rfl, by omega⟩

section
variable {w w' : World} {base g gw : Nat} {zs : List Int} {A : Option Addr} {c : Nat} {ts : List Tc}
theorem At.gne (h : At w base g gw zs A c ts) : g ≠ gw := h.own.apart h.words (by decide)
theorem At.row_of (h : At w base g gw zs A c ts) : ∀ k, blk A = some k → base ≤ k ∧ k < w.heap.size ∧ k ≠ g ∧ k ≠ gw := fun k hk => by
  have hl := h.log.lt k (by rw [own_blk]; exact hk)
  obtain ⟨_, ⟨e, _⟩ | ⟨q, cap, cur, e, _, hq, _⟩⟩ := h.log
  · injection e with e; subst e; cases hk
  · injection e with e; subst e
    obtain rfl : q = k := by simpa [blk] using hk
    have : Lies w q 58 cur.toList := hq
    exact ⟨hl.1, hl.2, this.apart h.own (by decide), this.apart h.words (by decide)⟩
theorem owns_of_block {w w' : World} {base n size : Nat} {e : TypeId} {v : Value} {xs : List Value} (h : w.ownsRow base e size v n xs) (hb : ∀ k, v.ownBlock = some k → w'.heap[k]? = w.heap[k]?) : w'.ownsRow base e size v n xs := by
  obtain ⟨h1, h2 | ⟨q, cap, cur, rfl, hq0, hq, hq'⟩⟩ := h
  · exact ⟨h1, Or.inl h2⟩
  · exact ⟨h1, Or.inr ⟨q, cap, cur, rfl, hq0, (hb q rfl).trans hq, hq'⟩⟩
theorem At.kept (h : At w base g gw zs A c ts) (hb : Below w.heap.size w w') : At w' base g gw zs A c ts :=
  ⟨h.own.kept hb, h.words.kept hb, owns_of_block h.log fun k hk => hb.block k (h.row_of k (by rw [own_blk] at hk; exact hk)).2.1, h.some_, h.most, h.lo, h.lo'⟩
theorem At.old (h : At w base g gw zs A c ts) : base ≤ w.heap.size := by have := h.own.lt; have := h.lo; omega
theorem At.below (h : At w base g gw zs A c ts) (he : Else g gw (blk A) w w') : Below base w w' :=
  he.below h.old h.lo h.lo' fun k hk => (h.row_of k hk).1
end
end Go.Proofs.Ytpifnhfdbcckjaa
