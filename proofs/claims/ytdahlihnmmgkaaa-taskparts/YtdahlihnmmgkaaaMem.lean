/- A task's parts as plain numbers, and a row of them in memory. -/
import Derived.Test.YtdahlihnmmgkaaaBase
import Derived.Laws.MakeOwn
import Derived.Maps.AppendAt
import Derived.Deep.AppendLies
import Derived.Deep.RegionLaw
import Derived.Lib.Hide
namespace Go.Proofs.Ytdahlihnmmgkaaa
open Go.RowKit
set_option linter.unusedVariables false
set_option linter.unusedSimpArgs false

/-- Block g is just these cells, of that type; none of them is frozen. -/
def Lies (w : World) (g : Nat) (t : TypeId) (cs : List Value) : Prop := w.heap[g]? = some (.cells cs.toArray t (0, 0))

section
variable {w w' : World} {g : Nat} {t : TypeId} {cs : List Value}
theorem Lies.lt (h : Lies w g t cs) : g < w.heap.size := by
  unfold Lies at h
  exact (Array.getElem?_eq_some_iff.1 h).1
theorem Lies.cell (h : Lies w g t cs) (i : Nat) : w.cell? ⟨g, i, none⟩ = cs[i]? := by
  unfold Lies at h
  simp [World.cell?, h]
theorem Lies.frozen (h : Lies w g t cs) (i : Nat) : w.frozen? ⟨g, i, none⟩ = false := by
  unfold Lies at h
  simp [World.frozen?, h]
theorem Lies.new (w : World) (t : TypeId) (cs : List Value) : Lies (w.alloc (.cells cs.toArray t)) w.heap.size t cs := by
  unfold Lies
  show (w.heap.push _)[w.heap.size]? = _
  simp
theorem Lies.of_block (h : Lies w g t cs) (e : w'.heap[g]? = w.heap[g]?) : Lies w' g t cs := e.trans h
theorem Lies.alloc (h : Lies w g t cs) (o : Obj) : Lies (w.alloc o) g t cs := h.of_block (Below.heap_alloc w o g h.lt)
theorem Lies.below {B : Nat} (h : Lies w g t cs) (hb : Below B w w') (hg : g < B) : Lies w' g t cs := h.of_block (hb.block g hg)
theorem Lies.kept (h : Lies w g t cs) (hb : Below w.heap.size w w') : Lies w' g t cs := h.below hb h.lt
theorem Lies.far (h : Lies w g t cs) {p : Addr} (hp : g ≠ p.block) (u : Value) : Lies (w.setCell p u) g t cs := h.of_block (Below.heap_setCell w p u g hp)
theorem Lies.set (h : Lies w g t cs) (i : Nat) (u : Value) : Lies (w.setCell ⟨g, i, none⟩ u) g t (cs.set i u) := by
  unfold Lies at h ⊢
  simp [World.setCell, Array.getElem?_modify, h]
end
theorem below_one (w : World) (X : Obj) : Below w.heap.size w (w.alloc X) := (Below.refl _ _).alloc (Nat.le_refl _) _

/-- Where part k begins. -/
def fr (f m : Int) : Nat → Int
  | 0 => f
  | k + 1 => fr f m k + m
/-- A task's three numbers. -/
def part (a x y : Int) : List Value := [.int .i64 a, .int .i64 x, .int .i64 y]
/-- The first k parts, all of m words. -/
def full (a f m : Int) : Nat → List Value
  | 0 => []
  | k + 1 => full a f m k ++ part a (fr f m k) (fr f m (k + 1))
/-- All parts: k of m words, and what is left. -/
def row (a f t m : Int) (k : Nat) : List Value := full a f m k ++ part a (fr f m k) t

theorem fr_ge (f m : Int) (hm : 1 ≤ m) : ∀ k : Nat, f + k ≤ fr f m k
  | 0 => by simp [fr]
  | k + 1 => by have := fr_ge f m hm k; simp only [fr]; omega
theorem full_len (a f m : Int) : ∀ k : Nat, (full a f m k).length = k * 3
  | 0 => rfl
  | k + 1 => by simp [full, full_len a f m k, part]; omega
theorem row_len (a f t m : Int) (k : Nat) : (row a f t m k).length = (k + 1) * 3 := by simp [row, full_len, part]; omega
theorem full_at (a f m : Int) : ∀ (k i j : Nat), i < k → j < 3 → (full a f m k)[i * 3 + j]? = (part a (fr f m i) (fr f m (i + 1)))[j]?
  | 0, i, j, h, _ => by omega
  | k + 1, i, j, h, hj => by
    unfold full
    by_cases hi : i < k
    · rw [List.getElem?_append_left (by rw [full_len]; omega)]
      exact full_at a f m k i j hi hj
    · obtain rfl : i = k := by omega
      rw [List.getElem?_append_right (by rw [full_len]; omega), full_len]
      congr 1; omega
/-- Where part i of these ends. -/
def upto (f t m : Int) (k i : Nat) : Int := if i < k then fr f m (i + 1) else t
theorem row_at (a f t m : Int) (k i j : Nat) (hi : i ≤ k) (hj : j < 3) : (row a f t m k)[i * 3 + j]? = (part a (fr f m i) (upto f t m k i))[j]? := by
  unfold row upto
  by_cases h : i < k
  · rw [if_pos h, List.getElem?_append_left (by rw [full_len]; omega), full_at a f m k i j h hj]
  · obtain rfl : i = k := by omega
    rw [if_neg h, List.getElem?_append_right (by rw [full_len]; omega), full_len]
    congr 1; omega

theorem info_23 : ∃ i z, Try.prog.info? 23 = some i ∧ i.zero = some z ∧ i.size = 3 ∧ i.bytes = 24 ∧ z.cells.size = 3 := ⟨_, _, rfl, rfl, rfl, rfl, rfl⟩

def blk (A : Option Addr) : Option Nat := A.map Addr.block
theorem own_blk (A : Option Addr) (n c : Nat) : (Value.slice A n c).ownBlock = blk A := by cases A <;> rfl

/-- append of one task. -/
theorem wpList_part {ops : Array Oper} {rest : List Oper} {o : Oper} {a : Act} {W : World} {Q : Exit → Act → World → Prop} (hgd : o.guard = none) (s x : Operand)
    (ho : o.op = .call { callee := .builtin .append, args := #[s, x], argTypes := #[37, 37] })
    (base : Nat) (A : Option Addr) (c n : Nat) (xs : List Value) (hs : a.eval s = .slice A n c) (hown : W.ownsRow base 23 3 (.slice A n c) n xs)
    (ad : Addr) (t1 t2 t3 : Int) (hx : a.eval x = .slice (some ad) 1 1) (hnews : ∀ j u, (part t1 t2 t3)[j]? = some u → W.cell? (ad.add j) = some u) (hn : n ≤ 4096) (hbase : base ≤ W.heap.size)
    (h : ∀ g cap w', w'.ownsRow base 23 3 (.slice (some ⟨g, 0, none⟩) (n + 1) cap) (n + 1) (xs ++ part t1 t2 t3) → W.grownBy w' (blk A) → wpList Try.prog ops Q rest (a.put o.dst (.slice (some ⟨g, 0, none⟩) (n + 1) cap)) w') :
    wpList Try.prog ops Q (o :: rest) a W := by
  obtain ⟨i, z, hi, hz, hsz, hby, hzc⟩ := info_23
  refine wpList_append_lies W hgd s x 37 ho base 23 i z 3 24 Try.underlying37 hi hz hsz hby hzc (by decide) (.slice A n c) n xs hs hown ad 1 1 (part t1 t2 t3) hx rfl hnews ?_ (by decide) (by unfold maxLen; omega) (by omega) hbase _ rfl ?_
  · intro u hu
    simp [part] at hu
    rcases hu with rfl | rfl | rfl <;> rfl
  · intro g cap w' h1 h2 h3 h4
    rw [own_blk] at h2
    exact h g cap w' h1 h2

theorem owns_of_block {w w' : World} {base n size : Nat} {e : TypeId} {v : Value} {xs : List Value} (h : w.ownsRow base e size v n xs) (hb : ∀ k, v.ownBlock = some k → w'.heap[k]? = w.heap[k]?) : w'.ownsRow base e size v n xs := by
  obtain ⟨h1, h2 | ⟨q, cap, cur, rfl, hq0, hq, hq'⟩⟩ := h
  · exact ⟨h1, Or.inl h2⟩
  · exact ⟨h1, Or.inr ⟨q, cap, cur, rfl, hq0, (hb q rfl).trans hq, hq'⟩⟩
theorem owns_kept {w w' : World} {base n size : Nat} {e : TypeId} {v : Value} {xs : List Value} (h : w.ownsRow base e size v n xs) (hb : Below w.heap.size w w') : w'.ownsRow base e size v n xs :=
  owns_of_block h fun k hk => hb.block k (h.lt k hk).2
theorem owns_set {w : World} {base n size b j : Nat} {e : TypeId} {v : Value} {xs : List Value} (h : w.ownsRow base e size v n xs) (hb : b < base) (u : Value) : (w.setCell ⟨b, j, none⟩ u).ownsRow base e size v n xs :=
  owns_of_block h fun k hk => Below.heap_setCell w _ _ k (by have := (h.lt k hk).1; simp only; omega)
theorem owns_base {w : World} {base base' n size : Nat} {e : TypeId} {v : Value} {xs : List Value} (h : w.ownsRow base e size v n xs) (hb : base' ≤ base) : w.ownsRow base' e size v n xs := by
  obtain ⟨h1, h2 | ⟨q, cap, cur, rfl, hq0, hq⟩⟩ := h
  · exact ⟨h1, Or.inl h2⟩
  · exact ⟨h1, Or.inr ⟨q, cap, cur, rfl, Nat.le_trans hb hq0, hq⟩⟩
/-- What an append of the call's own leaves below. -/
theorem below_grown {w W w' : World} {B base n c : Nat} {A : Option Addr} {xs : List Value} (h : Below B w W) (O : W.ownsRow base 23 3 (.slice A n c) n xs) (hB : B ≤ base) (hBw : B ≤ w.heap.size) (G : W.grownBy w' (blk A)) : Below B w w' :=
  ⟨G.os.trans h.os, G.tape.trans h.tape, G.output.trans h.output, Nat.le_trans h.size G.size, fun k hk => (G.block k (by have := h.size; omega) (fun e => by
    have := (O.lt k (by rw [own_blk]; exact e.symm)).1; omega)).trans (h.block k hk)⟩
theorem lies_grown {W w' : World} {g base n c : Nat} {A : Option Addr} {xs : List Value} {t : TypeId} {cs : List Value} (h : Lies W g t cs) (O : W.ownsRow base 23 3 (.slice A n c) n xs) (hg : g < base) (G : W.grownBy w' (blk A)) : Lies w' g t cs :=
  h.of_block (G.block g h.lt (fun e => by have := (O.lt g (by rw [own_blk]; exact e.symm)).1; omega))
theorem news_new (w : World) (a x y : Int) : ∀ j u, (part a x y)[j]? = some u → (w.alloc (.cells #[.int .i64 a, .int .i64 x, .int .i64 y] 23)).cell? ((⟨w.heap.size, 0, none⟩ : Addr).add j) = some u :=
  World.news_of_block (w := w.alloc (.cells #[.int .i64 a, .int .i64 x, .int .i64 y] 23)) (Lies.new w 23 [_, _, _])

/-- What Split keeps: k parts are made, the rest stands in its own block. -/
structure Sp (wr w : World) (a f t m : Int) (A : Option Addr) (c k : Nat) : Prop where
  own : wr.ownsRow (w.heap.size + 1) 23 3 (.slice A k c) k (full a f m k)
  box : Lies wr w.heap.size 23 [.int .i64 a, .int .i64 (fr f m k), .int .i64 t]
  old : Below w.heap.size w wr
  le : fr f m k ≤ t
  lt : 1 ≤ k → fr f m k < t

/-- What Split answers. -/
structure Split (w' w : World) (a f t m : Int) (g c k : Nat) : Prop where
  own : w'.ownsRow w.heap.size 23 3 (.slice (some ⟨g, 0, none⟩) (k + 1) c) (k + 1) (row a f t m k)
  old : Below w.heap.size w w'
  le : fr f m k ≤ t
  lt : 1 ≤ k → fr f m k < t
  rest : t - fr f m k ≤ m
  few : k ≤ 4095
end Go.Proofs.Ytdahlihnmmgkaaa
