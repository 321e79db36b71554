/- Two slices that the call owns, numbers and heads: appends onto them, in whatever order. -/
import Derived.Test.YtibfhpbklnpknaaApMath
import Derived.Test.YtibfhpbklnpknaaROf
import Derived.Deep.AppendLies
import Derived.Deep.RegionLaw
namespace Go.Proofs.Ytibfhpbklnpknaa
open Go.RowKit
set_option linter.unusedVariables false
set_option linter.unusedSimpArgs false

theorem info_3i : ∃ i z, Try.prog.info? 3 = some i ∧ i.zero = some z ∧ i.size = 1 ∧ i.bytes = 8 ∧ z.cells.size = 1 := ⟨_, _, rfl, rfl, rfl, rfl, rfl⟩
theorem info_40i : ∃ i z, Try.prog.info? 40 = some i ∧ i.zero = some z ∧ i.size = 3 ∧ i.bytes = 24 ∧ z.cells.size = 3 := ⟨_, _, rfl, rfl, rfl, rfl, rfl⟩

/-- A head's three numbers. -/
abbrev Hd := Int × Int × Int
def hcells (hs : List Hd) : List Value := hs.flatMap fun h => [.int .i64 h.1, .int .i64 h.2.1, .int .i64 h.2.2]
theorem hcells_add (hs : List Hd) (h : Hd) : hcells (hs ++ [h]) = hcells hs ++ [.int .i64 h.1, .int .i64 h.2.1, .int .i64 h.2.2] := by simp [hcells]
theorem hcells_at : ∀ (hs : List Hd) (i j : Nat), i < hs.length → j < 3 → (hcells hs)[i * 3 + j]? = [Value.int .i64 (hs.getD i (0, 0, 0)).1, .int .i64 (hs.getD i (0, 0, 0)).2.1, .int .i64 (hs.getD i (0, 0, 0)).2.2][j]?
  | [], i, j, h, _ => by simp at h
  | h :: hs, 0, j, _, hj => by
    have : j = 0 ∨ j = 1 ∨ j = 2 := by omega
    rcases this with rfl | rfl | rfl <;> simp [hcells]
  | h :: hs, i + 1, j, hi, hj => by
    have := hcells_at hs i j (by simpa using hi) hj
    have e : hcells (h :: hs) = [.int .i64 h.1, .int .i64 h.2.1, .int .i64 h.2.2] ++ hcells hs := by simp [hcells]
    rw [e, List.getElem?_append_right (by simp; omega)]
    have e2 : (i + 1) * 3 + j - [Value.int .i64 h.1, .int .i64 h.2.1, .int .i64 h.2.2].length = i * 3 + j := by simp; omega
    rw [e2, this]
    simp

def blk (A : Option Addr) : Option Nat := A.map Addr.block
theorem own_blk (A : Option Addr) (n c : Nat) : (Value.slice A n c).ownBlock = blk A := by cases A <;> rfl
theorem owns_block {w w' : World} {base n size : Nat} {e : TypeId} {v : Value} {xs : List Value} (h : w.ownsRow base e size v n xs) (hb : ∀ k, v.ownBlock = some k → w'.heap[k]? = w.heap[k]?) : w'.ownsRow base e size v n xs := by
  obtain ⟨h1, h2 | ⟨q, cap, cur, rfl, hq0, hq, hq'⟩⟩ := h
  · exact ⟨h1, Or.inl h2⟩
  · exact ⟨h1, Or.inr ⟨q, cap, cur, rfl, hq0, (hb q rfl).trans hq, hq'⟩⟩
theorem owns_at {w : World} {base n size : Nat} {e : TypeId} {v : Value} {xs : List Value} (h : w.ownsRow base e size v n xs) {k : Nat} (hk : v.ownBlock = some k) : base ≤ k ∧ k < w.heap.size := by
  obtain ⟨h1, ⟨rfl, _⟩ | ⟨q, cap, cur, rfl, hq0, hq, hq'⟩⟩ := h
  · cases hk
  · have : q = k := by simpa [Value.ownBlock] using hk
    subst this
    exact ⟨hq0, (Array.getElem?_eq_some_iff.1 hq).1⟩

/-- Two rows, none of whose blocks was there once. -/
structure Two (N : Nat) (w : World) (A1 : Option Addr) (c1 : Nat) (xs : List Int) (A2 : Option Addr) (c2 : Nat) (hs : List Hd) : Prop where
  o1 : w.ownsRow N 3 1 (.slice A1 xs.length c1) xs.length (xs.map (Value.int .i64))
  o2 : w.ownsRow N 40 3 (.slice A2 hs.length c2) hs.length (hcells hs)
  ap : ∀ b, blk A1 = some b → blk A2 ≠ some b
  room : N ≤ w.heap.size

section
variable {N : Nat} {w w' : World} {A1 A2 : Option Addr} {c1 c2 : Nat} {xs : List Int} {hs : List Hd}
theorem Two.kept (h : Two N w A1 c1 xs A2 c2 hs) (hb : Below w.heap.size w w') : Two N w' A1 c1 xs A2 c2 hs :=
  ⟨owns_any h.o1 hb, owns_any h.o2 hb, h.ap, Nat.le_trans h.room hb.size⟩
theorem Two.at1 (h : Two N w A1 c1 xs A2 c2 hs) {k : Nat} (hk : blk A1 = some k) : N ≤ k ∧ k < w.heap.size := owns_at h.o1 (by rw [own_blk]; exact hk)
theorem Two.at2 (h : Two N w A1 c1 xs A2 c2 hs) {k : Nat} (hk : blk A2 = some k) : N ≤ k ∧ k < w.heap.size := owns_at h.o2 (by rw [own_blk]; exact hk)
theorem Two.else4 {p q r u : Nat} (h : Two N w A1 c1 xs A2 c2 hs) (E : Else4 p q r u w w') (h1 : p < N) (h2 : q < N) (h3 : r < N) (h4 : u < N) : Two N w' A1 c1 xs A2 c2 hs := by
  refine ⟨owns_block h.o1 fun k hk => ?_, owns_block h.o2 fun k hk => ?_, h.ap, Nat.le_trans h.room E.size⟩
  · obtain ⟨a, b⟩ := owns_at h.o1 hk
    exact E.block k b (by omega) (by omega) (by omega) (by omega)
  · obtain ⟨a, b⟩ := owns_at h.o2 hk
    exact E.block k b (by omega) (by omega) (by omega) (by omega)

/-- What an append leaves: all blocks that were there, but those of two rows. -/
structure Grown (A1 A2 : Option Addr) (w w' : World) : Prop where
  os : w'.os = w.os
  tape : w'.tape = w.tape
  output : w'.output = w.output
  size : w.heap.size ≤ w'.heap.size
  block : ∀ k, k < w.heap.size → blk A1 ≠ some k → blk A2 ≠ some k → w'.heap[k]? = w.heap[k]?
theorem Grown.of_below (A1 A2 : Option Addr) (h : Below w.heap.size w w') : Grown A1 A2 w w' := ⟨h.os, h.tape, h.output, h.size, fun k hk _ _ => h.block k hk⟩
theorem Grown.lies (h : Grown A1 A2 w w') {b : Nat} {t : TypeId} {cs : List Value} (hl : Lies w b t cs) (h1 : blk A1 ≠ some b) (h2 : blk A2 ≠ some b) : Lies w' b t cs := hl.of_block (h.block b hl.lt h1 h2)
theorem Grown.below (h : Grown A1 A2 w w') {B : Nat} (hB : B ≤ w.heap.size) (h1 : ∀ k, blk A1 = some k → B ≤ k) (h2 : ∀ k, blk A2 = some k → B ≤ k) : Below B w w' :=
  ⟨h.os, h.tape, h.output, h.size, fun k hk => h.block k (by omega) (fun e => by have := h1 k e; omega) (fun e => by have := h2 k e; omega)⟩
end

section
variable {ops : Array Oper} {o : Oper} {a : Act} {W : World} {K : Act → World → Prop} {Q : Exit → Act → World → Prop} {E : Prop}
/-- One number more. 'w0': the world from which on both may have grown, with the rows of B1 and B2 then. -/
theorem step_one (hgd : o.guard = none) (s x : Operand) (ho : o.op = .call { callee := .builtin .append, args := #[s, x], argTypes := #[37, 37] })
    (N : Nat) (A1 : Option Addr) (c1 : Nat) (xs : List Int) (A2 : Option Addr) (c2 : Nat) (hs : List Hd) (hsv : a.eval s = .slice A1 xs.length c1) (b : Nat) (r : Int) (hx : a.eval x = .slice (some ⟨b, 0, none⟩) 1 1) (hn : xs.length ≤ 1000)
    (hall : Two N W A1 c1 xs A2 c2 hs ∧ Lies W b 3 [.int .i64 r] ∧ ∀ g cap w', Two N w' (some ⟨g, 0, none⟩) cap (xs ++ [r]) A2 c2 hs → W.grownBy w' (blk A1) → (blk A1 = some g ∨ g = W.heap.size) → K (a.put o.dst (.slice (some ⟨g, 0, none⟩) (xs.length + 1) cap)) w') :
    if Region.wanted o (yielded ops a.tmps) = true then Oper.wp Try.prog o a W K Q else E := by
  obtain ⟨i, z, hi, hz, hsz, hby, hzc⟩ := info_3i
  obtain ⟨T, L, h⟩ := hall
  refine step_append_lies W hgd s x 37 ho N 3 i z 1 8 Try.underlying37 hi hz hsz hby hzc (by decide) (.slice A1 xs.length c1) xs.length (xs.map (Value.int .i64)) hsv T.o1 ⟨b, 0, none⟩ 1 1 [.int .i64 r] hx rfl (World.news_of_block (cs := #[.int .i64 r]) L) ?_ (by decide) (by unfold maxLen; omega) (by omega) T.room _ rfl ?_
  · intro u hu
    simp at hu
    rw [hu]; rfl
  · intro g cap w' h1 h2 h3 h4
    rw [own_blk] at h2 h3
    refine h g cap w' ⟨?_, ?_, ?_, Nat.le_trans T.room h2.size⟩ h2 h3
    · simpa using h1
    · refine owns_block T.o2 fun k hk => h2.block k (owns_at T.o2 hk).2 (fun e => ?_)
      rw [own_blk] at hk
      exact T.ap k e.symm hk
    · intro k hk
      have : g = k := by simpa [blk] using hk
      subst this
      rcases h3 with e | e
      · exact T.ap g e
      · intro e2
        have := (T.at2 e2).2
        omega
/-- One head more. -/
theorem step_head (hgd : o.guard = none) (s x : Operand) (ho : o.op = .call { callee := .builtin .append, args := #[s, x], argTypes := #[57, 57] })
    (N : Nat) (A1 : Option Addr) (c1 : Nat) (xs : List Int) (A2 : Option Addr) (c2 : Nat) (hs : List Hd) (hsv : a.eval s = .slice A2 hs.length c2) (b : Nat) (k l p : Int) (hx : a.eval x = .slice (some ⟨b, 0, none⟩) 1 1) (hn : hs.length ≤ 1000)
    (hall : Two N W A1 c1 xs A2 c2 hs ∧ Lies W b 40 [.int .i64 k, .int .i64 l, .int .i64 p] ∧ ∀ g cap w', Two N w' A1 c1 xs (some ⟨g, 0, none⟩) cap (hs ++ [(k, l, p)]) → W.grownBy w' (blk A2) → (blk A2 = some g ∨ g = W.heap.size) → K (a.put o.dst (.slice (some ⟨g, 0, none⟩) (hs.length + 1) cap)) w') :
    if Region.wanted o (yielded ops a.tmps) = true then Oper.wp Try.prog o a W K Q else E := by
  obtain ⟨i, z, hi, hz, hsz, hby, hzc⟩ := info_40i
  obtain ⟨T, L, h⟩ := hall
  refine step_append_lies W hgd s x 57 ho N 40 i z 3 24 Try.underlying57 hi hz hsz hby hzc (by decide) (.slice A2 hs.length c2) hs.length (hcells hs) hsv T.o2 ⟨b, 0, none⟩ 1 1 [.int .i64 k, .int .i64 l, .int .i64 p] hx rfl (World.news_of_block (cs := #[.int .i64 k, .int .i64 l, .int .i64 p]) L) ?_ (by decide) (by unfold maxLen; omega) (by omega) T.room _ rfl ?_
  · intro u hu
    simp at hu
    rcases hu with rfl | rfl | rfl <;> rfl
  · intro g cap w' h1 h2 h3 h4
    rw [own_blk] at h2 h3
    refine h g cap w' ⟨?_, ?_, ?_, Nat.le_trans T.room h2.size⟩ h2 h3
    · refine owns_block T.o1 fun k hk => h2.block k (owns_at T.o1 hk).2 (fun e => ?_)
      rw [own_blk] at hk
      exact T.ap k hk e.symm
    · rw [hcells_add]; simpa using h1
    · intro k hk e2
      have : g = k := by simpa [blk] using e2
      subst this
      rcases h3 with e | e
      · exact T.ap g hk e
      · have := (T.at1 hk).2
        omega
end
end Go.Proofs.Ytibfhpbklnpknaa
