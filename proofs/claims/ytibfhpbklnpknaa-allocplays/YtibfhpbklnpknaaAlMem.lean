/- An allocator of the program in memory, and its small calls: hasPlace, room, isObject, isLarge, Heap. -/
import Derived.Test.YtibfhpbklnpknaaGd
namespace Go.Proofs.Ytibfhpbklnpknaa
open Go.RowKit
set_option linter.unusedVariables false
set_option linter.unusedSimpArgs false

/-- All but four blocks are as they were. -/
structure Else4 (g gw gb gf : Nat) (w w' : World) : Prop where
  os : w'.os = w.os
  tape : w'.tape = w.tape
  output : w'.output = w.output
  size : w.heap.size ≤ w'.heap.size
  block : ∀ k, k < w.heap.size → k ≠ g → k ≠ gw → k ≠ gb → k ≠ gf → w'.heap[k]? = w.heap[k]?
theorem Else4.refl (g gw gb gf : Nat) (w : World) : Else4 g gw gb gf w w := ⟨rfl, rfl, rfl, Nat.le_refl _, fun _ _ _ _ _ _ => rfl⟩
theorem Else4.trans {g gw gb gf : Nat} {a b c : World} (h : Else4 g gw gb gf a b) (k : Else4 g gw gb gf b c) : Else4 g gw gb gf a c :=
  ⟨k.os.trans h.os, k.tape.trans h.tape, k.output.trans h.output, Nat.le_trans h.size k.size, fun i hi h1 h2 h3 h4 => (k.block i (Nat.lt_of_lt_of_le hi h.size) h1 h2 h3 h4).trans (h.block i hi h1 h2 h3 h4)⟩
theorem Else4.of_below {g gw gb gf : Nat} {w w' : World} (h : Below w.heap.size w w') : Else4 g gw gb gf w w' := ⟨h.os, h.tape, h.output, h.size, fun i hi _ _ _ _ => h.block i hi⟩
theorem Else4.of_else {g gw gb gf : Nat} {w w' : World} (h : Else g gw gb w w') : Else4 g gw gb gf w w' := ⟨h.os, h.tape, h.output, h.size, fun i hi h1 h2 h3 _ => h.block i hi h1 h2 h3⟩
theorem Else4.below {g gw gb gf B : Nat} {w w' : World} (h : Else4 g gw gb gf w w') (hB : B ≤ w.heap.size) (h1 : B ≤ g) (h2 : B ≤ gw) (h3 : B ≤ gb) (h4 : B ≤ gf) : Below B w w' :=
  ⟨h.os, h.tape, h.output, h.size, fun k hk => h.block k (by omega) (by omega) (by omega) (by omega) (by omega)⟩
theorem Else4.lies {g gw gb gf b : Nat} {w w' : World} {t : TypeId} {cs : List Value} (h : Else4 g gw gb gf w w') (hl : Lies w b t cs) (h1 : b ≠ g) (h2 : b ≠ gw) (h3 : b ≠ gb) (h4 : b ≠ gf) : Lies w' b t cs :=
  hl.of_block (h.block b hl.lt h1 h2 h3 h4)
theorem Else4.drewl {g gw gb gf : Nat} {w w' : World} (h : Else4 g gw gb gf w.drew w') : Else4 g gw gb gf w w' := ⟨h.os, h.tape, h.output, h.size, h.block⟩

/-- A cell of the row is written. -/
theorem Else4.put {g gw gb gf : Nat} {w w' : World} (h : Else4 g gw gb gf w w') (i : Nat) (u : Value) : Else4 g gw gb gf w (w'.setCell ⟨gf, i, none⟩ u) :=
  h.trans ⟨rfl, rfl, rfl, by simp [World.setCell], fun k hk _ _ _ h4 => Below.heap_setCell _ _ _ _ h4⟩

/-- A heap, its threads' buffers (references, 0: none), how many words a new one has. -/
structure Al (w : World) (ga gf g gw gb : Nat) (size : Nat) (bs : List Int) (obs : List Ob) (tail : List Int) : Prop where
  st : St w g gw gb obs tail
  own : Lies w ga 71 [.pointer (some ⟨g, 0, none⟩), .int .i64 size, .slice (some ⟨gf, 0, none⟩) bs.length bs.length]
  row : Lies w gf 3 (bs.map (Value.int .i64))
  ne : gf ≠ gw
  lo : 8 ≤ size
  hi : size ≤ 4096
  led : ∀ b ∈ bs, b ≠ 0 → (look obs (b - 1)).isSome = true

section
variable {w w' : World} {ga gf g gw gb size : Nat} {bs : List Int} {obs : List Ob} {tail : List Int}
theorem Al.kept (h : Al w ga gf g gw gb size bs obs tail) (hb : Below w.heap.size w w') : Al w' ga gf g gw gb size bs obs tail :=
  ⟨h.st.kept hb, h.own.below hb h.own.lt, h.row.below hb h.row.lt, h.ne, h.lo, h.hi, h.led⟩
theorem Al.ne1 (h : Al w ga gf g gw gb size bs obs tail) : gf ≠ g := h.row.apart h.st.lies.own (by decide)
theorem Al.ne2 (h : Al w ga gf g gw gb size bs obs tail) : gf ≠ gb := h.row.apart h.st.lies.begins (by decide)
theorem Al.ne3 (h : Al w ga gf g gw gb size bs obs tail) : ga ≠ g := h.own.apart h.st.lies.own (by decide)
theorem Al.ne4 (h : Al w ga gf g gw gb size bs obs tail) : ga ≠ gw := h.own.apart h.st.lies.words (by decide)
theorem Al.ne5 (h : Al w ga gf g gw gb size bs obs tail) : ga ≠ gb := h.own.apart h.st.lies.begins (by decide)
theorem Al.ne6 (h : Al w ga gf g gw gb size bs obs tail) : ga ≠ gf := h.own.apart h.row (by decide)
theorem Al.c0 (h : Al w ga gf g gw gb size bs obs tail) : w.cell? ⟨ga, 0, none⟩ = some (.pointer (some ⟨g, 0, none⟩)) := h.own.cell 0
theorem Al.c1 (h : Al w ga gf g gw gb size bs obs tail) : w.cell? ⟨ga, 1, none⟩ = some (.int .i64 size) := h.own.cell 1
theorem Al.c2 (h : Al w ga gf g gw gb size bs obs tail) : w.cell? ⟨ga, 2, none⟩ = some (.slice (some ⟨gf, 0, none⟩) bs.length bs.length) := h.own.cell 2
theorem Al.b_at (h : Al w ga gf g gw gb size bs obs tail) {i : Nat} (hi : i < bs.length) : w.cell? ⟨gf, i, none⟩ = some (.int .i64 (bs.getD i 0)) := by
  rw [h.row.cell i]; simp [List.getD, hi]
end

theorem hasPlace_any (A : Option Addr) (n c : Nat) (t : Int) (w : World) :
    Calls Try.prog 26 #[.slice A n c, .int .i64 t] w fun e w' => e = .returned (.bool (decide (0 ≤ t ∧ t < (n : Int)))) ∧ w' = w := by
  by_cases h0 : 0 ≤ t
  · go_enter Try.func26, Try.ntmps26
    go_wp2
    go_ret
    exact ⟨ret_bool (by simp [h0]), rfl⟩
  · go_enter Try.func26, Try.ntmps26
    go_wp2
    go_ret
    exact ⟨ret_bool (by simp; omega), rfl⟩

theorem aroom_any (k l p : Int) (w : World) (h0 : 0 ≤ l) (h1 : l ≤ 4095) :
    Calls Try.prog 30 #[.agg #[.int .i64 k, .int .i64 l, .int .i64 p]] w fun e w' => e = .returned (.int .i64 (1 + l)) ∧ Below w.heap.size w w' := by
  go_enter Try.func30, Try.ntmps30
  go_wp2
  go_ret
  exact ⟨rfl, (Below.refl _ _).alloc (Nat.le_refl _) _⟩

/-- May there be such a head, and of an object? -/
def objB (k l p : Int) : Bool := goodB k l p && decide (k ≠ 15)

set_option maxHeartbeats 1000000 in
theorem isObject_any (k l p : Int) (w : World) :
    Calls Try.prog 27 #[.agg #[.int .i64 k, .int .i64 l, .int .i64 p]] w fun e w' => e = .returned (.bool (objB k l p)) ∧ Below w.heap.size w w' := by
  have L := Lies.new w 40 [.int .i64 k, .int .i64 l, .int .i64 p]
  have bA := (Below.refl w.heap.size w).alloc (Nat.le_refl _) (.cells #[.int .i64 k, .int .i64 l, .int .i64 p] 40)
  cases hg : goodB k l p with
  | false =>
    go_enter Try.func27, Try.ntmps27
    go_wp2_with fail
    refine (pack_no k l p _ hg).mono ?_
    rintro e w1 ⟨rfl, hb1⟩
    go_wp2
    go_ret
    exact ⟨ret_bool (by simp [objB, hg]), on bA (by simp) hb1⟩
  | true =>
    go_enter Try.func27, Try.ntmps27
    go_wp2_with fail
    refine (pack_yes k l p _ hg).mono ?_
    rintro e w1 ⟨rfl, hb1⟩
    have L1 := L.below hb1 (by simp)
    have x0 : w1.cell? ⟨w.heap.size, 0, none⟩ = some (.int .i64 k) := L1.cell 0
    by_cases h15 : k = 15
    · have h2 : (k != 15) = false := by simp [h15]
      go_wp2
      go_ret
      exact ⟨ret_bool (by simp [objB, h15]), on bA (by simp) hb1⟩
    · have h2 : (k != 15) = true := by simp [h15]
      go_wp2
      go_ret
      exact ⟨ret_bool (by simp [objB, hg, h15]), on bA (by simp) hb1⟩
end Go.Proofs.Ytibfhpbklnpknaa
