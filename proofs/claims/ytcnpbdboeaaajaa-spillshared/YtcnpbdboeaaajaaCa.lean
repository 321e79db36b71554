/- A call of a spill in memory, and what a step of it leaves as it was. -/
import Derived.Test.YtcnpbdboeaaajaaNear
import Derived.Test.YtcnpbdboeaaajaaReads
import Derived.Laws.EntriesVeiled
namespace Go.Proofs.Ytcnpbdboeaaajaa
open Go.RowKit
set_option linter.unusedVariables false
set_option linter.unusedSimpArgs false

/-- A call: whose it is, its next step (the function's number, 0 none), and what it keeps. -/
structure Cl where
  who : Int
  nx : Nat
  mv : Nat
  many : Int
  word : Int
  err : Int
def nextV : Nat → Value
  | 0 => .nilFunc
  | n + 1 => .func (.func (n + 1)) #[] #[]
def Cl.cells (g : Nat) (c : Cl) : List Value := [.pointer (some ⟨g, 0, none⟩), .int .i64 c.who, nextV c.nx, nextV c.mv, .int .i64 c.many, .int .i64 c.word, .int .i64 c.err]

/-- All but one block is as it was. -/
structure Only (gc : Nat) (w w' : World) : Prop where
  os : w'.os = w.os
  tape : w'.tape = w.tape
  output : w'.output = w.output
  size : w.heap.size ≤ w'.heap.size
  block : ∀ k, k < w.heap.size → k ≠ gc → w'.heap[k]? = w.heap[k]?
theorem Only.refl (gc : Nat) (w : World) : Only gc w w := ⟨rfl, rfl, rfl, Nat.le_refl _, fun _ _ _ => rfl⟩
theorem Only.set {gc : Nat} {w w' : World} (h : Only gc w w') (i : Nat) (u : Value) : Only gc w (w'.setCell ⟨gc, i, none⟩ u) :=
  ⟨h.os, h.tape, h.output, by simpa using h.size, fun k hk hne => (Below.heap_setCell w' ⟨gc, i, none⟩ u k hne).trans (h.block k hk hne)⟩
theorem Only.trans {gc : Nat} {a b c : World} (h : Only gc a b) (k : Only gc b c) : Only gc a c :=
  ⟨k.os.trans h.os, k.tape.trans h.tape, k.output.trans h.output, Nat.le_trans h.size k.size, fun i hi hne => (k.block i (Nat.lt_of_lt_of_le hi h.size) hne).trans (h.block i hi hne)⟩
theorem Only.of_below {gc : Nat} {w w' : World} (h : Below w.heap.size w w') : Only gc w w' := ⟨h.os, h.tape, h.output, h.size, fun i hi _ => h.block i hi⟩
theorem Only.lies {gc b : Nat} {w w' : World} {t : TypeId} {cs : List Value} (h : Only gc w w') (hl : Lies w b t cs) (hne : b ≠ gc) : Lies w' b t cs := hl.of_block (h.block b hl.lt hne)

/-- All but a call, cells and their touches is as it was. -/
structure Ex (gc g gw : Nat) (row : Option Nat) (w w' : World) : Prop where
  os : w'.os = w.os
  tape : w'.tape = w.tape
  output : w'.output = w.output
  size : w.heap.size ≤ w'.heap.size
  block : ∀ k, k < w.heap.size → k ≠ gc → k ≠ g → k ≠ gw → some k ≠ row → w'.heap[k]? = w.heap[k]?
theorem Ex.lies {gc g gw b : Nat} {row : Option Nat} {w w' : World} {t : TypeId} {cs : List Value} (h : Ex gc g gw row w w') (hl : Lies w b t cs) (h0 : b ≠ gc) (h1 : b ≠ g) (h2 : b ≠ gw) (h3 : some b ≠ row) : Lies w' b t cs :=
  hl.of_block (h.block b hl.lt h0 h1 h2 h3)

section
variable {w w' : World} {base g gw gc : Nat} {zs : List Int} {A : Option Addr} {c : Nat} {ts : List Tc}

theorem At.only (h : At w base g gw zs A c ts) (e : Only gc w w') (h1 : gc ≠ g) (h2 : gc ≠ gw) (h3 : some gc ≠ blk A) : At w' base g gw zs A c ts :=
  ⟨e.lies h.own h1.symm, e.lies h.words h2.symm, owns_of_block h.log fun k hk => by
    rw [own_blk] at hk
    exact e.block k (h.row_of k hk).2.1 (fun e' => h3 (by rw [hk, e'])), h.some_, h.most, h.lo, h.lo'⟩
theorem At.apart (h : At w base g gw zs A c ts) {t : TypeId} {cs : List Value} (hl : Lies w gc t cs) (h1 : t ≠ 64) (h2 : t ≠ 74) (h3 : t ≠ 3) : gc ≠ g ∧ gc ≠ gw ∧ some gc ≠ blk A :=
  ⟨hl.apart h.own h1, hl.apart h.words h3, h.not_row hl h2⟩

/-- What is told of a call's deque behind a step. -/
def Dn (w w' : World) (base gc g gw : Nat) (A : Option Addr) (zs : List Int) (ts : List Tc) (cl : Cl) : Prop :=
  ∃ A' c', At w' base g gw zs A' c' ts ∧ Lies w' gc 62 (cl.cells g) ∧ Ex gc g gw (blk A) w w' ∧ Moved w (blk A) (blk A')

theorem Did.dn {cl : Cl} (h : At w base g gw zs A c ts) (hl : Lies w gc 62 (cl.cells g)) {zs' : List Int} {ts' : List Tc} (d : Did w w' base g gw A zs' ts') : Dn w w' base gc g gw A zs' ts' cl := by
  obtain ⟨A', c', h1, h2, h3⟩ := d
  obtain ⟨n1, n2, n3⟩ := h.apart hl (by decide) (by decide) (by decide)
  exact ⟨A', c', h1, h2.lies hl n1 n2 n3, ⟨h2.os, h2.tape, h2.output, h2.size, fun k hk _ e1 e2 e3 => h2.block k hk e1 e2 e3⟩, h3⟩
theorem Dn.only {w1 : World} {cl cl' : Cl} (d : Dn w w1 base gc g gw A zs ts cl) (o : Only gc w1 w') (l : Lies w' gc 62 (cl'.cells g)) : Dn w w' base gc g gw A zs ts cl' := by
  obtain ⟨A', c', h1, h2, h3, h4⟩ := d
  obtain ⟨n1, n2, n3⟩ := h1.apart h2 (by decide) (by decide) (by decide)
  exact ⟨A', c', h1.only o n1 n2 n3, l, ⟨o.os.trans h3.os, o.tape.trans h3.tape, o.output.trans h3.output, Nat.le_trans h3.size o.size, fun k hk e0 e1 e2 e3 => (o.block k (Nat.lt_of_lt_of_le hk h3.size) e0).trans (h3.block k hk e0 e1 e2 e3)⟩, h4⟩
theorem Dn.lies {w1 : World} {cl : Cl} (d : Dn w w1 base gc g gw A zs ts cl) : Lies w1 gc 62 (cl.cells g) := by
  obtain ⟨A', c', h1, h2, h3, h4⟩ := d
  exact h2
theorem Dn.set {w1 : World} {cl cl' : Cl} (d : Dn w w1 base gc g gw A zs ts cl) (i : Nat) (u : Value) (hc : cl'.cells g = (cl.cells g).set i u) : Dn w (w1.setCell ⟨gc, i, none⟩ u) base gc g gw A zs ts cl' :=
  d.only ((Only.refl gc w1).set i u) (by rw [hc]; exact d.lies.set i u)
theorem Dn.at_ {w1 : World} {cl : Cl} (d : Dn w w1 base gc g gw A zs ts cl) : ∃ A' c', At w1 base g gw zs A' c' ts := by
  obtain ⟨A', c', h1, h2, h3, h4⟩ := d
  exact ⟨A', c', h1⟩
end

theorem eql_nil (w : World) : (binOp .eql 60 .nilFunc .nilFunc).run Try.prog w = .ok (.bool true) w := by kernel_rfl
theorem eql_fun (n : Nat) (w : World) : (binOp .eql 60 (.func (.func n) #[] #[]) .nilFunc).run Try.prog w = .ok (.bool false) w := by kernel_rfl
theorem neq_nil (w : World) : (binOp .neq 60 .nilFunc .nilFunc).run Try.prog w = .ok (.bool false) w := by kernel_rfl
theorem neq_fun (n : Nat) (w : World) : (binOp .neq 60 (.func (.func n) #[] #[]) .nilFunc).run Try.prog w = .ok (.bool true) w := by kernel_rfl

section
variable {w : World} {g gc : Nat} {cl : Cl}
theorem done_yes (h : Lies w gc 62 (cl.cells g)) (hn : cl.nx = 0) : Calls Try.prog 20 #[.pointer (some ⟨gc, 0, none⟩)] w fun e w' => e = .returned (.bool true) ∧ w = w' := by
  have c2 := h.cell 2
  simp only [Cl.cells, List.getElem?_cons_succ, List.getElem?_cons_zero, hn, nextV] at c2
  clear h
  have q0 := eql_nil
  have q1 := eql_fun
  go_enter Try.func20, Try.ntmps20
  go_wp2
  go_ret
  exact ⟨rfl, rfl⟩
theorem done_no (h : Lies w gc 62 (cl.cells g)) (hn : cl.nx ≠ 0) : Calls Try.prog 20 #[.pointer (some ⟨gc, 0, none⟩)] w fun e w' => e = .returned (.bool false) ∧ w = w' := by
  obtain ⟨n, hn⟩ : ∃ n, cl.nx = n + 1 := ⟨cl.nx - 1, by omega⟩
  have c2 := h.cell 2
  simp only [Cl.cells, List.getElem?_cons_succ, List.getElem?_cons_zero, hn, nextV] at c2
  clear h
  have q0 := eql_nil
  have q1 := eql_fun
  go_enter Try.func20, Try.ntmps20
  go_wp2
  go_ret
  exact ⟨rfl, rfl⟩
end
end Go.Proofs.Ytcnpbdboeaaajaa
