/- DequeAlone: what holds on the way. -/
import Derived.Test.YteaffpkmidaghaaSq2
import Derived.Test.YteaffpkmidaghaaRw
namespace Go.Proofs.Yteaffpkmidaghaa
open Go.RowKit
set_option linter.unusedVariables false
set_option linter.unusedSimpArgs false

section
variable {w0 w w' : World} {gd g gw gc n t tag : Nat} {row : List Int} {k : Nat} {cl : Cl} {v : Value} {base : Nat} {x : Int} {row0 : List Int}
theorem Begun.lies (b : Begun w0 w gd g gw gc n t tag row k cl) : Lies w gc 58 (cl.cells g) := by
  obtain ⟨A, c, zs, ts, H, q, hk', B, L, lo, ne⟩ := b; exact L
theorem Rw.keptk (h : Rw w base gw v row) (K : Kept w w' gc gw) {cs : List Value} (L : Lies w gc 58 cs) : Rw w' base gw v row :=
  h.kept fun b cs' hl hne => K.2 b 3 cs' hl (hl.apart L (by decide)) (by decide) (by decide) hne
theorem sq_pushk (h : Sq w0 w gd g gw n t tag row k) (x : Int) : Calls Try.prog 12 #[.pointer (some ⟨gd, 0, none⟩), .int .i64 x] w fun e w' => ∃ gc, e = .returned (.pointer (some ⟨gc, 0, none⟩)) ∧ Begun w0 w' gd g gw gc n t tag row k ⟨0, 25, 0, 0, x, 0⟩ ∧ Below w.heap.size w w' :=
  (push_any h.own x).mono fun e w' ⟨he, L, B⟩ => ⟨_, he, h.begun L B, B⟩
theorem sq_popk (h : Sq w0 w gd g gw n t tag row k) : Calls Try.prog 13 #[.pointer (some ⟨gd, 0, none⟩)] w fun e w' => ∃ gc, e = .returned (.pointer (some ⟨gc, 0, none⟩)) ∧ Begun w0 w' gd g gw gc n t tag row k ⟨0, 26, 0, 0, 0, 0⟩ ∧ Below w.heap.size w w' :=
  (pop_any h.own).mono fun e w' ⟨he, L, B⟩ => ⟨_, he, h.begun L B, B⟩
theorem sq_stealk (h : Sq w0 w gd g gw n t tag row k) (i : Int) (h0 : 1 ≤ i) (h1 : i < 64) : Calls Try.prog 14 #[.pointer (some ⟨gd, 0, none⟩), .int .i64 i] w fun e w' => ∃ gc, e = .returned (.tuple #[.pointer (some ⟨gc, 0, none⟩), .int .i64 0]) ∧ Begun w0 w' gd g gw gc n t tag row k ⟨i, 27, 0, 0, 0, 0⟩ ∧ Below w.heap.size w w' :=
  (steal_yes h.own i h0 h1).mono fun e w' ⟨he, L, B⟩ => ⟨_, he, h.begun L B, B⟩
theorem Sq.gw_lt (h : Sq w0 w gd g gw n t tag row k) : gw < w.heap.size := by
  obtain ⟨A, c, zs, ts, H, q, hk, B⟩ := h; exact H.at_.words.lt
theorem Sq.grown (h : Sq w0 w gd g gw n t tag row k) (r : Rw w w0.heap.size gw v row0) (gr : w.grownBy w' v.ownBlock) : Sq w0 w' gd g gw n t tag row k := by
  rcases r with ⟨rfl, rfl⟩ | ⟨q, off, cap, cs, rfl, h2, h3, h4, _⟩
  · exact h.kept ⟨gr.os, gr.tape, gr.output, gr.size, fun i hi => gr.block i hi (fun e => by cases e)⟩
  · obtain ⟨A, c, zs, ts, H, qq, hk, B⟩ := h
    have O : Only q w w' := ⟨gr.os, gr.tape, gr.output, gr.size, fun i hi hne => gr.block i hi (fun e => hne (by injection e))⟩
    refine ⟨A, c, zs, ts, ⟨H.at_.only O (h4.apart H.at_.own (by decide)) h3 (H.at_.not_row h4 (by decide)), O.lies H.own (H.own.apart h4 (by decide)), H.lo⟩, qq, hk, B.trans ⟨O.os, O.tape, O.output, O.size, fun i hi => O.block i (Nat.lt_of_lt_of_le hi B.size) (by omega)⟩⟩
theorem Rw.at_ {A : Option Addr} {l cap : Nat} (h : Rw w base gw (.slice A l cap) row) {i : Nat} (hi : i < row.length) : ∃ ad, A = some ad ∧ w.cell? (ad.add i) = some (.int .i64 (row.getD i 0)) := by
  obtain ⟨q, off, cap', cs, h1, h2, h3, h4, h5, h6, h7⟩ := h.some_ (by omega)
  injection h1 with hA _ _
  exact ⟨_, hA, by rw [add_mid', h4.cell, h7 i hi]⟩
/-- A slice of so many holds these numbers. -/
def Rl (w : World) (base gw : Nat) (A : Option Addr) (l cap : Nat) (row : List Int) : Prop := row.length = l ∧ Rw w base gw (.slice A l cap) row
theorem Rl.at_ {A : Option Addr} {l cap : Nat} (h : Rl w base gw A l cap row) {i : Nat} (hi : i < l) : ∃ ad, A = some ad ∧ w.cell? (ad.add i) = some (.int .i64 (row.getD i 0)) := h.2.at_ (by rw [h.1]; exact hi)
theorem Rl.below {A : Option Addr} {l cap : Nat} (h : Rl w base gw A l cap row) (hb : Below w.heap.size w w') : Rl w' base gw A l cap row := ⟨h.1, h.2.below hb⟩
theorem Rl.keptk {A : Option Addr} {l cap : Nat} (h : Rl w base gw A l cap row) (K : Kept w w' gc gw) {cs : List Value} (L : Lies w gc 58 cs) : Rl w' base gw A l cap row := ⟨h.1, h.2.keptk K L⟩
theorem Rw.rl (h : Rw w base gw v row) : ∃ A l cap, v = .slice A l cap ∧ Rl w base gw A l cap row := by
  obtain ⟨A, cap, rfl⟩ := h.form
  exact ⟨A, row.length, cap, rfl, rfl, h⟩
theorem Rl.last {A : Option Addr} {l l' cap : Nat} {r : List Int} {y : Int} (h : Rl w base gw A l cap (r ++ [y])) (hl : l = l' + 1) : (∀ W : World, (Instr.slice 28 (.slice A l cap) none (some (.int .i64 (l' : Int))) none).run Try.prog W = .ok (.slice A l' cap) W) ∧ Rw w base gw (.slice A l' cap) r := by
  obtain ⟨h1, h2⟩ := h
  have e : l' = r.length := by simp at h1; omega
  subst hl e
  exact cut_last h2
theorem Rl.first {A : Option Addr} {l l' cap : Nat} {r : List Int} {y : Int} (h : Rl w base gw A l cap (y :: r)) (hl : l = l' + 1) : ∃ v', (∀ W : World, (Instr.slice 28 (.slice A l cap) (some (.int .i64 1)) none none).run Try.prog W = .ok v' W) ∧ Rw w base gw v' r := by
  obtain ⟨h1, h2⟩ := h
  have e : l' = r.length := by simp at h1; omega
  subst hl e
  exact cut_first h2
end
end Go.Proofs.Yteaffpkmidaghaa
