/- A row of numbers beside a spill. -/
import Derived.Test.YtcnpbdboeaaajaaRw
import Derived.Test.YtcnpbdboeaaajaaAw
import Derived.Laws.Bits64b
namespace Go.Proofs.Ytcnpbdboeaaajaa
open Go.RowKit
set_option linter.unusedVariables false
set_option linter.unusedSimpArgs false

section
variable {w0 w w' : World} {gd g gw n : Nat} {pile : List Int} {cs : Cs} {k : Nat} {i gc : Nat} {cl : Cl} {x : Int} {v : Value} {row row0 : List Int} {base : Nat}
theorem Rw.keptB (h : Rw w base gw v row) (K : KeptB w w' gc g gw) (C : Conc w0 w gd g gw n pile cs k) {vs : List Value} (L : Lies w gc 62 vs) : Rw w' base gw v row := by
  obtain ⟨vg, Lg⟩ := C.g_lies
  exact h.kept fun b cs' hl hne => K.lies hl (hl.apart L (by decide)) (hl.apart Lg (by decide)) hne (by decide)
theorem Conc.grown (h : Conc w0 w gd g gw n pile cs k) (r : Rw w w0.heap.size gw v row0) (gr : w.grownBy w' v.ownBlock) : Conc w0 w' gd g gw n pile cs k := by
  rcases r with ⟨rfl, rfl⟩ | ⟨q, off, cap, vs, rfl, h2, h3, h4, _⟩
  · exact h.kept ⟨gr.os, gr.tape, gr.output, gr.size, fun i hi => gr.block i hi (fun e => by cases e)⟩
  · have O : Only q w w' := ⟨gr.os, gr.tape, gr.output, gr.size, fun i hi hne => gr.block i hi (fun e => hne (by injection e))⟩
    exact h.only_lies O h4 (by decide) (by decide) (by decide) (by decide) h3 h2
theorem Rw.at_ {A : Option Addr} {l cap : Nat} (h : Rw w base gw (.slice A l cap) row) {i : Nat} (hi : i < row.length) : ∃ ad, A = some ad ∧ w.cell? (ad.add i) = some (.int .i64 (row.getD i 0)) := by
  obtain ⟨q, off, cap', cs, h1, h2, h3, h4, h5, h6, h7⟩ := h.some_ (by omega)
  injection h1 with hA _ _
  exact ⟨_, hA, by rw [add_mid', h4.cell, h7 i hi]⟩
/-- A slice of so many holds these numbers. -/
def Rl (w : World) (base gw : Nat) (A : Option Addr) (l cap : Nat) (row : List Int) : Prop := row.length = l ∧ Rw w base gw (.slice A l cap) row
theorem Rl.at_ {A : Option Addr} {l cap : Nat} (h : Rl w base gw A l cap row) {i : Nat} (hi : i < l) : ∃ ad, A = some ad ∧ w.cell? (ad.add i) = some (.int .i64 (row.getD i 0)) := h.2.at_ (by rw [h.1]; exact hi)
theorem Rl.below {A : Option Addr} {l cap : Nat} (h : Rl w base gw A l cap row) (hb : Below w.heap.size w w') : Rl w' base gw A l cap row := ⟨h.1, h.2.below hb⟩
theorem Rl.keptB {A : Option Addr} {l cap : Nat} (h : Rl w base gw A l cap row) (K : KeptB w w' gc g gw) (C : Conc w0 w gd g gw n pile cs k) {vs : List Value} (L : Lies w gc 62 vs) : Rl w' base gw A l cap row := ⟨h.1, h.2.keptB K C L⟩
theorem Rw.rl (h : Rw w base gw v row) : ∃ A l cap, v = .slice A l cap ∧ Rl w base gw A l cap row := by
  obtain ⟨A, cap, rfl⟩ := h.form
  exact ⟨A, row.length, cap, rfl, rfl, h⟩
theorem Rl.last {A : Option Addr} {l l' cap : Nat} {r : List Int} {y : Int} (h : Rl w base gw A l cap (r ++ [y])) (hl : l = l' + 1) : (∀ W : World, (Instr.slice 22 (.slice A l cap) none (some (.int .i64 (l' : Int))) none).run Try.prog W = .ok (.slice A l' cap) W) ∧ Rw w base gw (.slice A l' cap) r := by
  obtain ⟨h1, h2⟩ := h
  have e : l' = r.length := by simp at h1; omega
  subst hl e
  exact cut_last h2
end
/-- The lowest bit. -/
theorem and_one (x : Int) : bits .and .i64 x 1 = x % 2 := by
  have hX : (BitVec.ofInt 64 x &&& BitVec.ofInt 64 1).toNat = (x % 2).toNat := by
    rw [BitVec.toNat_and, BitVec.toNat_ofInt, show (BitVec.ofInt 64 1).toNat = 1 from rfl, Nat.and_one_is_mod]
    omega
  have hi : bits .and .i64 x 1 = IntKind.i64.wrap (((x % 2).toNat : Nat) : Int) := congrArg (fun n : Nat => IntKind.i64.wrap (n : Int)) hX
  rw [hi, IntKind.wrap_i64]
  omega
end Go.Proofs.Ytcnpbdboeaaajaa
