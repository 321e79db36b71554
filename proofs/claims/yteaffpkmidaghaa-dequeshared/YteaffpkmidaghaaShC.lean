/- DequeShared: how it ends. -/
import Derived.Test.YteaffpkmidaghaaShB
namespace Go.Proofs.Yteaffpkmidaghaa
open Go.RowKit Go.Maps
set_option linter.unusedVariables false
set_option linter.unusedSimpArgs false

section
variable {w0 w w' : World} {x : Bx} {cs cs' : List (Option (Nat × Cl))} {nx pu : Int} {k mm kk : Nat} {cl : Cl} {oc : Option Cl} {row : List Int} {t tag hi : Nat} {f : Int → Int}

theorem Sta.mid (h : Sta w0 w x cs nx k mm) (v : Int) {w5 : World} (hw : w.setCell ⟨x.bp, 0, none⟩ (.int .i64 v) = w5) : Lies w5 x.gd 55 [.pointer (some ⟨x.g, 0, none⟩)] ∧ Lies w5 x.bn 3 [.int .i64 nx] ∧ Lies w5 x.bc 38 (cs.map cellOf) := by
  obtain ⟨t, tag, hi, row, pu, f, C, M, lv, htag⟩ := h
  have C1 := C.setp v
  rw [hw] at C1
  exact ⟨C1.conc.own_, C1.nx_, C1.conc.arr_⟩

/-- All calls are over. -/
theorem Sta.over (h : Sta w0 w x cs nx k mm) (hn : ∀ (i gc : Nat) (cl : Cl), cs[i]? ≠ some (some (gc, cl))) : ∃ t tag hi row pu, Core w0 w x cs none row t tag hi nx pu (fun y => if y ∈ row then 1 else 0) k mm ∧ row.Nodup ∧ (∀ y ∈ row, 0 < y ∧ y < nx) := by
  obtain ⟨t, tag, hi, row, pu, f, C, M, lv, htag⟩ := h
  have h0 : cs[0]? = some none := by
    obtain ⟨o, ho⟩ : ∃ o, cs[0]? = some o := ⟨cs[0]'(by rw [C.clen]; omega), List.getElem?_eq_getElem _⟩
    cases o with
    | none => exact ho
    | some q => exact absurd ho (hn 0 q.1 q.2)
  rw [ownOf_none h0] at C
  have hf : f = fun y => if y ∈ row then 1 else 0 := funext M.f_
  subst hf
  exact ⟨t, tag, hi, row, pu, C, M.nodup, M.rng⟩

theorem Core.store2 (h : Core w0 w x cs oc row t tag hi nx pu f k mm) (y v : Int) (hy : -9223372036854775808 ≤ y ∧ y ≤ 9223372036854775807) (hv : -9223372036854775808 ≤ v ∧ v ≤ 9223372036854775807) (hm : mm ≤ 100000) :
    ∃ w', (Instr.mapUpdate 39 (.map (some x.bm)) (.int .i64 y) (.int .i64 v)).run Try.prog w = .ok () w' ∧ Core w0 w' x cs oc row t tag hi nx pu (fun z => if z = y then v else f z) k (mm + 1) ∧ Only x.bm w w' := by
  obtain ⟨D, hD, hT⟩ := h.mp
  obtain ⟨w', hrun, r1, r2⟩ := hD.update law3 Try.underlying39 (by unfold maxLen; omega) (key3 y hy) (plainElem_int (H := Unit) Try.underlying3 (by simp [Lit.wf]; exact hv))
  have O : Only x.bm w w' := ⟨r2.os, r2.tape, r2.output, r2.size, fun i hi hne => r2.block i hi (fun e => hne (by injection e))⟩
  refine ⟨w', hrun, ?_, O⟩
  have hn := h.not
  have nc := h.conc.not_cells hn
  have b1 := fun (b : Nat) (ty : TypeId) (vs : List Value) (hb : Lies w b ty vs) => O.lies hb (fun e => hn _ _ (e ▸ hb))
  exact ⟨h.conc.only O nc.1 nc.2.1 nc.2.2.1 nc.2.2.2 (fun cs hl => hn _ _ hl) (fun cs hl => hn _ _ hl) h.l3, h.clen, b1 _ _ _ h.pu_, b1 _ _ _ h.wh, ⟨_, r1, hT.put y v⟩, b1 _ _ _ h.nx_, b1 _ _ _ h.tk, h.n1, h.n2, h.n3, h.l1, h.l2, h.l3⟩
theorem Row.only {kd : IntKind} {ad : Addr} {zs : List Int} (h : Row kd w (some ad) zs) {b : Nat} (O : Only b w w') (hb : ad.block ≠ b) : Row kd w' (some ad) zs := fun h0 => by
  obtain ⟨ad', e, hl, hc⟩ := h h0
  injection e with e
  subst e
  refine ⟨ad, rfl, Nat.lt_of_lt_of_le hl O.size, fun j v hv => ?_⟩
  rw [← hc j v hv]
  exact World.cell?_of_block (a := ad.add j) (O.block _ (by rw [block_add]; exact hl) (by rw [block_add]; exact hb))

/-- What is still to be taken back. -/
def toGo (row : List Int) (m : Nat) (y : Int) : Int := if y ∈ row.drop m then 1 else 0
theorem toGo_at {row : List Int} {m : Nat} (hm : m < row.length) : toGo row m row[m] = 1 := by
  have h : row[m] ∈ row.drop m := by rw [List.drop_eq_getElem_cons hm]; exact List.mem_cons_self
  unfold toGo
  rw [if_pos h]
theorem toGo_next {row : List Int} (hn : row.Nodup) {m : Nat} (hm : m < row.length) : (fun z => if z = row[m] then 0 else toGo row m z) = toGo row (m + 1) := by
  funext z
  have hd : row.drop m = row[m] :: row.drop (m + 1) := List.drop_eq_getElem_cons hm
  have hnd : (row[m] :: row.drop (m + 1)).Nodup := hd ▸ (List.Nodup.sublist (List.drop_sublist m row) hn)
  have hg := (head_gone hnd).1 z
  unfold toGo
  by_cases e : z = row[m]
  · rw [if_pos e, if_neg (fun h => (hg.1 h).2 e)]
  · rw [if_neg e, hd]
    by_cases hz : z ∈ row.drop (m + 1)
    · rw [if_pos hz, if_pos (hg.1 hz).1]
    · rw [if_neg hz, if_neg (fun h => hz (hg.2 ⟨h, e⟩))]
theorem toGo_end (row : List Int) : toGo row row.length = fun _ => 0 := by
  funext z; simp [toGo]
theorem toGo_start (row : List Int) : (fun y => if y ∈ row then (1 : Int) else 0) = toGo row 0 := by
  funext z; simp [toGo]

/-- Behind a pick of worker kk, in round r. -/
theorem rank_on {r : Nat} (h : ∀ (i gc : Nat) (cl : Cl), cs[i]? = some (some (gc, cl)) → (i < kk → rank cl.nx + (r + 1) ≤ 7) ∧ rank cl.nx + r ≤ 7) (m : Moved1 cs cs' kk) :
    ∀ (i gc : Nat) (cl : Cl), cs'[i]? = some (some (gc, cl)) → (i < kk + 1 → rank cl.nx + (r + 1) ≤ 7) ∧ rank cl.nx + r ≤ 7 := by
  intro i gc cl hc
  by_cases e : i = kk
  · subst e
    obtain ⟨gc0, cl0, h0, hr⟩ := m.2 gc cl hc
    have := (h i gc0 cl0 h0).2
    omega
  · rw [m.1 i e] at hc
    have := h i gc cl hc
    exact ⟨fun hi => this.1 (by omega), this.2⟩
end
end Go.Proofs.Yteaffpkmidaghaa
