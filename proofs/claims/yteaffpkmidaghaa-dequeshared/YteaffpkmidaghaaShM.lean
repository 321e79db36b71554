/- DequeShared: what lies in memory. -/
import Derived.Test.YteaffpkmidaghaaShA
namespace Go.Proofs.Yteaffpkmidaghaa
open Go.RowKit Go.Maps
set_option linter.unusedVariables false
set_option linter.unusedSimpArgs false

/-- Where all lies: the deque, its cells, their words; the row of calls, what is pushed, the map's variable, the map, what comes next, the closure. -/
structure Bx where
  gd : Nat
  g : Nat
  gw : Nat
  bc : Nat
  bp : Nat
  bw : Nat
  bm : Nat
  bn : Nat
  bt : Nat
def pt (b : Nat) : Value := .pointer (some ⟨b, 0, none⟩)
def Bx.caps (x : Bx) : Array Value := #[.pointer (some ⟨x.bc, 0, none⟩), .pointer (some ⟨x.bp, 0, none⟩), .pointer (some ⟨x.bw, 0, none⟩), .pointer (some ⟨x.bn, 0, none⟩)]

/-- All of it. -/
structure Core (w0 w : World) (x : Bx) (cs : List (Option (Nat × Cl))) (oc : Option Cl) (row : List Int) (t tag hi : Nat) (nx pu : Int) (f : Int → Int) (k mm : Nat) : Prop where
  conc : Conc w0 w x.gd x.g x.gw x.bc 38 1 40 t tag hi row oc cs k
  clen : cs.length = 4
  pu_ : Lies w x.bp 3 [.int .i64 pu]
  wh : Lies w x.bw 39 [.map (some x.bm)]
  mp : ∃ D : DataW Unit, w.ownsMap Try.prog 3 (plainElem Try.prog 3) x.bm mm D ∧ Tells D f
  nx_ : Lies w x.bn 3 [.int .i64 nx]
  tk : Lies w x.bt 41 [.func (.func 16) #[] x.caps]
  n1 : x.bp ≠ x.gw
  n2 : x.bn ≠ x.gw
  n3 : x.bp ≠ x.bn
  l1 : w0.heap.size ≤ x.bp
  l2 : w0.heap.size ≤ x.bn
  l3 : w0.heap.size ≤ x.bm

theorem owns_block {w w' : World} {b n : Nat} {D : DataW Unit} (h : w.ownsMap Try.prog 3 (plainElem Try.prog 3) b n D) (e : w'.heap[b]? = w.heap[b]?) : w'.ownsMap Try.prog 3 (plainElem Try.prog 3) b n D := by
  obtain ⟨es, cl, h1, h2⟩ := h
  exact ⟨es, cl, e.trans h1, h2⟩
theorem owns_not {w : World} {b n : Nat} {D : DataW Unit} (h : w.ownsMap Try.prog 3 (plainElem Try.prog 3) b n D) : ∀ t cs, ¬ Lies w b t cs := by
  obtain ⟨es, cl, h1, h2⟩ := h
  intro t cs hl
  unfold Lies at hl
  rw [h1] at hl
  cases hl

section
variable {w0 w w' : World} {x : Bx} {cs cs' : List (Option (Nat × Cl))} {oc oc' : Option Cl} {row row' : List Int} {t tag hi t' tag' hi' : Nat} {nx pu : Int} {f : Int → Int} {k k' mm gc i : Nat} {cl : Cl}

theorem Core.not (h : Core w0 w x cs oc row t tag hi nx pu f k mm) : ∀ t cs, ¬ Lies w x.bm t cs := by
  obtain ⟨D, h1, _⟩ := h.mp; exact owns_not h1
theorem Core.move (h : Core w0 w x cs oc row t tag hi nx pu f k mm) (H : Conc w0 w' x.gd x.g x.gw x.bc 38 1 40 t' tag' hi' row' oc' cs' k') (hl : cs'.length = 4)
    (e1 : w'.heap[x.bp]? = w.heap[x.bp]?) (e2 : w'.heap[x.bw]? = w.heap[x.bw]?) (e3 : w'.heap[x.bn]? = w.heap[x.bn]?) (e4 : w'.heap[x.bt]? = w.heap[x.bt]?) (e5 : w'.heap[x.bm]? = w.heap[x.bm]?) : Core w0 w' x cs' oc' row' t' tag' hi' nx pu f k' mm := by
  obtain ⟨D, hD, hT⟩ := h.mp
  exact ⟨H, hl, h.pu_.of_block e1, h.wh.of_block e2, ⟨D, owns_block hD e5, hT⟩, h.nx_.of_block e3, h.tk.of_block e4, h.n1, h.n2, h.n3, h.l1, h.l2, h.l3⟩
theorem Core.bm_lt (h : Core w0 w x cs oc row t tag hi nx pu f k mm) : x.bm < w.heap.size := by
  obtain ⟨D, hD, hT⟩ := h.mp; exact hD.lt
theorem Core.kept (h : Core w0 w x cs oc row t tag hi nx pu f k mm) (b : Below w.heap.size w w') : Core w0 w' x cs oc row t tag hi nx pu f k mm :=
  h.move (h.conc.kept b) h.clen (b.block _ h.pu_.lt) (b.block _ h.wh.lt) (b.block _ h.nx_.lt) (b.block _ h.tk.lt) (b.block _ h.bm_lt)
/-- Behind a step of a call. -/
theorem Core.step (h : Core w0 w x cs oc row t tag hi nx pu f k mm) (hc : cs[i]? = some (some (gc, cl))) (K : KeptB w w' gc x.g x.gw) (H : Conc w0 w' x.gd x.g x.gw x.bc 38 1 40 t' tag' hi' row' oc' cs' k') (hl : cs'.length = 4) : Core w0 w' x cs' oc' row' t' tag' hi' nx pu f k' mm := by
  have L := h.conc.lies hc
  obtain ⟨zs, A, c, ts, HH, _⟩ := h.conc
  have g1 := HH.dq.at_.own
  have g2 := HH.dq.at_.words
  have b1 := fun (b : Nat) (ty : TypeId) (vs : List Value) (hb : Lies w b ty vs) (n1 : ty ≠ 58) (n2 : ty ≠ 61) (n3 : b ≠ x.gw) (n4 : ty ≠ 70) => K.2 b hb.lt (hb.apart L n1) (hb.apart g1 n2) n3 (fun cs hl => hb.apart hl n4 rfl)
  refine h.move H hl (b1 _ _ _ h.pu_ (by decide) (by decide) h.n1 (by decide)) (b1 _ _ _ h.wh (by decide) (by decide) (h.wh.apart g2 (by decide)) (by decide)) (b1 _ _ _ h.nx_ (by decide) (by decide) h.n2 (by decide)) (b1 _ _ _ h.tk (by decide) (by decide) (h.tk.apart g2 (by decide)) (by decide)) ?_
  have hn := h.not
  exact K.2 _ h.bm_lt (fun e => hn _ _ (e ▸ L)) (fun e => hn _ _ (e ▸ g1)) (fun e => hn _ _ (e ▸ g2)) (fun cs hl => hn _ _ hl)
/-- A place of the row of calls is set. -/
theorem Core.put (h : Core w0 w x cs oc row t tag hi nx pu f k mm) (o : Option (Nat × Cl)) (oc' : Option Cl) (hi4 : i < 4)
    (hs : ∀ zs, Sh zs 40 t tag hi row oc → Sh zs 40 t tag hi row oc') (ho : ∀ (gc : Nat) (cl : Cl), o = some (gc, cl) → Lies w gc 58 (cl.cells x.g) ∧ w0.heap.size ≤ gc ∧ (∀ (j gj : Nat) (clj : Cl), cs[j]? = some (some (gj, clj)) → gj ≠ gc) ∧ (1 ≤ i → ∀ zs, Sh zs 40 t tag hi row oc → ThOk zs 40 t tag hi cl)) :
    Core w0 (w.setCell ⟨x.bc, i, none⟩ (cellOf o)) x (cs.set i o) oc' row t tag hi nx pu f k mm := by
  have hb := fun (b : Nat) (ty : TypeId) (vs : List Value) (hb : Lies w b ty vs) (n1 : ty ≠ 38) => Below.heap_setCell w ⟨x.bc, i, none⟩ (cellOf o) b (hb.apart h.conc.arr_ n1)
  exact h.move (conc_put h.conc o oc' (by rw [h.clen]; exact hi4) hs ho) (by simpa using h.clen) (hb _ _ _ h.pu_ (by decide)) (hb _ _ _ h.wh (by decide)) (hb _ _ _ h.nx_ (by decide)) (hb _ _ _ h.tk (by decide)) (Below.heap_setCell w _ _ _ (h.conc.not_cells h.not).2.2.2)
theorem Core.drop (h : Core w0 w x cs oc row t tag hi nx pu f k mm) (hi4 : i < 4) : Core w0 (w.setCell ⟨x.bc, i, none⟩ (.pointer none)) x (cs.set i none) oc row t tag hi nx pu f k mm :=
  h.put none oc hi4 (fun _ s => s) (fun gc cl e => by cases e)
/-- What is pushed is set. -/
theorem Core.setp (h : Core w0 w x cs oc row t tag hi nx pu f k mm) (v : Int) : Core w0 (w.setCell ⟨x.bp, 0, none⟩ (.int .i64 v)) x cs oc row t tag hi nx v f k mm := by
  have C := h.conc.far h.pu_ h.n1 h.l1 0 (.int .i64 v)
  obtain ⟨D, hD, hT⟩ := h.mp
  have hne : x.bm ≠ x.bp := fun e => h.not _ _ (e ▸ h.pu_)
  exact ⟨C, h.clen, h.pu_.set 0 _, h.wh.far (p := ⟨x.bp, 0, none⟩) (h.wh.apart h.pu_ (by decide)) _, ⟨D, owns_block hD (Below.heap_setCell w _ _ _ hne), hT⟩, h.nx_.far (p := ⟨x.bp, 0, none⟩) h.n3.symm _, h.tk.far (p := ⟨x.bp, 0, none⟩) (h.tk.apart h.pu_ (by decide)) _, h.n1, h.n2, h.n3, h.l1, h.l2, h.l3⟩
/-- What comes next is set. -/
theorem Core.setn (h : Core w0 w x cs oc row t tag hi nx pu f k mm) (v : Int) : Core w0 (w.setCell ⟨x.bn, 0, none⟩ (.int .i64 v)) x cs oc row t tag hi v pu f k mm := by
  have C := h.conc.far h.nx_ h.n2 h.l2 0 (.int .i64 v)
  obtain ⟨D, hD, hT⟩ := h.mp
  have hne : x.bm ≠ x.bn := fun e => h.not _ _ (e ▸ h.nx_)
  exact ⟨C, h.clen, h.pu_.far (p := ⟨x.bn, 0, none⟩) h.n3 _, h.wh.far (p := ⟨x.bn, 0, none⟩) (h.wh.apart h.nx_ (by decide)) _, ⟨D, owns_block hD (Below.heap_setCell w _ _ _ hne), hT⟩, h.nx_.set 0 _, h.tk.far (p := ⟨x.bn, 0, none⟩) (h.tk.apart h.nx_ (by decide)) _, h.n1, h.n2, h.n3, h.l1, h.l2, h.l3⟩
/-- The map: what is looked up, and what is stored. -/
theorem Core.look (h : Core w0 w x cs oc row t tag hi nx pu f k mm) (y : Int) (hy : -9223372036854775808 ≤ y ∧ y ≤ 9223372036854775807) : (Instr.lookup 39 (.map (some x.bm)) (.int .i64 y) false).run Try.prog w = .ok (.int .i64 (f y)) w := by
  obtain ⟨D, hD, hT⟩ := h.mp
  obtain ⟨c, hrun, hat, hwc⟩ := hD.lookup_int law3 Try.underlying39 Try.underlying3 (zero3 _) (key3 y hy)
  rw [hT.2 y] at hat
  injection hat with hat
  injection hat with _ hat
  rw [hat]; exact hrun
theorem Core.store (h : Core w0 w x cs oc row t tag hi nx pu f k mm) (y v : Int) (hy : -9223372036854775808 ≤ y ∧ y ≤ 9223372036854775807) (hv : -9223372036854775808 ≤ v ∧ v ≤ 9223372036854775807) (hm : mm ≤ 100000) :
    ∃ w', (Instr.mapUpdate 39 (.map (some x.bm)) (.int .i64 y) (.int .i64 v)).run Try.prog w = .ok () w' ∧ Core w0 w' x cs oc row t tag hi nx pu (fun z => if z = y then v else f z) k (mm + 1) := by
  obtain ⟨D, hD, hT⟩ := h.mp
  obtain ⟨w', hrun, r1, r2⟩ := hD.update law3 Try.underlying39 (by unfold maxLen; omega) (key3 y hy) (plainElem_int (H := Unit) Try.underlying3 (by simp [Lit.wf]; exact hv))
  refine ⟨w', hrun, ?_⟩
  have O : Only x.bm w w' := ⟨r2.os, r2.tape, r2.output, r2.size, fun i hi hne => r2.block i hi (fun e => hne (by injection e))⟩
  have hn := h.not
  have nc := h.conc.not_cells hn
  have b1 := fun (b : Nat) (ty : TypeId) (vs : List Value) (hb : Lies w b ty vs) => O.lies hb (fun e => hn _ _ (e ▸ hb))
  exact ⟨h.conc.only O nc.1 nc.2.1 nc.2.2.1 nc.2.2.2 (fun cs hl => hn _ _ hl) (fun cs hl => hn _ _ hl) h.l3, h.clen, b1 _ _ _ h.pu_, b1 _ _ _ h.wh, ⟨_, r1, hT.put y v⟩, b1 _ _ _ h.nx_, b1 _ _ _ h.tk, h.n1, h.n2, h.n3, h.l1, h.l2, h.l3⟩
end
end Go.Proofs.Yteaffpkmidaghaa
