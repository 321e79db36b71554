/- SpillShared: what lies in memory, and what holds of the words. -/
import Derived.Test.YtcnpbdboeaaajaaAw
import Derived.Maps.RangeWalk
import Derived.Maps.OwnOps
namespace Go.Proofs.Ytcnpbdboeaaajaa
open Go.RowKit Go.Maps
set_option linter.unusedVariables false
set_option linter.unusedSimpArgs false

/-- What a map tells. -/
def Tells (D : DataW Unit) (f : Int → Int) : Prop := IsMap D ∧ ∀ x : Int, D.atKey (.int .i64 x) (.lit (.int .i64 0)) = .lit (.int .i64 (f x))
theorem Tells.empty : Tells (.map []) (fun _ => 0) := ⟨isMap_empty, fun x => rfl⟩
theorem Tells.put {D : DataW Unit} {f : Int → Int} (h : Tells D f) (x v : Int) : Tells (D.put (.int .i64 x) (.lit (.int .i64 v))) (fun y => if y = x then v else f y) := by
  refine ⟨h.1.put _ _, fun y => ?_⟩
  by_cases e : y = x
  · subst e
    show _ = DataW.lit (Lit.int .i64 (if y = y then v else f y))
    rw [if_pos rfl]; exact atKey_put_same (k := .int .i64 y) h.1 (by trivial) _ _
  · show _ = DataW.lit (Lit.int .i64 (if y = x then v else f y))
    rw [if_neg e]
    rw [atKey_put_other (fun e' => e (by injection e')) _ _]
    exact h.2 y
theorem law3 : Keyed Try.prog 3 := int_keyed Try.underlying3
theorem zero3 (w : World) : (zeroValue 3).run Try.prog w = .ok (.int .i64 0) w := by kernel_rfl
theorem key3 (x : Int) (h : -9223372036854775808 ≤ x ∧ x ≤ 9223372036854775807) : keyOf Try.prog 3 (.int .i64 x) = some (.int .i64 x) := keyOf_int_mk Try.underlying3 (by have := h.1; have := h.2; simp [Lit.wf]; exact h)
theorem owns_block {w w' : World} {b n : Nat} {D : DataW Unit} (h : w.ownsMap Try.prog 3 (plainElem Try.prog 3) b n D) (e : w'.heap[b]? = w.heap[b]?) : w'.ownsMap Try.prog 3 (plainElem Try.prog 3) b n D := by
  obtain ⟨es, cl, h1, h2⟩ := h
  exact ⟨es, cl, e.trans h1, h2⟩
theorem owns_not {w : World} {b n : Nat} {D : DataW Unit} (h : w.ownsMap Try.prog 3 (plainElem Try.prog 3) b n D) : ∀ t cs, ¬ Lies w b t cs := by
  obtain ⟨es, cl, h1, h2⟩ := h
  intro t cs hl
  unfold Lies at hl
  rw [h1] at hl
  cases hl

/-- Where all lies: the spill, its cells, their words; the row of calls, what is put, the map's variable, the map, what comes next. -/
structure Bx where
  gd : Nat
  g : Nat
  gw : Nat
  bc : Nat
  bp : Nat
  bw : Nat
  bm : Nat
  bn : Nat
def cellOf (o : Option (Nat × Cl × Int)) : Value := .pointer (o.map fun x => ⟨x.1, 0, none⟩)

/-- All of it. -/
structure Core (w0 w : World) (x : Bx) (cs : Cs) (pile : List Int) (nx : Int) (ps : List Int) (f : Int → Int) (k mm : Nat) : Prop where
  conc : ∃ k', k' ≤ k ∧ Conc w0 w x.gd x.g x.gw 30 pile cs k'
  arr : Lies w x.bc 37 (cs.map cellOf)
  clen : cs.length = 4
  pu_ : Lies w x.bp 38 (ps.map (Value.int .i64))
  plen : ps.length = 4
  wh : Lies w x.bw 39 [.map (some x.bm)]
  mp : ∃ D : DataW Unit, w.ownsMap Try.prog 3 (plainElem Try.prog 3) x.bm mm D ∧ Tells D f
  nx_ : Lies w x.bn 3 [.int .i64 nx]
  n2 : x.bn ≠ x.gw
  l0 : w0.heap.size ≤ x.bc
  l1 : w0.heap.size ≤ x.bp
  l2 : w0.heap.size ≤ x.bn
  l3 : w0.heap.size ≤ x.bm

section
variable {w0 w w' : World} {x : Bx} {cs cs' : Cs} {pile pile' : List Int} {nx : Int} {ps : List Int} {f : Int → Int} {k k' mm gc i : Nat} {cl : Cl} {xx : Int}

theorem Core.not (h : Core w0 w x cs pile nx ps f k mm) : ∀ t cs, ¬ Lies w x.bm t cs := by
  obtain ⟨D, h1, _⟩ := h.mp; exact owns_not h1
theorem Core.bm_lt (h : Core w0 w x cs pile nx ps f k mm) : x.bm < w.heap.size := by
  obtain ⟨D, hD, hT⟩ := h.mp; exact hD.lt
theorem Core.below (h : Core w0 w x cs pile nx ps f k mm) : Below w0.heap.size w0 w := by
  obtain ⟨k', _, C⟩ := h.conc; exact C.below
theorem Core.own (h : Core w0 w x cs pile nx ps f k mm) : Lies w x.gd 58 [.pointer (some ⟨x.g, 0, none⟩)] := by
  obtain ⟨k', _, C⟩ := h.conc; exact C.own
theorem Core.cell (h : Core w0 w x cs pile nx ps f k mm) {o : Option (Nat × Cl × Int)} (hc : cs[i]? = some o) : w.cell? ⟨x.bc, i, none⟩ = some (cellOf o) := by
  rw [h.arr.cell]; simp [hc]
theorem Core.pcell (h : Core w0 w x cs pile nx ps f k mm) (hi : i < 4) : w.cell? ⟨x.bp, i, none⟩ = some (.int .i64 (ps.getD i 0)) := by
  rw [h.pu_.cell]; simp [List.getD, h.plen, hi]
theorem Core.move (h : Core w0 w x cs pile nx ps f k mm) (H : ∃ k2, k2 ≤ k' ∧ Conc w0 w' x.gd x.g x.gw 30 pile' cs' k2) (A : Lies w' x.bc 37 (cs'.map cellOf)) (hl : cs'.length = 4)
    (e1 : w'.heap[x.bp]? = w.heap[x.bp]?) (e2 : w'.heap[x.bw]? = w.heap[x.bw]?) (e3 : w'.heap[x.bn]? = w.heap[x.bn]?) (e5 : w'.heap[x.bm]? = w.heap[x.bm]?) : Core w0 w' x cs' pile' nx ps f k' mm := by
  obtain ⟨D, hD, hT⟩ := h.mp
  exact ⟨H, A, hl, h.pu_.of_block e1, h.plen, h.wh.of_block e2, ⟨D, owns_block hD e5, hT⟩, h.nx_.of_block e3, h.n2, h.l0, h.l1, h.l2, h.l3⟩
theorem Core.kept (h : Core w0 w x cs pile nx ps f k mm) (b : Below w.heap.size w w') : Core w0 w' x cs pile nx ps f k mm := by
  obtain ⟨k', hk, C⟩ := h.conc
  exact h.move ⟨k', hk, C.kept b⟩ (h.arr.kept b) h.clen (b.block _ h.pu_.lt) (b.block _ h.wh.lt) (b.block _ h.nx_.lt) (b.block _ h.bm_lt)
theorem Core.more (h : Core w0 w x cs pile nx ps f k mm) {k2 mm2 : Nat} (h1 : k ≤ k2) (h2 : mm ≤ mm2) : Core w0 w x cs pile nx ps f k2 mm2 := by
  obtain ⟨D, hD, hT⟩ := h.mp
  obtain ⟨k', hk, C⟩ := h.conc
  exact ⟨⟨k', by omega, C⟩, h.arr, h.clen, h.pu_, h.plen, h.wh, ⟨D, hD.mono h2, hT⟩, h.nx_, h.n2, h.l0, h.l1, h.l2, h.l3⟩
theorem cellOf_set {c1 c2 : Cl} {y : Int} (hc : cs[i]? = some (some (gc, c1, y))) : (cs.set i (some (gc, c2, y))).map cellOf = cs.map cellOf := by
  apply List.ext_getElem?
  intro j
  rw [List.getElem?_map, List.getElem?_map, List.getElem?_set]
  by_cases e : i = j
  · subst e
    rw [if_pos rfl, if_pos (List.getElem?_eq_some_iff.1 hc).1, hc]; rfl
  · rw [if_neg e]
/-- Behind a step of a call. -/
theorem Core.step {cl' : Cl} {k1 : Nat} (h : Core w0 w x cs pile nx ps f k mm) (hc : cs[i]? = some (some (gc, cl, xx))) (C : Conc w0 w x.gd x.g x.gw 30 pile cs k1) (K : KeptB w w' gc x.g x.gw) (H : ∃ k2, k2 ≤ k' ∧ Conc w0 w' x.gd x.g x.gw 30 pile' (cs.set i (some (gc, cl', xx))) k2) : Core w0 w' x (cs.set i (some (gc, cl', xx))) pile' nx ps f k' mm := by
  have L := C.lies hc
  obtain ⟨vg, g1⟩ := C.g_lies
  obtain ⟨vw, g2⟩ := C.gw_lies
  have b1 := fun (b : Nat) (ty : TypeId) (vs : List Value) (hb : Lies w b ty vs) (n1 : ty ≠ 62) (n2 : ty ≠ 64) (n3 : b ≠ x.gw) (n4 : ty ≠ 74) => K.2 b hb.lt (hb.apart L n1) (hb.apart g1 n2) n3 (fun cs hl => hb.apart hl n4 rfl)
  have hn := h.not
  refine h.move H (by rw [cellOf_set hc]; exact h.arr.of_block (b1 _ _ _ h.arr (by decide) (by decide) (h.arr.apart g2 (by decide)) (by decide))) (by simpa using h.clen)
    (b1 _ _ _ h.pu_ (by decide) (by decide) (h.pu_.apart g2 (by decide)) (by decide)) (b1 _ _ _ h.wh (by decide) (by decide) (h.wh.apart g2 (by decide)) (by decide)) (b1 _ _ _ h.nx_ (by decide) (by decide) h.n2 (by decide)) ?_
  exact K.2 _ h.bm_lt (fun e => hn _ _ (e ▸ L)) (fun e => hn _ _ (e ▸ g1)) (fun e => hn _ _ (e ▸ g2)) (fun cs hl => hn _ _ hl)
theorem Core.arr_set (h : Core w0 w x cs pile nx ps f k mm) (o : Option (Nat × Cl × Int)) (H : ∀ k', Conc w0 w x.gd x.g x.gw 30 pile cs k' → Conc w0 w x.gd x.g x.gw 30 pile (cs.set i o) k') : Core w0 (w.setCell ⟨x.bc, i, none⟩ (cellOf o)) x (cs.set i o) pile nx ps f k mm := by
  obtain ⟨k', hk, C⟩ := h.conc
  have O : Only x.bc w (w.setCell ⟨x.bc, i, none⟩ (cellOf o)) := (Only.refl x.bc w).set i _
  obtain ⟨vw, g2⟩ := C.gw_lies
  have hne : x.bm ≠ x.bc := fun e => h.not _ _ (e ▸ h.arr)
  have hb := fun (b : Nat) (ty : TypeId) (vs : List Value) (hb : Lies w b ty vs) (n1 : ty ≠ 37) => Below.heap_setCell w ⟨x.bc, i, none⟩ (cellOf o) b (hb.apart h.arr n1)
  exact h.move ⟨k', hk, (H k' C).only_lies O h.arr (by decide) (by decide) (by decide) (by decide) (h.arr.apart g2 (by decide)) h.l0⟩ (by rw [List.map_set]; exact h.arr.set i _) (by simpa using h.clen)
    (hb _ _ _ h.pu_ (by decide)) (hb _ _ _ h.wh (by decide)) (hb _ _ _ h.nx_ (by decide)) (Below.heap_setCell w _ _ _ hne)
/-- A call that is done is let go. -/
theorem Core.drop (h : Core w0 w x cs pile nx ps f k mm) (hc : cs[i]? = some (some (gc, cl, xx))) (hz : cl.nx = 0) : Core w0 (w.setCell ⟨x.bc, i, none⟩ (.pointer none)) x (cs.set i none) pile nx ps f k mm :=
  h.arr_set none fun k' C => C.drop hc hz
/-- A call is begun. -/
theorem Core.into (h : Core w0 w x cs pile nx ps f k mm) (hc : cs[i]? = some none) (L : Lies w' w.heap.size 62 (cl.cells x.g)) (b : Below w.heap.size w w') (ok : CallOk cl xx) (hn : cl.nx = 27) :
    Core w0 (w'.setCell ⟨x.bc, i, none⟩ (.pointer (some ⟨w.heap.size, 0, none⟩))) x (cs.set i (some (w.heap.size, cl, xx))) pile nx ps f k mm := by
  have hk := h.kept b
  obtain ⟨k1, hk1, C⟩ := h.conc
  have C2 := C.into hc L b ok hn
  have O : Only x.bc w' (w'.setCell ⟨x.bc, i, none⟩ (.pointer (some ⟨w.heap.size, 0, none⟩))) := (Only.refl x.bc w').set i _
  obtain ⟨vw, g2⟩ := (C.kept b).gw_lies
  have hne : x.bm ≠ x.bc := fun e => hk.not _ _ (e ▸ hk.arr)
  have hb := fun (b : Nat) (ty : TypeId) (vs : List Value) (hb : Lies w' b ty vs) (n1 : ty ≠ 37) => Below.heap_setCell w' ⟨x.bc, i, none⟩ (.pointer (some ⟨w.heap.size, 0, none⟩)) b (hb.apart hk.arr n1)
  exact hk.move ⟨k1, hk1, C2.only_lies O hk.arr (by decide) (by decide) (by decide) (by decide) (hk.arr.apart g2 (by decide)) h.l0⟩ (by rw [List.map_set]; exact hk.arr.set i _) (by simpa using h.clen)
    (hb _ _ _ hk.pu_ (by decide)) (hb _ _ _ hk.wh (by decide)) (hb _ _ _ hk.nx_ (by decide)) (Below.heap_setCell w' _ _ _ hne)
/-- What is put is set. -/
theorem Core.setp (h : Core w0 w x cs pile nx ps f k mm) (i : Nat) (v : Int) : Core w0 (w.setCell ⟨x.bp, i, none⟩ (.int .i64 v)) x cs pile nx (ps.set i v) f k mm := by
  obtain ⟨D, hD, hT⟩ := h.mp
  obtain ⟨k', hk, C⟩ := h.conc
  obtain ⟨vw, g2⟩ := C.gw_lies
  have O : Only x.bp w (w.setCell ⟨x.bp, i, none⟩ (.int .i64 v)) := (Only.refl x.bp w).set i _
  have hne : x.bm ≠ x.bp := fun e => h.not _ _ (e ▸ h.pu_)
  exact ⟨⟨k', hk, C.only_lies O h.pu_ (by decide) (by decide) (by decide) (by decide) (h.pu_.apart g2 (by decide)) h.l1⟩, O.lies h.arr (h.arr.apart h.pu_ (by decide)), h.clen, by rw [List.map_set]; exact h.pu_.set i _, by simpa using h.plen,
    O.lies h.wh (h.wh.apart h.pu_ (by decide)), ⟨D, owns_block hD (Below.heap_setCell w _ _ _ hne), hT⟩, O.lies h.nx_ (h.nx_.apart h.pu_ (by decide)), h.n2, h.l0, h.l1, h.l2, h.l3⟩
/-- What comes next is set. -/
theorem Core.setn (h : Core w0 w x cs pile nx ps f k mm) (v : Int) : Core w0 (w.setCell ⟨x.bn, 0, none⟩ (.int .i64 v)) x cs pile v ps f k mm := by
  obtain ⟨D, hD, hT⟩ := h.mp
  obtain ⟨k', hk, C⟩ := h.conc
  have O : Only x.bn w (w.setCell ⟨x.bn, 0, none⟩ (.int .i64 v)) := (Only.refl x.bn w).set 0 _
  have hne : x.bm ≠ x.bn := fun e => h.not _ _ (e ▸ h.nx_)
  exact ⟨⟨k', hk, C.only_lies O h.nx_ (by decide) (by decide) (by decide) (by decide) h.n2 h.l2⟩, O.lies h.arr (h.arr.apart h.nx_ (by decide)), h.clen, O.lies h.pu_ (h.pu_.apart h.nx_ (by decide)), h.plen,
    O.lies h.wh (h.wh.apart h.nx_ (by decide)), ⟨D, owns_block hD (Below.heap_setCell w _ _ _ hne), hT⟩, h.nx_.set 0 _, h.n2, h.l0, h.l1, h.l2, h.l3⟩
/-- The map: what is looked up, and what is stored. -/
theorem Core.look (h : Core w0 w x cs pile nx ps f k mm) (y : Int) (hy : -9223372036854775808 ≤ y ∧ y ≤ 9223372036854775807) : (Instr.lookup 39 (.map (some x.bm)) (.int .i64 y) false).run Try.prog w = .ok (.int .i64 (f y)) w := by
  obtain ⟨D, hD, hT⟩ := h.mp
  obtain ⟨c, hrun, hat, hwc⟩ := hD.lookup_int law3 Try.underlying39 Try.underlying3 (zero3 _) (key3 y hy)
  rw [hT.2 y] at hat
  injection hat with hat
  injection hat with _ hat
  rw [hat]; exact hrun
theorem Core.store (h : Core w0 w x cs pile nx ps f k mm) (y v : Int) (hy : -9223372036854775808 ≤ y ∧ y ≤ 9223372036854775807) (hv : -9223372036854775808 ≤ v ∧ v ≤ 9223372036854775807) (hm : mm ≤ 100000) :
    ∃ w', (Instr.mapUpdate 39 (.map (some x.bm)) (.int .i64 y) (.int .i64 v)).run Try.prog w = .ok () w' ∧ Core w0 w' x cs pile nx ps (fun z => if z = y then v else f z) k (mm + 1) ∧ Only x.bm w w' := by
  obtain ⟨D, hD, hT⟩ := h.mp
  obtain ⟨k', hk, C⟩ := h.conc
  obtain ⟨vg, g1⟩ := C.g_lies
  obtain ⟨vw, g2⟩ := C.gw_lies
  obtain ⟨w', hrun, r1, r2⟩ := hD.update law3 Try.underlying39 (by unfold maxLen; omega) (key3 y hy) (plainElem_int (H := Unit) Try.underlying3 (by simp [Lit.wf]; exact hv))
  have O : Only x.bm w w' := ⟨r2.os, r2.tape, r2.output, r2.size, fun i hi hne => r2.block i hi (fun e => hne (by injection e))⟩
  refine ⟨w', hrun, ?_, O⟩
  have hn := h.not
  have b1 := fun (b : Nat) (ty : TypeId) (vs : List Value) (hb : Lies w b ty vs) => O.lies hb (fun e => hn _ _ (e ▸ hb))
  exact ⟨⟨k', hk, C.only O (fun e => hn _ _ (e ▸ C.own)) (fun e => hn _ _ (e ▸ g1)) (fun e => hn _ _ (e ▸ g2)) (fun cs hl => hn _ _ hl) (fun cs hl => hn _ _ hl) h.l3⟩, b1 _ _ _ h.arr, h.clen, b1 _ _ _ h.pu_, h.plen, b1 _ _ _ h.wh, ⟨_, r1, hT.put y v⟩, b1 _ _ _ h.nx_, h.n2, h.l0, h.l1, h.l2, h.l3⟩
end

/-- How often a word stands there. -/
def cnt (l : List Int) (y : Int) : Int := (l.count y : Int)
theorem cnt_nil : cnt [] = fun _ => 0 := by funext y; simp [cnt]
theorem cnt_bd (l : List Int) (y : Int) : 0 ≤ cnt l y ∧ cnt l y ≤ l.length := by
  have := List.count_le_length (a := y) (l := l)
  unfold cnt; omega
theorem cnt_app (l : List Int) (x : Int) : (fun z => if z = x then cnt l x + 1 else cnt l z) = cnt (l ++ [x]) := by
  funext z
  by_cases e : z = x
  · subst e; simp [cnt, List.count_append]
  · have : ¬ x = z := fun h => e h.symm
    simp [cnt, List.count_append, e, List.count_cons, this]
theorem cnt_last (l : List Int) (y : Int) : (fun z => if z = y then cnt (l ++ [y]) y - 1 else cnt (l ++ [y]) z) = cnt l := by
  funext z
  rw [← cnt_app]
  by_cases e : z = y
  · subst e; simp
  · simp [e]
theorem cnt_cons (l : List Int) (y : Int) : (fun z => if z = y then cnt (y :: l) y - 1 else cnt (y :: l) z) = cnt l := by
  funext z
  by_cases e : z = y
  · subst e; simp [cnt]
  · have : ¬ y = z := fun h => e h.symm
    simp [cnt, e, List.count_cons, this]

/-- What holds of the words, between two steps. -/
structure Mt (cs : Cs) (pile : List Int) (nx : Int) (ps : List Int) : Prop where
  rng : ∀ y ∈ pile, 0 < y ∧ y < nx
  calls : ∀ (i gc : Nat) (c : Cl) (x : Int), cs[i]? = some (some (gc, c, x)) → c.nx ≠ 0 ∧ ((c.mv = 25 ∧ ps.getD i 0 = x ∧ 0 < x ∧ x < nx) ∨ (c.mv = 26 ∧ ps.getD i 0 = 0))
def Sta (w0 w : World) (x : Bx) (cs : Cs) (nx : Int) (k mm : Nat) : Prop := ∃ pile ps, Core w0 w x cs pile nx ps (cnt pile) k mm ∧ Mt cs pile nx ps

section
variable {cs : Cs} {pile : List Int} {nx : Int} {ps : List Int} {i gc : Nat} {c c' : Cl} {x : Int}
theorem Mt.drop (m : Mt cs pile nx ps) {pile' : List Int} (h : ∀ y ∈ pile', 0 < y ∧ y < nx) : Mt (cs.set i none) pile' nx ps :=
  ⟨h, fun j g1 c1 x1 e => by
    rcases set_some e with ⟨_, e⟩ | ⟨_, e⟩
    · cases e
    · exact m.calls j g1 c1 x1 e⟩
theorem Mt.on (m : Mt cs pile nx ps) (hc : cs[i]? = some (some (gc, c, x))) (hmv : c'.mv = c.mv) (hn : c'.nx ≠ 0) : Mt (cs.set i (some (gc, c', x))) pile nx ps :=
  ⟨m.rng, fun j g1 c1 x1 e => by
    rcases set_some e with ⟨rfl, e'⟩ | ⟨_, e⟩
    · cases e'
      have := (m.calls _ _ _ _ hc).2
      rw [hmv]; exact ⟨hn, this⟩
    · exact m.calls j g1 c1 x1 e⟩
theorem Mt.put (m : Mt cs pile nx ps) (hi : i < ps.length) (h0 : 0 < nx) : Mt (cs.set i (some (gc, ⟨(i : Int), 27, 25, 0, nx, 0⟩, nx))) pile (nx + 1) (ps.set i nx) :=
  ⟨fun y hy => by have := m.rng y hy; omega, fun j g1 c1 x1 e => by
    rcases set_some e with ⟨rfl, e'⟩ | ⟨hij, e⟩
    · cases e'
      exact ⟨by simp, Or.inl ⟨rfl, getD_set_eq _ _ _ hi, h0, by omega⟩⟩
    · obtain ⟨a, b⟩ := m.calls j g1 c1 x1 e
      rw [getD_set_ne _ _ _ _ hij]
      refine ⟨a, ?_⟩
      rcases b with ⟨b1, b2, b3, b4⟩ | b
      · exact Or.inl ⟨b1, b2, b3, by omega⟩
      · exact Or.inr b⟩
theorem Mt.take (m : Mt cs pile nx ps) (hi : i < ps.length) : Mt (cs.set i (some (gc, ⟨(i : Int), 27, 26, 0, 0, 0⟩, 0))) pile nx (ps.set i 0) :=
  ⟨m.rng, fun j g1 c1 x1 e => by
    rcases set_some e with ⟨rfl, e'⟩ | ⟨hij, e⟩
    · cases e'
      exact ⟨by simp, Or.inr ⟨rfl, getD_set_eq _ _ _ hi⟩⟩
    · obtain ⟨a, b⟩ := m.calls j g1 c1 x1 e
      rw [getD_set_ne _ _ _ _ hij]; exact ⟨a, b⟩⟩
end
end Go.Proofs.Ytcnpbdboeaaajaa
