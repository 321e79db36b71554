/- Steps of append for the reference's lists. Between two rounds of the reference's Of. Steps of the reference's Place, Split and Write on lists of objects. What the reference's Place answers. -/
import Derived.Test.YtklhdilbmpndkaaGreatGl
import Derived.Deep.RegionLaw
import Derived.Test.YtklhdilbmpndkaaGreatGc
import Derived.Deep.RegionHeld
namespace Go.Proofs.YtklhdilbmpndkaaGreat
set_option maxRecDepth 20000
open Go.RowKit
set_option linter.unusedVariables false
set_option linter.unusedSimpArgs false

set_option maxRecDepth 100000 in
theorem info_53 : ∃ i z, Tryz.prog.info? 66 = some i ∧ i.zero = some z ∧ i.size = 5 ∧ i.bytes = 56 ∧ z.cells.size = 5 := ⟨_, _, rfl, rfl, rfl, rfl, rfl⟩

/-- append onto a slice of words that is not nil and that the call owns. -/
theorem step_ints2 {ops : Array Oper} {o : Oper} {a : Act} {w : World} {K : Act → World → Prop} {Q : Exit → Act → World → Prop} {E : Prop} (hgd : o.guard = none) (s x : Operand)
    (ho : o.op = .call { callee := .builtin .append, args := #[s, x], argTypes := #[30, 30] })
    (base b n cap : Nat) (xs : List Int) (hs : a.eval s = .slice (some ⟨b, 0, none⟩) n cap) (hown : w.ownsRow base 3 1 (.slice (some ⟨b, 0, none⟩) n cap) n (xs.map (Value.int .i64)))
    (ad : Addr) (m c : Nat) (ys : List Int) (hx : a.eval x = .slice (some ad) m c) (hm : ys.length = m) (hr : Row w (some ad) ys) (hb : n + m ≤ 100000) (hbase : base ≤ w.heap.size)
    (h : ∀ g cap' w', w'.ownsRow base 3 1 (.slice (some ⟨g, 0, none⟩) (n + m) cap') (n + m) ((xs ++ ys).map (Value.int .i64)) → w.grownBy w' (some b) → K (a.put o.dst (.slice (some ⟨g, 0, none⟩) (n + m) cap')) w') :
    if Region.wanted o (yielded ops a.tmps) = true then Oper.wp Tryz.prog o a w K Q else E := by
  have hw : Region.wanted o (yielded ops a.tmps) = true := by simp [Region.wanted, hgd]
  rw [if_pos hw]
  obtain ⟨i, hi, hz, hsz, hby⟩ := info_3
  obtain ⟨v', w', hrn, h2, h3, h4, _⟩ := run_append_own_at (P := Tryz.prog) w base 30 o.type 3 i (.int .i64 0) 1 8 Tryz.underlying30 hi hz hsz hby rfl (by decide) _ n (xs.map (Value.int .i64)) hown ad m c (ys.map (Value.int .i64)) (by simp [hm])
    (fun j u hu => by
      have hj : 0 < ys.length := by
        have := (List.getElem?_eq_some_iff.1 hu).1
        simp at this; omega
      obtain ⟨ad', e, _, hc⟩ := hr hj
      injection e with e
      subst e
      exact hc j u hu) (fun u hu => by simp at hu; obtain ⟨_, _, rfl⟩ := hu; rfl) (by unfold maxLen; omega) (by omega) hbase
  obtain ⟨g, cap', rfl⟩ : ∃ g cap', v' = .slice (some ⟨g, 0, none⟩) (n + m) cap' := by
    rcases h2.2 with ⟨e, _⟩ | ⟨g, cap', _, e, _⟩
    · have := h4.1 e
      simp at this
    · exact ⟨g, cap', e⟩
  unfold Oper.wp execOp
  simp only [ho, resolve, invoke, builtin, Sem.run_bind, Sem.run_pure, Result.andThen_ok, List.map_toArray, List.map_cons, List.map_nil, hs, hx, hrn]
  exact h g cap' w' (by simpa using h2) h3

/-- append of one object onto a slice of objects that the call owns. -/
theorem step_obj {ops : Array Oper} {o : Oper} {a : Act} {w : World} {K : Act → World → Prop} {Q : Exit → Act → World → Prop} {E : Prop} (hgd : o.guard = none) (s x : Operand)
    (ho : o.op = .call { callee := .builtin .append, args := #[s, x], argTypes := #[32, 32] })
    (base : Nat) (v : Value) (n : Nat) (xs : List Value) (hs : a.eval s = v) (hown : w.ownsRow base 66 5 v n xs)
    (B : Nat) (m c : Nat) (cs : Array Value) (fr : Nat × Nat) (t : TypeId) (hx : a.eval x = .slice (some ⟨B, 0, none⟩) m c) (hB : w.heap[B]? = some (.cells cs t fr)) (hl : cs.toList.length = m * 5) (h1 : ∀ u ∈ cs.toList, u.oneCell' = true) (hb : n + m ≤ 100000) (hbase : base ≤ w.heap.size)
    (h : ∀ v' w', w'.ownsRow base 66 5 v' (n + m) (xs ++ cs.toList) → w.grownBy w' v.ownBlock → K (a.put o.dst v') w') :
    if Region.wanted o (yielded ops a.tmps) = true then Oper.wp Tryz.prog o a w K Q else E := by
  have hw : Region.wanted o (yielded ops a.tmps) = true := by simp [Region.wanted, hgd]
  rw [if_pos hw]
  obtain ⟨i, z, hi, hz, hsz, hby, hzs⟩ := info_53
  obtain ⟨v', w', hrn, h2, h3, _, _⟩ := run_append_own_at (P := Tryz.prog) w base 32 o.type 66 i z 5 56 Tryz.underlying32 hi hz hsz hby hzs (by decide) v n xs hown ⟨B, 0, none⟩ m c cs.toList hl
    (World.news_of_block hB) h1 (by unfold maxLen; omega) (by omega) hbase
  unfold Oper.wp execOp
  simp only [ho, resolve, invoke, builtin, Sem.run_bind, Sem.run_pure, Result.andThen_ok, List.map_toArray, List.map_cons, List.map_nil, hs, hx, hrn]
  exact h v' w' h2 h3

theorem owns_any {w w' : World} {base n sz : Nat} {t : TypeId} {v : Value} {xs : List Value} (h : w.ownsRow base t sz v n xs) (hb : Below w.heap.size w w') : w'.ownsRow base t sz v n xs := by
  refine ⟨h.1, h.2.imp id ?_⟩
  rintro ⟨g, cap, cur, h1, h2, h3, h4⟩
  exact ⟨g, cap, cur, h1, h2, (hb.block g (Array.getElem?_eq_some_iff.1 h3).1).trans h3, h4⟩

/-- These are the cells of those objects, each of whose words lie in a row of the call's own. -/
def CellsO (w : World) (base : Nat) : Nat → List Ob → List Value → Prop
  | _, [], xs => xs = []
  | a, o :: l, xs => ∃ b c ys, xs = thing a o (some ⟨b, 0, none⟩) c ++ ys ∧ w.ownsRow base 3 1 (.slice (some ⟨b, 0, none⟩) o.2.length c) o.2.length (o.2.map (Value.int .i64)) ∧ CellsO w base (a + 1 + o.2.length) l ys

theorem CellsO.cells {w : World} {base : Nat} : ∀ {a : Nat} {obs : List Ob} {xs : List Value}, CellsO w base a obs xs → Cells w a obs xs
  | _, [], xs, h => h
  | a, o :: l, xs, h => by
    obtain ⟨b, c, ys, e, ho, h2⟩ := h
    obtain ⟨A, c', e', hr⟩ := owns_row ho
    injection e' with e1 e2 e3
    subst e1
    exact ⟨⟨b, 0, none⟩, c, ys, e, hr, h2.cells⟩

theorem CellsO.of {w w' : World} {base : Nat} (hk : ∀ b n c zs, w.ownsRow base 3 1 (.slice (some ⟨b, 0, none⟩) n c) n zs → w'.ownsRow base 3 1 (.slice (some ⟨b, 0, none⟩) n c) n zs) : ∀ {a : Nat} {obs : List Ob} {xs : List Value}, CellsO w base a obs xs → CellsO w' base a obs xs
  | _, [], xs, h => h
  | a, o :: l, xs, h => by
    obtain ⟨b, c, ys, e, ho, h2⟩ := h
    exact ⟨b, c, ys, e, hk _ _ _ _ ho, CellsO.of hk h2⟩

theorem CellsO.kept {w w' : World} {base : Nat} (hb : Below w.heap.size w w') {a : Nat} {obs : List Ob} {xs : List Value} (h : CellsO w base a obs xs) : CellsO w' base a obs xs :=
  h.of fun _ _ _ _ ho => owns_any ho hb

/-- A row of another type stays where a row of the call's own grows. -/
theorem owns_apart {w w' : World} {base base' n n' sz sz' : Nat} {t t' : TypeId} {v v' : Value} {xs ys : List Value} (h : w.ownsRow base t sz v n xs) (h' : w.ownsRow base' t' sz' v' n' ys) (ht : t ≠ t') (hg : w.grownBy w' v'.ownBlock) : w'.ownsRow base t sz v n xs := by
  refine ⟨h.1, h.2.imp id ?_⟩
  rintro ⟨g, cap, cur, h1, h2, h3, h4⟩
  refine ⟨g, cap, cur, h1, h2, (hg.block g (Array.getElem?_eq_some_iff.1 h3).1 (fun e => ?_)).trans h3, h4⟩
  obtain ⟨_, ⟨rfl, _⟩ | ⟨g', cap', cur', rfl, _, h6, _⟩⟩ := h'
  · simp [Value.ownBlock] at e
  · simp [Value.ownBlock] at e
    subst e
    rw [h6] at h3
    injection h3 with h3
    injection h3 with _ h7
    exact ht h7.symm

theorem CellsO.grown {w w' : World} {base base' n : Nat} {v : Value} {ys : List Value} (h' : w.ownsRow base' 66 5 v n ys) (hg : w.grownBy w' v.ownBlock) {a : Nat} {obs : List Ob} {xs : List Value} (h : CellsO w base a obs xs) : CellsO w' base a obs xs :=
  h.of fun _ _ _ _ ho => owns_apart ho h' (by decide) hg

theorem owns_far {w : World} {base n sz : Nat} {t : TypeId} {v : Value} {xs : List Value} {b : Nat} {t' : TypeId} {cs : List Value} (h : w.ownsRow base t sz v n xs) (hl : Lies w b t' cs) (ht : t ≠ t') (i : Nat) (u : Value) : (w.setCell ⟨b, i, none⟩ u).ownsRow base t sz v n xs := by
  refine ⟨h.1, h.2.imp id ?_⟩
  rintro ⟨g, cap, cur, h1, h2, h3, h4⟩
  refine ⟨g, cap, cur, h1, h2, (Below.heap_setCell _ _ _ _ (fun e => ?_)).trans h3, h4⟩
  have e' : g = b := e
  subst e'
  unfold Lies at hl
  rw [hl] at h3
  injection h3 with h3
  injection h3 with _ h7
  exact ht h7.symm

theorem CellsO.far {w : World} {base b : Nat} {t' : TypeId} {cs : List Value} (hl : Lies w b t' cs) (ht : (3 : TypeId) ≠ t') (i : Nat) (u : Value) {a : Nat} {obs : List Ob} {xs : List Value} (h : CellsO w base a obs xs) : CellsO (w.setCell ⟨b, i, none⟩ u) base a obs xs :=
  h.of fun _ _ _ _ ho => owns_far ho hl ht i u

theorem CellsO.append {w : World} {base : Nat} : ∀ {a : Nat} {obs more : List Ob} {xs ys : List Value}, CellsO w base a obs xs → CellsO w base (a + (flat obs).length) more ys → CellsO w base a (obs ++ more) (xs ++ ys)
  | a, [], more, xs, ys, h, k => by
    have : xs = [] := h
    subst this
    simpa [flat_nil] using k
  | a, o :: l, more, xs, ys, h, k => by
    obtain ⟨b, c, zs, rfl, hr, h2⟩ := h
    refine ⟨b, c, zs ++ ys, by simp, hr, h2.append ?_⟩
    rw [flat_cons] at k
    have e : a + (o.1 :: (o.2 ++ flat l)).length = a + 1 + o.2.length + (flat l).length := by simp; omega
    rw [← e]
    exact k
end Go.Proofs.YtklhdilbmpndkaaGreat

namespace Go.Proofs.YtklhdilbmpndkaaGreat
set_option maxRecDepth 20000
open Go.RowKit
set_option linter.unusedVariables false
set_option linter.unusedSimpArgs false

/-- Between two rounds of the reference's Of. -/
structure OfI (w : World) (zs : List Int) (a : Nat) (pre : List Ob) (v : Value) (xs : List Value) (W : World) : Prop where
  fine : Fine pre
  flat_ : flat pre = zs.take a
  res : Lies W w.heap.size 34 [.int .i64 0, .slice none 0 0]
  box : Lies W (w.heap.size + 1) 34 [.int .i64 (zs.length : Nat), v]
  own : W.ownsRow (w.heap.size + 1 + 1) 66 5 v pre.length xs
  cells : CellsO W (w.heap.size + 1 + 1) 0 pre xs
  old : Below w.heap.size w W

theorem step_fresh {ops : Array Oper} {o : Oper} {a : Act} {w : World} {K : Act → World → Prop} {Q : Exit → Act → World → Prop} {E : Prop} (hgd : o.guard = none) (s x : Operand)
    (ho : o.op = .call { callee := .builtin .append, args := #[s, x], argTypes := #[30, 30] })
    (base b cap : Nat) (hs : a.eval s = .slice (some ⟨b, 0, none⟩) 0 cap) (hown : w.ownsRow base 3 1 (.slice (some ⟨b, 0, none⟩) 0 cap) 0 [])
    (ad : Addr) (m c : Nat) (ys : List Int) (hx : a.eval x = .slice (some ad) m c) (hm : ys.length = m) (hr : Row w (some ad) ys) (hb : m ≤ 100000) (hbase : base ≤ w.heap.size)
    (h : ∀ g cap' w', w'.ownsRow base 3 1 (.slice (some ⟨g, 0, none⟩) m cap') m (ys.map (Value.int .i64)) → w.grownBy w' (some b) → K (a.put o.dst (.slice (some ⟨g, 0, none⟩) m cap')) w') :
    if Region.wanted o (yielded ops a.tmps) = true then Oper.wp Tryz.prog o a w K Q else E :=
  step_ints2 hgd s x ho base b 0 cap [] hs hown ad m c ys hx hm hr (by omega) hbase (fun g cap' w' h1 h2 => by
    rw [Nat.zero_add, List.nil_append] at h1
    rw [Nat.zero_add]
    exact h g cap' w' h1 h2)

theorem lies_grown {w w' : World} {base n sz b : Nat} {t t' : TypeId} {v : Value} {xs cs : List Value} (hl : Lies w b t' cs) (h : w.ownsRow base t sz v n xs) (ht : t' ≠ t) (hg : w.grownBy w' v.ownBlock) : Lies w' b t' cs := by
  refine hl.of_block (hg.block b hl.lt (fun e => ?_))
  obtain ⟨_, ⟨rfl, _⟩ | ⟨g', cap', cur', rfl, _, h6, _⟩⟩ := h
  · simp [Value.ownBlock] at e
  · simp [Value.ownBlock] at e
    subst e
    unfold Lies at hl
    rw [hl] at h6
    injection h6 with h6
    injection h6 with _ h7
    exact ht h7

theorem row_drop {w : World} {ad : Addr} {zs : List Int} (h : Row w (some ad) zs) (k q : Nat) (hk : 0 < k) : Row w (some ⟨ad.block, ad.off + k, none⟩) ((zs.drop k).take q) := fun h0 => by
  have hz : 0 < zs.length := by simp at h0; omega
  obtain ⟨ad', e, hl, hc⟩ := h hz
  injection e with e
  subst e
  refine ⟨_, rfl, hl, fun j v hv => ?_⟩
  have e1 : (⟨ad.block, ad.off + k, none⟩ : Addr).add j = ad.add (k + j) := by
    unfold Addr.add
    by_cases hj : j = 0
    · subst hj
      simp; omega
    · rw [if_neg hj, if_neg (by omega)]
      simp; omega
  rw [e1]
  refine hc (k + j) v ?_
  rw [List.map_take, List.map_drop, List.getElem?_take] at hv
  split at hv
  · rw [List.getElem?_drop] at hv; exact hv
  · cases hv

theorem below_one (w : World) (o : Obj) : Below w.heap.size w (w.alloc o) := (Below.refl _ w).alloc (Nat.le_refl _) o
theorem one_thing (a : Nat) (o : Ob) (B : Option Addr) (c : Nat) : ∀ u ∈ (thing a o B c).toArray.toList, u.oneCell' = true := fun u hu => by
  simp [thing] at hu
  rcases hu with rfl | rfl | rfl | rfl | rfl <;> rfl
theorem obj_new {q : Nat} (w : World) (a : Nat) (z : Int) (ys : List Int) (g cap : Nat) (t : TypeId) (hq : z / 65536 = (q : Int)) (hy : ys.length = q) :
    (w.alloc (.cells #[.int .i64 (a : Int), .int .i64 (z % 16), .int .i64 (q : Int), .int .i64 (z % 65536 / 16), .slice (some ⟨g, 0, none⟩) q cap] t)).heap[w.heap.size]? = some (.cells (thing a (z, ys) (some ⟨g, 0, none⟩) cap).toArray t (0, 0)) := by
  rw [heap_alloc_new]
  simp [thing, hq, hy]

theorem OfI.kept {w W W' : World} {zs : List Int} {a : Nat} {pre : List Ob} {v : Value} {xs : List Value} (h : OfI w zs a pre v xs W) (hb : Below W.heap.size W W') : OfI w zs a pre v xs W' :=
  ⟨h.fine, h.flat_, h.res.below hb h.res.lt, h.box.below hb h.box.lt, owns_any h.own hb, h.cells.kept hb, on h.old h.old.size hb⟩

theorem pre_le {w W : World} {zs : List Int} {a : Nat} {pre : List Ob} {v : Value} {xs : List Value} (h : OfI w zs a pre v xs W) (ha : a ≤ 65536) : pre.length + 1 ≤ 100000 := by
  have h1 := count_le pre
  rw [h.flat_] at h1
  simp at h1
  omega

/-- A list of objects whose cells, and whose words, lie in rows of the call's own, from a block on. -/
structure Owned (w : World) (base : Nat) (A : Option Addr) (n c : Nat) (obs : List Ob) (xs : List Value) : Prop where
  own : w.ownsRow base 66 5 (.slice A n c) n xs
  cells : CellsO w base 0 obs xs
theorem Owned.things {w : World} {base n c : Nat} {A : Option Addr} {obs : List Ob} {xs : List Value} (h : Owned w base A n c obs xs) : Things w A obs := by
  obtain ⟨A2, c2, e2, hT⟩ := things_own h.own h.cells.cells
  injection e2 with e3 _ e4
  subst e3 e4
  exact hT
theorem Owned.kept {w w' : World} {base n c : Nat} {A : Option Addr} {obs : List Ob} {xs : List Value} (h : Owned w base A n c obs xs) (hb : Below w.heap.size w w') : Owned w' base A n c obs xs := ⟨owns_any h.own hb, h.cells.kept hb⟩
/-- Blocks ahead of those are written as one likes. -/
theorem owns_low {w w' : World} {base n sz : Nat} {t : TypeId} {v : Value} {xs : List Value} (h : w.ownsRow base t sz v n xs) (hb : ∀ k, base ≤ k → w'.heap[k]? = w.heap[k]?) : w'.ownsRow base t sz v n xs := by
  refine ⟨h.1, h.2.imp id ?_⟩
  rintro ⟨g, cap, cur, h1, h2, h3, h4⟩
  exact ⟨g, cap, cur, h1, h2, (hb g h2).trans h3, h4⟩
theorem Owned.low {w w' : World} {base n c : Nat} {A : Option Addr} {obs : List Ob} {xs : List Value} (h : Owned w base A n c obs xs) (hb : ∀ k, base ≤ k → w'.heap[k]? = w.heap[k]?) : Owned w' base A n c obs xs :=
  ⟨owns_low h.own hb, h.cells.of fun _ _ _ _ ho => owns_low ho hb⟩

/-- What the reference's Of leaves. -/
def OfPost (zs : List Int) (top : Nat) (w : World) (e : Ending) (w' : World) : Prop :=
  ((Parses (zs.take top) ∧ ∃ A' n' c' obs xs, e = .returned (.tuple #[.agg #[.int .i64 (zs.length : Nat), .slice A' n' c'], .int .i64 0]) ∧ Fine obs ∧ flat obs = zs.take top ∧ obs.length = n' ∧ Owned w' (w.heap.size + 1 + 1) A' n' c' obs xs) ∨
      (¬ Parses (zs.take top) ∧ e = .returned (.tuple #[.agg #[.int .i64 0, .slice none 0 0], .int .i64 2]))) ∧ Below w.heap.size w w'

theorem OfI.next {w w3 w5 : World} {zs : List Int} {a q g1 cap1 : Nat} {pre : List Ob} {v v5 : Value} {xs : List Value} {z : Int} {ys : List Int} (X : Obj) (I3 : OfI w zs a pre v xs w3) (ha : a ≤ zs.length)
    (hh : headB z = true) (hl : ys.length = q) (hq : lenOf z = q) (hfl : flat (pre ++ [(z, ys)]) = zs.take (a + 1 + q))
    (O3 : w3.ownsRow (w.heap.size + 1 + 1) 3 1 (.slice (some ⟨g1, 0, none⟩) q cap1) q (ys.map (Value.int .i64)))
    (ho5 : (w3.alloc X).ownsRow (w.heap.size + 1 + 1) 66 5 v pre.length xs) (G5 : (w3.alloc X).grownBy w5 v.ownBlock)
    (O5 : w5.ownsRow (w.heap.size + 1 + 1) 66 5 v5 (pre.length + 1) (xs ++ thing a (z, ys) (some ⟨g1, 0, none⟩) cap1))
    (X5 : Lies w5 (w.heap.size + 1) 34 [.int .i64 (zs.length : Nat), v]) :
    OfI w zs (a + 1 + q) (pre ++ [(z, ys)]) v5 (xs ++ thing a (z, ys) (some ⟨g1, 0, none⟩) cap1) (w5.setCell ⟨w.heap.size + 1, 1, none⟩ v5) := by
  have hfa : (flat pre).length = a := by rw [I3.flat_]; simp; omega
  refine ⟨I3.fine.append (Fine.one hh (by simp only; rw [hl, hq])), hfl, (lies_grown (I3.res.alloc X) ho5 (by decide) G5).far (p := ⟨w.heap.size + 1, 1, none⟩) (by simp) _, X5.set 1 v5, ?_, ?_, ?_⟩
  · have := owns_far O5 X5 (by decide) 1 v5
    simpa using this
  · have c1 := ((I3.cells.kept (below_one w3 X)).grown ho5 G5)
    have o1 := owns_apart (owns_any O3 (below_one w3 X)) ho5 (by decide) G5
    have c2 : CellsO w5 (w.heap.size + 1 + 1) (0 + (flat pre).length) [(z, ys)] (thing a (z, ys) (some ⟨g1, 0, none⟩) cap1) := by
      rw [Nat.zero_add, hfa]
      refine ⟨g1, cap1, [], by simp, ?_, rfl⟩
      simp only
      rw [hl]
      exact o1
    exact (c1.append c2).far X5 (by decide) 1 v5
  · have b1 : Below w.heap.size w (w3.alloc X) := on I3.old I3.old.size (below_one w3 X)
    have b2 : Below w.heap.size w w5 := b1.grown G5 b1.size (fun k e => by
      obtain ⟨_, ⟨rfl, _⟩ | ⟨g, cap, cur, rfl, h2, _⟩⟩ := ho5
      · simp [Value.ownBlock] at e
      · simp [Value.ownBlock] at e; omega)
    exact b2.setCell (by simp) _
end Go.Proofs.YtklhdilbmpndkaaGreat

namespace Go.Proofs.YtklhdilbmpndkaaGreat
set_option maxRecDepth 20000
open Go.RowKit
set_option linter.unusedVariables false
set_option linter.unusedSimpArgs false

/-- The world at hand gets a name. -/
theorem named {K : Act → World → Prop} {a : Act} {w : World} (h : ∀ w', w' = w → K a w') : K a w := h w rfl

theorem own_new53 {B : Nat} (w : World) (hb : B ≤ w.heap.size) : (w.alloc (.cells #[] 66)).ownsRow B 66 5 (.slice (some ⟨w.heap.size, 0, none⟩) 0 0) 0 [] := by
  have := World.ownsRow_lit (base := B) (e := 66) (size := 5) w #[] 0 hb (by unfold maxLen; omega) rfl
  exact this

theorem owns_base {w : World} {base base' n sz : Nat} {t : TypeId} {v : Value} {xs : List Value} (h : w.ownsRow base t sz v n xs) (hb : base' ≤ base) : w.ownsRow base' t sz v n xs := by
  refine ⟨h.1, h.2.imp id ?_⟩
  rintro ⟨g, cap, cur, h1, h2, h3⟩
  exact ⟨g, cap, cur, h1, Nat.le_trans hb h2, h3⟩
theorem owns_under {w w' : World} {N base n sz : Nat} {t : TypeId} {v : Value} {xs : List Value} (h : w.ownsRow base t sz v n xs) (hb : Below w.heap.size w w') : w'.ownsRow base t sz v n xs := owns_any h hb

/-- append of a list of objects onto a new one. -/
theorem step_list {ops : Array Oper} {o : Oper} {a : Act} {w : World} {K : Act → World → Prop} {Q : Exit → Act → World → Prop} {E : Prop} (hgd : o.guard = none) (s x : Operand)
    (ho : o.op = .call { callee := .builtin .append, args := #[s, x], argTypes := #[32, 32] })
    (base b cap : Nat) (hs : a.eval s = .slice (some ⟨b, 0, none⟩) 0 cap) (hown : w.ownsRow base 66 5 (.slice (some ⟨b, 0, none⟩) 0 cap) 0 [])
    (base2 : Nat) (A : Option Addr) (n c : Nat) (xs : List Value) (hx : a.eval x = .slice A n c) (hown2 : w.ownsRow base2 66 5 (.slice A n c) n xs) (h1 : ∀ u ∈ xs, u.oneCell' = true) (hb : n ≤ 100000) (hbase : base ≤ w.heap.size)
    (h : ∀ g cap' w', w'.ownsRow base 66 5 (.slice (some ⟨g, 0, none⟩) n cap') n xs → w.grownBy w' (some b) → K (a.put o.dst (.slice (some ⟨g, 0, none⟩) n cap')) w') :
    if Region.wanted o (yielded ops a.tmps) = true then Oper.wp Tryz.prog o a w K Q else E := by
  have hw : Region.wanted o (yielded ops a.tmps) = true := by simp [Region.wanted, hgd]
  rw [if_pos hw]
  obtain ⟨i, z, hi, hz, hsz, hby, hzs⟩ := info_53
  have hl := hown2.1
  rcases hown2.2 with ⟨e, h0⟩ | ⟨g, cap2, cur, e, hg, hheap, q1, q2, q3, q4⟩
  · injection e with e1 e2 e3
    subst e1 e2 e3
    have hxs : xs = [] := by apply List.eq_nil_of_length_eq_zero; omega
    subst hxs
    have hrn := run_append_owned_none (P := Tryz.prog) (w := w) base 32 o.type 66 i 5 Tryz.underlying32 hi _ 0 [] hown
    unfold Oper.wp execOp
    simp only [ho, resolve, invoke, builtin, Sem.run_bind, Sem.run_pure, Result.andThen_ok, List.map_toArray, List.map_cons, List.map_nil, hs, hx, hrn]
    exact h b cap w hown ⟨rfl, rfl, rfl, Nat.le_refl _, fun _ _ _ => rfl⟩
  · injection e with e1 _ e3
    subst e1 e3
    obtain ⟨v', w', hrn, h2, h3, h4, _⟩ := run_append_own_at (P := Tryz.prog) w base 32 o.type 66 i z 5 56 Tryz.underlying32 hi hz hsz hby hzs (by decide) _ 0 [] hown ⟨g, 0, none⟩ n c xs hl
      (fun j u hu => by
        refine World.news_of_block hheap j u ?_
        rw [← q4, List.getElem?_take] at hu
        split at hu
        · exact hu
        · cases hu) h1 (by unfold maxLen; omega) (by omega) hbase
    rw [Nat.zero_add, List.nil_append] at h2
    obtain ⟨g', cap', rfl⟩ : ∃ g' cap', v' = .slice (some ⟨g', 0, none⟩) n cap' := by
      rcases h2.2 with ⟨e, _⟩ | ⟨g', cap', _, e, _⟩
      · have := h4.1 e
        simp at this
      · exact ⟨g', cap', e⟩
    unfold Oper.wp execOp
    simp only [ho, resolve, invoke, builtin, Sem.run_bind, Sem.run_pure, Result.andThen_ok, List.map_toArray, List.map_cons, List.map_nil, hs, hx, hrn]
    exact h g' cap' w' h2 h3

/-- append of one object, which lies in a block of its own, onto a list of the call's own. -/
theorem step_one {ops : Array Oper} {o : Oper} {a : Act} {w : World} {K : Act → World → Prop} {Q : Exit → Act → World → Prop} {E : Prop} (hgd : o.guard = none) (s x : Operand)
    (ho : o.op = .call { callee := .builtin .append, args := #[s, x], argTypes := #[32, 32] })
    (base g n cap : Nat) (xs : List Value) (hs : a.eval s = .slice (some ⟨g, 0, none⟩) n cap) (hown : w.ownsRow base 66 5 (.slice (some ⟨g, 0, none⟩) n cap) n xs)
    (B c : Nat) (cs : List Value) (hx : a.eval x = .slice (some ⟨B, 0, none⟩) 1 c) (hB : Lies w B 66 cs) (hl : cs.length = 5) (h1 : ∀ u ∈ cs, u.oneCell' = true) (hb : n ≤ 70000) (hbase : base ≤ w.heap.size)
    (h : ∀ g' cap' w', w'.ownsRow base 66 5 (.slice (some ⟨g', 0, none⟩) (n + 1) cap') (n + 1) (xs ++ cs) → w.grownBy w' (some g) → K (a.put o.dst (.slice (some ⟨g', 0, none⟩) (n + 1) cap')) w') :
    if Region.wanted o (yielded ops a.tmps) = true then Oper.wp Tryz.prog o a w K Q else E := by
  refine step_obj hgd s x ho base _ n xs hs hown B 1 c cs.toArray (0, 0) 66 hx hB (by simp [hl]) (by simpa using h1) (by omega) hbase ?_
  intro v' w' hv hg
  rcases hv.2 with ⟨_, h0⟩ | ⟨g', cap', _, e, _⟩
  · omega
  · subst e
    simp only [List.toList_toArray] at hv
    exact h g' cap' w' hv hg

theorem lies_grown' {w w' : World} {b g : Nat} {t : TypeId} {cs : List Value} (hl : Lies w b t cs) (hne : b ≠ g) (hg : w.grownBy w' (some g)) : Lies w' b t cs :=
  hl.of_block (hg.block b hl.lt (fun e => hne (by injection e)))
theorem below_row {U0 w w' : World} {N g : Nat} (h : Below N U0 w) (hN : N ≤ w.heap.size) (hg : w.grownBy w' (some g)) (hgN : N ≤ g) : Below N U0 w' := h.grown hg hN (fun k e => by injection e with e; omega)

/-- Neither a list of objects nor any of their words lies in a block. -/
def Off (N : Nat) (A : Option Addr) (xs : List Value) : Prop := (∀ ad, A = some ad → ad.block ≠ N) ∧ ∀ ad n c, Value.slice (some ad) n c ∈ xs → ad.block ≠ N
theorem Off.place {N g bm m l : Nat} {a k p : Int} {A : Option Addr} {xs : List Value} (h : Off N A xs) (hg : N < g) (hb : N < bm) :
    Off N (some ⟨g, 0, none⟩) (xs ++ [.int .i64 a, .int .i64 k, .int .i64 m, .int .i64 p, .slice (some ⟨bm, 0, none⟩) l l]) := by
  refine ⟨fun ad e => by injection e with e; subst e; exact Nat.ne_of_gt hg, fun ad n c hm => ?_⟩
  rcases List.mem_append.1 hm with hm | hm
  · exact h.2 ad n c hm
  · simp at hm
    obtain ⟨rfl, _⟩ := hm
    exact Nat.ne_of_gt hb
theorem Off.nil (N : Nat) : Off N none [] := ⟨fun ad e => (by cases e), fun ad n c hm => by simp at hm⟩
theorem owns_off {w w' : World} {base N n sz : Nat} {t : TypeId} {A : Option Addr} {k c : Nat} {xs : List Value} (h : w.ownsRow base t sz (.slice A k c) n xs) (hA : ∀ ad, A = some ad → ad.block ≠ N) (hs : ∀ b, b ≠ N → b < w.heap.size → w'.heap[b]? = w.heap[b]?) : w'.ownsRow base t sz (.slice A k c) n xs := by
  refine ⟨h.1, h.2.imp id ?_⟩
  rintro ⟨g, cap, cur, h1, h2, h3, h4⟩
  injection h1 with h1 h1' h1''
  subst h1
  exact ⟨g, cap, cur, by rw [h1', h1''], h2, (hs g (hA _ rfl) (Array.getElem?_eq_some_iff.1 h3).1).trans h3, h4⟩
theorem CellsO.off {w w' : World} {base N : Nat} (hs : ∀ b, b ≠ N → b < w.heap.size → w'.heap[b]? = w.heap[b]?) : ∀ {a : Nat} {obs : List Ob} {xs : List Value}, (∀ ad n c, Value.slice (some ad) n c ∈ xs → ad.block ≠ N) → CellsO w base a obs xs → CellsO w' base a obs xs
  | _, [], xs, _, h => h
  | a, o :: l, xs, ho, h => by
    obtain ⟨b, c, ys, e, h1, h2⟩ := h
    refine ⟨b, c, ys, e, owns_off h1 (fun ad e2 => ho ad o.2.length c ?_) hs, CellsO.off hs (fun ad n c hm => ho ad n c (by rw [e]; exact List.mem_append_right _ hm)) h2⟩
    rw [e, ← e2]; exact List.mem_append_left _ (by simp [thing])
/-- One block is written as one likes. -/
theorem Owned.off {w w' : World} {base N n c : Nat} {A : Option Addr} {obs : List Ob} {xs : List Value} (h : Owned w base A n c obs xs) (ho : Off N A xs) (hs : ∀ b, b ≠ N → b < w.heap.size → w'.heap[b]? = w.heap[b]?) : Owned w' base A n c obs xs :=
  ⟨owns_off h.own ho.1 hs, h.cells.off hs ho.2⟩
end Go.Proofs.YtklhdilbmpndkaaGreat

namespace Go.Proofs.YtklhdilbmpndkaaGreat
set_option maxRecDepth 20000
open Go.RowKit
set_option linter.unusedVariables false
set_option linter.unusedSimpArgs false

set_option maxRecDepth 100000 in
set_option maxHeartbeats 1000000 in
theorem rplace_bad {w : World} (s : Int) (A : Option Addr) (n c : Nat) (k l p : Int) (hg : goodB k l p = false) :
    Calls Tryz.prog 41 #[.agg #[.int .i64 s, .slice A n c], .agg #[.int .i64 k, .int .i64 l, .int .i64 p]] w fun e w' => e = .returned (.tuple #[.agg #[.int .i64 s, .slice A n c], .int .i64 0, .int .i64 1]) ∧ Below w.heap.size w w' := by
  go_enter Tryz.func41, Tryz.ntmps41
  go_wp2_with fail
  refine (good_any k l p _).mono ?_
  rintro e w1 ⟨rfl, rfl⟩
  rw [hg]
  go_wp2
  exact bodyPost_ret (v := .tuple #[.agg #[.int .i64 s, .slice A n c], .int .i64 0, .int .i64 1]) (by simp [results, Tryz.results41, go_sem]) rfl ⟨rfl, by
    repeat (first | exact Below.refl _ _ | refine Below.setCell ?_ (by simp <;> omega) _ | refine Below.alloc ?_ (by simp <;> omega) _)⟩

set_option maxRecDepth 100000 in
set_option maxHeartbeats 1000000 in
theorem rplace_full {w : World} (Z : Nat) (A : Option Addr) (n c N l : Nat) (k p : Int) (obs : List Ob) (hf : Fine obs) (T : Things w A obs) (hn : obs.length = n) (hN : (flat obs).length = N) (hNZ : N ≤ Z) (hZ : Z ≤ 65536) (hg : goodB k (l : Int) p = true) (hfull : Z < N + 1 + l) :
    Calls Tryz.prog 41 #[.agg #[.int .i64 (Z : Int), .slice A n c], .agg #[.int .i64 k, .int .i64 (l : Int), .int .i64 p]] w fun e w' => e = .returned (.tuple #[.agg #[.int .i64 (Z : Int), .slice A n c], .int .i64 0, .int .i64 6]) ∧ Below w.heap.size w w' := by
  have hl := ((good_iff _ _ _).1 hg).2.2.2.1
  have d5 : decide ((Z : Int) < (N : Int) + 1 + (l : Int)) = true := by simp; omega
  have HF := Lib.hid hf
  have HT := Lib.hid T
  have Hn := Lib.hid hn
  have HN := Lib.hid hN
  have HM := Lib.hid (show (flat obs).length ≤ 65536 by omega)
  clear hf T hn hN
  go_enter Tryz.func41, Tryz.ntmps41
  go_wp2_with fail
  refine (good_any k l p _).mono ?_
  rintro e w1 ⟨rfl, rfl⟩
  rw [hg]
  obtain ⟨Wp, hWp⟩ : ∃ Wp, Wp = (((w.alloc (.cells #[.int .i64 (Z : Int), .slice A n c] 34)).alloc (.cells #[.int .i64 k, .int .i64 (l : Int), .int .i64 p] 64)).alloc (.cells #[.int .i64 0, .slice none 0 0] 34)).alloc (.cells #[.int .i64 k, .int .i64 (l : Int), .int .i64 p] 64) := ⟨_, rfl⟩
  have bp : Below w.heap.size w Wp := by
    rw [hWp]
    repeat (first | exact Below.refl _ _ | refine Below.alloc ?_ (by simp <;> omega) _)
  have Lh : Lies Wp w.heap.size 34 [.int .i64 (Z : Int), .slice A n c] := by rw [hWp]; exact (((Lies.new w 34 [_, _]).alloc _).alloc _).alloc _
  have Lx : Lies Wp (w.heap.size + 1) 64 [.int .i64 k, .int .i64 (l : Int), .int .i64 p] := by
    rw [hWp]
    have := ((Lies.new (w.alloc (.cells #[.int .i64 (Z : Int), .slice A n c] 34)) 64 [.int .i64 k, .int .i64 (l : Int), .int .i64 p]).alloc (.cells #[.int .i64 0, .slice none 0 0] 34)).alloc (.cells #[.int .i64 k, .int .i64 (l : Int), .int .i64 p] 64)
    rw [World.size_alloc] at this; exact this
  have Lr : Lies Wp (w.heap.size + 1 + 1) 34 [.int .i64 0, .slice none 0 0] := by
    rw [hWp]
    have := (Lies.new ((w.alloc (.cells #[.int .i64 (Z : Int), .slice A n c] 34)).alloc (.cells #[.int .i64 k, .int .i64 (l : Int), .int .i64 p] 64)) 34 [.int .i64 0, .slice none 0 0]).alloc (.cells #[.int .i64 k, .int .i64 (l : Int), .int .i64 p] 64)
    rw [World.size_alloc, World.size_alloc] at this; exact this
  have HLh := Lib.hid Lh
  have HLx := Lib.hid Lx
  have HLr := Lib.hid Lr
  have Hbp := Lib.hid bp
  have HWp := Lib.hid hWp
  clear Lh Lx Lr bp hWp
  go_wp2_with fail
  rw [← HWp.out]
  refine (rtop_any (Z : Int) n c HF.out (HT.out.kept Hbp.out) Hn.out HM.out).mono ?_
  rintro e w2 ⟨rfl, hb2⟩
  rw [HN.out]
  have Lh2 := HLh.out.below hb2 HLh.out.lt
  have Lx2 := HLx.out.below hb2 HLx.out.lt
  have Lr2 := HLr.out.below hb2 HLr.out.lt
  have y0 : w2.cell? ⟨w.heap.size, 0, none⟩ = some (.int .i64 (Z : Int)) := Lh2.cell 0
  have y1 : w2.cell? ⟨w.heap.size, 1, none⟩ = some (.slice A n c) := Lh2.cell 1
  have x1 : w2.cell? ⟨w.heap.size + 1, 1, none⟩ = some (.int .i64 (l : Int)) := Lx2.cell 1
  have r0 : w2.cell? ⟨w.heap.size + 1 + 1, 0, none⟩ = some (.int .i64 0) := Lr2.cell 0
  have r1 : w2.cell? ⟨w.heap.size + 1 + 1, 1, none⟩ = some (.slice none 0 0) := Lr2.cell 1
  have f0 := Lr2.frozen 0
  have f1 := Lr2.frozen 1
  have lt := Lr2.lt
  have B2 := on Hbp.out Hbp.out.size hb2
  have HB2 := Lib.hid B2
  clear Lh2 Lx2 Lr2 hb2 B2
  go_wp2
  exact bodyPost_ret (v := .tuple #[.agg #[.int .i64 (Z : Int), .slice A n c], .int .i64 0, .int .i64 6]) (by simp [results, Tryz.results41, go_sem, y0, y1, r0, r1, f0, f1, lt]) rfl ⟨rfl, by
    have := HB2.out
    repeat (first | exact this | refine Below.setCell ?_ (by simp <;> omega) _)⟩
end Go.Proofs.YtklhdilbmpndkaaGreat
