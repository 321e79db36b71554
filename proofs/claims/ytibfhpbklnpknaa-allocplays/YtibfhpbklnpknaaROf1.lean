/- Between two rounds of the reference's Of. -/
import Derived.Test.YtibfhpbklnpknaaROf
import Derived.Deep.RegionLaw
namespace Go.Proofs.Ytibfhpbklnpknaa
open Go.RowKit
set_option linter.unusedVariables false
set_option linter.unusedSimpArgs false

/-- Between two rounds of the reference's Of. -/
structure OfI (w : World) (zs : List Int) (a : Nat) (pre : List Ob) (v : Value) (xs : List Value) (W : World) : Prop where
  fine : Fine pre
  flat_ : flat pre = zs.take a
  res : Lies W w.heap.size 36 [.int .i64 0, .slice none 0 0]
  box : Lies W (w.heap.size + 1) 36 [.int .i64 (zs.length : Nat), v]
  own : W.ownsRow (w.heap.size + 1 + 1) 42 5 v pre.length xs
  cells : CellsO W (w.heap.size + 1 + 1) 0 pre xs
  old : Below w.heap.size w W

theorem step_fresh {ops : Array Oper} {o : Oper} {a : Act} {w : World} {K : Act → World → Prop} {Q : Exit → Act → World → Prop} {E : Prop} (hgd : o.guard = none) (s x : Operand)
    (ho : o.op = .call { callee := .builtin .append, args := #[s, x], argTypes := #[37, 37] })
    (base b cap : Nat) (hs : a.eval s = .slice (some ⟨b, 0, none⟩) 0 cap) (hown : w.ownsRow base 3 1 (.slice (some ⟨b, 0, none⟩) 0 cap) 0 [])
    (ad : Addr) (m c : Nat) (ys : List Int) (hx : a.eval x = .slice (some ad) m c) (hm : ys.length = m) (hr : Row w (some ad) ys) (hb : m ≤ 100000) (hbase : base ≤ w.heap.size)
    (h : ∀ g cap' w', w'.ownsRow base 3 1 (.slice (some ⟨g, 0, none⟩) m cap') m (ys.map (Value.int .i64)) → w.grownBy w' (some b) → K (a.put o.dst (.slice (some ⟨g, 0, none⟩) m cap')) w') :
    if Region.wanted o (yielded ops a.tmps) = true then Oper.wp Try.prog o a w K Q else E :=
  step_ints2 hgd s x ho base b 0 cap [] hs hown ad m c ys hx hm hr (by omega) hbase (fun g cap' w' h1 h2 => by
    rw [Nat.zero_add, List.nil_append] at h1
    rw [Nat.zero_add]
    exact h g cap' w' h1 h2)

theorem lies_grown {w w' : World} {base n sz b : Nat} {t t' : TypeId} {v : Value} {xs cs : List Value} (hl : Lies w b t' cs) (h : w.ownsRow base t sz v n xs) (ht : t' ≠ t) (hg : w.grownBy w' v.ownBlock) : Lies w' b t' cs := by
  refine hl.of_block (hg.block b hl.lt (fun e => ?_))
  obtain ⟨_, ⟨rfl, _⟩ | ⟨g', cap', cur', rfl, _, h6, _⟩⟩ := h
  · simp [Value.ownBlock] at e
  · simp [Value.ownBlock] at e
    subst e
    unfold Lies at hl
    rw [hl] at h6
    injection h6 with h6
    injection h6 with _ h7
    exact ht h7

theorem row_drop {w : World} {ad : Addr} {zs : List Int} (h : Row w (some ad) zs) (k q : Nat) (hk : 0 < k) : Row w (some ⟨ad.block, ad.off + k, none⟩) ((zs.drop k).take q) := fun h0 => by
  have hz : 0 < zs.length := by simp at h0; omega
  obtain ⟨ad', e, hl, hc⟩ := h hz
  injection e with e
  subst e
  refine ⟨_, rfl, hl, fun j v hv => ?_⟩
  have e1 : (⟨ad.block, ad.off + k, none⟩ : Addr).add j = ad.add (k + j) := by
    unfold Addr.add
    by_cases hj : j = 0
    · subst hj
      simp; omega
    · rw [if_neg hj, if_neg (by omega)]
      simp; omega
  rw [e1]
  refine hc (k + j) v ?_
  rw [List.map_take, List.map_drop, List.getElem?_take] at hv
  split at hv
  · rw [List.getElem?_drop] at hv; exact hv
  · cases hv

theorem below_one (w : World) (o : Obj) : Below w.heap.size w (w.alloc o) := (Below.refl _ w).alloc (Nat.le_refl _) o
theorem one_thing (a : Nat) (o : Ob) (B : Option Addr) (c : Nat) : ∀ u ∈ (thing a o B c).toArray.toList, u.oneCell' = true := fun u hu => by
  simp [thing] at hu
  rcases hu with rfl | rfl | rfl | rfl | rfl <;> rfl
theorem obj_new {q : Nat} (w : World) (a : Nat) (z : Int) (ys : List Int) (g cap : Nat) (t : TypeId) (hq : z / 65536 = (q : Int)) (hy : ys.length = q) :
    (w.alloc (.cells #[.int .i64 (a : Int), .int .i64 (z % 16), .int .i64 (q : Int), .int .i64 (z % 65536 / 16), .slice (some ⟨g, 0, none⟩) q cap] t)).heap[w.heap.size]? = some (.cells (thing a (z, ys) (some ⟨g, 0, none⟩) cap).toArray t (0, 0)) := by
  rw [heap_alloc_new]
  simp [thing, hq, hy]

theorem OfI.kept {w W W' : World} {zs : List Int} {a : Nat} {pre : List Ob} {v : Value} {xs : List Value} (h : OfI w zs a pre v xs W) (hb : Below W.heap.size W W') : OfI w zs a pre v xs W' :=
  ⟨h.fine, h.flat_, h.res.below hb h.res.lt, h.box.below hb h.box.lt, owns_any h.own hb, h.cells.kept hb, on h.old h.old.size hb⟩

theorem pre_le {w W : World} {zs : List Int} {a : Nat} {pre : List Ob} {v : Value} {xs : List Value} (h : OfI w zs a pre v xs W) (ha : a ≤ 65536) : pre.length + 1 ≤ 100000 := by
  have h1 := count_le pre
  rw [h.flat_] at h1
  simp at h1
  omega

/-- A list of objects whose cells, and whose words, lie in rows of the call's own, from a block on. -/
structure Owned (w : World) (base : Nat) (A : Option Addr) (n c : Nat) (obs : List Ob) (xs : List Value) : Prop where
  own : w.ownsRow base 42 5 (.slice A n c) n xs
  cells : CellsO w base 0 obs xs
theorem Owned.things {w : World} {base n c : Nat} {A : Option Addr} {obs : List Ob} {xs : List Value} (h : Owned w base A n c obs xs) : Things w A obs := by
  obtain ⟨A2, c2, e2, hT⟩ := things_own h.own h.cells.cells
  injection e2 with e3 _ e4
  subst e3 e4
  exact hT
theorem Owned.kept {w w' : World} {base n c : Nat} {A : Option Addr} {obs : List Ob} {xs : List Value} (h : Owned w base A n c obs xs) (hb : Below w.heap.size w w') : Owned w' base A n c obs xs := ⟨owns_any h.own hb, h.cells.kept hb⟩
/-- Blocks ahead of those are written as one likes. -/
theorem owns_low {w w' : World} {base n sz : Nat} {t : TypeId} {v : Value} {xs : List Value} (h : w.ownsRow base t sz v n xs) (hb : ∀ k, base ≤ k → w'.heap[k]? = w.heap[k]?) : w'.ownsRow base t sz v n xs := by
  refine ⟨h.1, h.2.imp id ?_⟩
  rintro ⟨g, cap, cur, h1, h2, h3, h4⟩
  exact ⟨g, cap, cur, h1, h2, (hb g h2).trans h3, h4⟩
theorem Owned.low {w w' : World} {base n c : Nat} {A : Option Addr} {obs : List Ob} {xs : List Value} (h : Owned w base A n c obs xs) (hb : ∀ k, base ≤ k → w'.heap[k]? = w.heap[k]?) : Owned w' base A n c obs xs :=
  ⟨owns_low h.own hb, h.cells.of fun _ _ _ _ ho => owns_low ho hb⟩

/-- What the reference's Of leaves. -/
def OfPost (zs : List Int) (top : Nat) (w : World) (e : Ending) (w' : World) : Prop :=
  ((Parses (zs.take top) ∧ ∃ A' n' c' obs xs, e = .returned (.tuple #[.agg #[.int .i64 (zs.length : Nat), .slice A' n' c'], .int .i64 0]) ∧ Fine obs ∧ flat obs = zs.take top ∧ obs.length = n' ∧ Owned w' (w.heap.size + 1 + 1) A' n' c' obs xs) ∨
      (¬ Parses (zs.take top) ∧ e = .returned (.tuple #[.agg #[.int .i64 0, .slice none 0 0], .int .i64 2]))) ∧ Below w.heap.size w w'

theorem OfI.next {w w3 w5 : World} {zs : List Int} {a q g1 cap1 : Nat} {pre : List Ob} {v v5 : Value} {xs : List Value} {z : Int} {ys : List Int} (X : Obj) (I3 : OfI w zs a pre v xs w3) (ha : a ≤ zs.length)
    (hh : headB z = true) (hl : ys.length = q) (hq : lenOf z = q) (hfl : flat (pre ++ [(z, ys)]) = zs.take (a + 1 + q))
    (O3 : w3.ownsRow (w.heap.size + 1 + 1) 3 1 (.slice (some ⟨g1, 0, none⟩) q cap1) q (ys.map (Value.int .i64)))
    (ho5 : (w3.alloc X).ownsRow (w.heap.size + 1 + 1) 42 5 v pre.length xs) (G5 : (w3.alloc X).grownBy w5 v.ownBlock)
    (O5 : w5.ownsRow (w.heap.size + 1 + 1) 42 5 v5 (pre.length + 1) (xs ++ thing a (z, ys) (some ⟨g1, 0, none⟩) cap1))
    (X5 : Lies w5 (w.heap.size + 1) 36 [.int .i64 (zs.length : Nat), v]) :
    OfI w zs (a + 1 + q) (pre ++ [(z, ys)]) v5 (xs ++ thing a (z, ys) (some ⟨g1, 0, none⟩) cap1) (w5.setCell ⟨w.heap.size + 1, 1, none⟩ v5) := by
  have hfa : (flat pre).length = a := by rw [I3.flat_]; simp; omega
  refine ⟨I3.fine.append (Fine.one hh (by simp only; rw [hl, hq])), hfl, (lies_grown (I3.res.alloc X) ho5 (by decide) G5).far (p := ⟨w.heap.size + 1, 1, none⟩) (by simp) _, X5.set 1 v5, ?_, ?_, ?_⟩
  · have := owns_far O5 X5 (by decide) 1 v5
    simpa using this
  · have c1 := ((I3.cells.kept (below_one w3 X)).grown ho5 G5)
    have o1 := owns_apart (owns_any O3 (below_one w3 X)) ho5 (by decide) G5
    have c2 : CellsO w5 (w.heap.size + 1 + 1) (0 + (flat pre).length) [(z, ys)] (thing a (z, ys) (some ⟨g1, 0, none⟩) cap1) := by
      rw [Nat.zero_add, hfa]
      refine ⟨g1, cap1, [], by simp, ?_, rfl⟩
      simp only
      rw [hl]
      exact o1
    exact (c1.append c2).far X5 (by decide) 1 v5
  · have b1 : Below w.heap.size w (w3.alloc X) := on I3.old I3.old.size (below_one w3 X)
    have b2 : Below w.heap.size w w5 := b1.grown G5 b1.size (fun k e => by
      obtain ⟨_, ⟨rfl, _⟩ | ⟨g, cap, cur, rfl, h2, _⟩⟩ := ho5
      · simp [Value.ownBlock] at e
      · simp [Value.ownBlock] at e; omega)
    exact b2.setCell (by simp) _
end Go.Proofs.Ytibfhpbklnpknaa
