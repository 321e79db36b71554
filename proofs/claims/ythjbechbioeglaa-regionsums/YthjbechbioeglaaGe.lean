/- What the reference's Words answers. The walk of HeapFulls. What the reference's Check answers. The walk of HeapWalks. The walk of HeapWalks: the statement itself. What the closure of Is answers, as long as all is as it should be. The walk of HeapRefs. What Is answers where the heap and the reference's heap hold the same objects. The cells of a list of the reference's objects. -/
import Derived.Test.YthjbechbioeglaaModel
import Derived.Deep.AppendLies
import Derived.Deep.RegionHeld3
import Derived.Test.YthjbechbioeglaaGd
import Derived.Lib.QuietBelow
import Derived.Test.YthjbechbioeglaaWalk
namespace Go.Proofs.Ythjbechbioeglaa
open Go.RowKit
set_option linter.unusedVariables false
set_option linter.unusedSimpArgs false

theorem info_3 : ∃ i, Try.prog.info? 3 = some i ∧ i.zero = some (.int .i64 0) ∧ i.size = 1 ∧ i.bytes = 8 := ⟨_, rfl, rfl, rfl, rfl⟩

/-- append onto a slice of words that the call owns. -/
theorem step_ints {ops : Array Oper} {o : Oper} {a : Act} {w : World} {K : Act → World → Prop} {Q : Exit → Act → World → Prop} {E : Prop} (hgd : o.guard = none) (s x : Operand)
    (ho : o.op = .call { callee := .builtin .append, args := #[s, x], argTypes := #[40, 40] })
    (base : Nat) (v : Value) (n : Nat) (xs : List Int) (hs : a.eval s = v) (hown : w.ownsRow base 3 1 v n (xs.map (Value.int .i64)))
    (ad : Addr) (m c : Nat) (ys : List Int) (hx : a.eval x = .slice (some ad) m c) (hm : ys.length = m) (hr : Row w (some ad) ys) (hb : n + m ≤ 100000) (hbase : base ≤ w.heap.size)
    (h : ∀ v' w', w'.ownsRow base 3 1 v' (n + m) ((xs ++ ys).map (Value.int .i64)) → w.grownBy w' v.ownBlock → K (a.put o.dst v') w') :
    if Region.wanted o (yielded ops a.tmps) = true then Oper.wp Try.prog o a w K Q else E := by
  have hw : Region.wanted o (yielded ops a.tmps) = true := by simp [Region.wanted, hgd]
  rw [if_pos hw]
  obtain ⟨i, hi, hz, hsz, hby⟩ := info_3
  obtain ⟨v', w', hrn, h2, h3, _, _⟩ := run_append_own_at (P := Try.prog) w base 40 o.type 3 i (.int .i64 0) 1 8 Try.underlying40 hi hz hsz hby rfl (by decide) v n (xs.map (Value.int .i64)) hown ad m c (ys.map (Value.int .i64)) (by simp [hm])
    (fun j u hu => by
      have hj : 0 < ys.length := by
        have := (List.getElem?_eq_some_iff.1 hu).1
        simp at this; omega
      obtain ⟨ad', e, _, hc⟩ := hr hj
      injection e with e
      subst e
      exact hc j u hu) (fun u hu => by simp at hu; obtain ⟨_, _, rfl⟩ := hu; rfl) (by unfold maxLen; omega) (by omega) hbase
  unfold Oper.wp execOp
  simp only [ho, resolve, invoke, builtin, Sem.run_bind, Sem.run_pure, Result.andThen_ok, List.map_toArray, List.map_cons, List.map_nil, hs, hx, hrn]
  exact h v' w' (by simpa using h2) h3

theorem owns_kept {w w' : World} {base n : Nat} {v : Value} {xs : List Value} (h : w.ownsRow base 3 1 v n xs) (hb : Below w.heap.size w w') : w'.ownsRow base 3 1 v n xs := by
  refine ⟨h.1, h.2.imp id ?_⟩
  rintro ⟨g, cap, cur, h1, h2, h3, h4⟩
  exact ⟨g, cap, cur, h1, h2, (hb.block g (Array.getElem?_eq_some_iff.1 h3).1).trans h3, h4⟩

theorem owns_row {w : World} {base n : Nat} {v : Value} {zs : List Int} (h : w.ownsRow base 3 1 v n (zs.map (Value.int .i64))) : ∃ A c, v = .slice A n c ∧ Row w A zs := by
  obtain ⟨hl, ⟨rfl, h0⟩ | ⟨g, cap, cur, rfl, h2, h3, h4, h5, h6, h7⟩⟩ := h
  · exact ⟨none, 0, by rw [h0], fun hz => by simp at hl; omega⟩
  · refine ⟨_, _, rfl, fun _ => ⟨_, rfl, (Array.getElem?_eq_some_iff.1 h3).1, fun j u hu => ?_⟩⟩
    refine World.news_of_block h3 j u ?_
    rw [← h7] at hu
    rw [List.getElem?_take] at hu
    split at hu
    · exact hu
    · cases hu

/-- Below a bound, as a world that grew in one row of its own. -/
theorem below_own {w W W' : World} {C base : Nat} {v : Value} {n : Nat} {xs : List Value} (h : Below C w W) (hC : C ≤ base) (hB : C ≤ W.heap.size) (ho : W.ownsRow base 3 1 v n xs) (hg : W.grownBy W' v.ownBlock) : Below C w W' :=
  h.grown hg hB (fun k e => by
    obtain ⟨_, ⟨rfl, _⟩ | ⟨g, cap, cur, rfl, h2, _⟩⟩ := ho
    · simp [Value.ownBlock] at e
    · simp [Value.ownBlock] at e; omega)

theorem pack_back {n : Int} (h : headB n = true) : packW (n % 16) (n / 65536) (n % 65536 / 16) = n := by
  unfold packW
  omega

theorem cell_two {W0 w w' : World} (h : Below W0.heap.size W0 w) (h' : Below W0.heap.size W0 w') (u : Value) (a : Addr) (hl : a.block < W0.heap.size) (hc : w.cell? a = some u) : w'.cell? a = some u :=
  (h'.cell hl).trans ((h.cell hl).symm.trans hc)

theorem Things.at2 {w wr : World} {A : Option Addr} {obs : List Ob} (h : Things w A obs) {i : Nat} {o : Ob} (ho : obs[i]? = some o) (hb : Below w.heap.size w wr) :
    ∃ ad bd c, A = some ad ∧ wr.cell? (ad.add (i * 5)) = some (.int .i64 (atI obs i)) ∧ wr.cell? ⟨(ad.add (i * 5)).block, (ad.add (i * 5)).off + 1, none⟩ = some (.int .i64 (o.1 % 16)) ∧
      wr.cell? ⟨(ad.add (i * 5)).block, (ad.add (i * 5)).off + 2, none⟩ = some (.int .i64 (o.1 / 65536)) ∧ wr.cell? ⟨(ad.add (i * 5)).block, (ad.add (i * 5)).off + 3, none⟩ = some (.int .i64 (o.1 % 65536 / 16)) ∧
      wr.cell? ⟨(ad.add (i * 5)).block, (ad.add (i * 5)).off + 4, none⟩ = some (.slice (some bd) o.2.length c) ∧ Row w (some bd) o.2 ∧ (ad.add (i * 5)).block < w.heap.size := by
  obtain ⟨ad, B, c, e, c0, c1, c2, c3, c4, hR, ⟨bd, rfl⟩, hl⟩ := h.at_ ho
  have hl' : (ad.add (i * 5)).block < w.heap.size := by rw [block_add]; exact hl
  exact ⟨ad, bd, c, e, (hb.cell hl').trans c0, (hb.cell (p := ⟨(ad.add (i * 5)).block, _, none⟩) hl').trans c1, (hb.cell (p := ⟨(ad.add (i * 5)).block, _, none⟩) hl').trans c2, (hb.cell (p := ⟨(ad.add (i * 5)).block, _, none⟩) hl').trans c3, (hb.cell (p := ⟨(ad.add (i * 5)).block, _, none⟩) hl').trans c4, hR, hl'⟩

end Go.Proofs.Ythjbechbioeglaa

namespace Go.Proofs.Ythjbechbioeglaa
open Go.RowKit Go.Sort
set_option linter.unusedVariables false
set_option linter.unusedSimpArgs false

theorem nil_ne (w : World) (g : Nat) : (binOp .eql 28 (.pointer (some ⟨g, 0, none⟩)) (.pointer none)).run Try.prog w = .ok (.bool false) w := by kernel_rfl

theorem new_st (n : Nat) (w : World) (h1 : 1 ≤ n) (h2 : n ≤ 65536) :
    Calls Try.prog 28 #[.int .i64 (n : Int)] w fun e w' => ∃ g gw gb, e = .returned (.tuple #[.pointer (some ⟨g, 0, none⟩), .int .i64 0]) ∧ Below w.heap.size w w' ∧ w.heap.size ≤ g ∧ w.heap.size ≤ gw ∧ w.heap.size ≤ gb ∧ St w' g gw gb [] (List.replicate n 0) :=
  (new_yes n w h1 h2).mono fun e w' ⟨g, gw, gb, he, hb, h3, h4, h5, H⟩ => ⟨g, gw, gb, he, hb, h3, h4, h5, fun o ho => by simp at ho, by simpa [flat_nil] using H⟩

theorem flat_rep (o : Ob) : ∀ i : Nat, (flat (List.replicate i o)).length = i * (1 + o.2.length)
  | 0 => by simp [flat_nil]
  | i + 1 => by
    rw [List.replicate_succ, flat_cons]
    simp [flat_rep o i, Nat.add_mul]
    omega

end Go.Proofs.Ythjbechbioeglaa

namespace Go.Proofs.Ythjbechbioeglaa
open Go.RowKit Go.Sort
set_option linter.unusedVariables false
set_option linter.unusedSimpArgs false

end Go.Proofs.Ythjbechbioeglaa

namespace Go.Proofs.Ythjbechbioeglaa
open Go.RowKit
set_option linter.unusedVariables false
set_option linter.unusedSimpArgs false

theorem HeapAt.far {w : World} {g gw gb : Nat} {zs : List Int} {top : Nat} {bs : List Bool} (h : HeapAt w g gw gb zs top bs) {p : Addr} (h1 : g ≠ p.block) (h2 : gw ≠ p.block) (h3 : gb ≠ p.block) (u : Value) : HeapAt (w.setCell p u) g gw gb zs top bs :=
  ⟨h.own.far h1 u, h.words.far h2 u, h.begins.far h3 u, h.same, h.some_, h.most, h.fits⟩
theorem St.far {w : World} {g gw gb : Nat} {obs : List Ob} {tail : List Int} (h : St w g gw gb obs tail) {p : Addr} (h1 : g ≠ p.block) (h2 : gw ≠ p.block) (h3 : gb ≠ p.block) (u : Value) : St (w.setCell p u) g gw gb obs tail := ⟨h.fine, h.lies.far h1 h2 h3 u⟩
theorem St.alloc {w : World} {g gw gb : Nat} {obs : List Ob} {tail : List Int} (h : St w g gw gb obs tail) (o : Obj) : St (w.alloc o) g gw gb obs tail := ⟨h.fine, h.lies.alloc o⟩

theorem second_end {w w2 : World} {bn bo ba n N L : Nat} {q : Int} {o : Obj} (A1 : Lies w2 bn 3 [.int .i64 ((n : Int) + 1)]) (A3 : Lies w2 bo 4 [.bool true]) (A4 : Lies w2 ba 3 [.int .i64 (N : Int)])
    (n1 : bn ≠ bo) (n2 : bn ≠ ba) (n3 : bo ≠ ba) (hb : Else bn bo ba w w2) (hq : 0 ≤ q) (hL : L = N + 1 + q.toNat) :
    Lies (((w2.setCell ⟨bo, 0, none⟩ (.bool true)).setCell ⟨ba, 0, none⟩ (.int .i64 ((N : Int) + (1 + q)))).alloc o) bn 3 [.int .i64 ((n + 1 : Nat) : Int)] ∧
    Lies (((w2.setCell ⟨bo, 0, none⟩ (.bool true)).setCell ⟨ba, 0, none⟩ (.int .i64 ((N : Int) + (1 + q)))).alloc o) bo 4 [.bool true] ∧
    Lies (((w2.setCell ⟨bo, 0, none⟩ (.bool true)).setCell ⟨ba, 0, none⟩ (.int .i64 ((N : Int) + (1 + q)))).alloc o) ba 3 [.int .i64 (L : Nat)] ∧
    Else bn bo ba w (((w2.setCell ⟨bo, 0, none⟩ (.bool true)).setCell ⟨ba, 0, none⟩ (.int .i64 ((N : Int) + (1 + q)))).alloc o) := by
  refine ⟨((A1.far n1 _).far n2 _).alloc o, ((A3.set 0 _).far n3 _).alloc o, ?_, hb.trans ⟨rfl, rfl, rfl, by simp [World.setCell], fun k hk h1 h2 h3 => ?_⟩⟩
  · have e : ((L : Nat) : Int) = (N : Int) + (1 + q) := by omega
    rw [e]
    exact ((A4.far n3.symm _).set 0 _).alloc o
  · rw [Below.heap_alloc _ _ _ (by simp [World.setCell]; omega), Below.heap_setCell _ _ _ _ h3, Below.heap_setCell _ _ _ _ h2]

end Go.Proofs.Ythjbechbioeglaa

namespace Go.Proofs.Ythjbechbioeglaa
open Go.RowKit
set_option linter.unusedVariables false
set_option linter.unusedSimpArgs false

/-- While all are counted. -/
structure J1 (w : World) (g gw gb bW bh bm bc : Nat) (m : Nat) (obs : List Ob) (pre : List Ob) (W : World) : Prop where
  st : St W g gw gb obs []
  walk : Lies W bW 28 [.pointer (some ⟨g, 0, none⟩)]
  box : Lies W bh 28 [.pointer (some ⟨g, 0, none⟩)]
  most : Lies W bm 5 [.int .u8 (m : Int)]
  count : Lies W bc 3 [.int .i64 (pre.length : Nat)]
  old : Below w.heap.size w W

theorem J1.kept {w W W' : World} {g gw gb bW bh bm bc m : Nat} {obs pre : List Ob} (h : J1 w g gw gb bW bh bm bc m obs pre W) (hb : Below W.heap.size W W') : J1 w g gw gb bW bh bm bc m obs pre W' :=
  ⟨h.st.kept hb, h.walk.below hb h.walk.lt, h.box.below hb h.box.lt, h.most.below hb h.most.lt, h.count.below hb h.count.lt, on h.old h.old.size hb⟩

theorem pre_len {obs pre post : List Ob} {o : Ob} (h : obs = pre ++ o :: post) : pre.length + 1 ≤ obs.length := by rw [h]; simp

theorem length_flat (l : List Ob) : l.length ≤ (flat l).length := by
  induction l with
  | nil => simp
  | cons o l ih => rw [flat_cons]; simp; omega

/-- While the second one goes through. -/
structure J2 (w : World) (g gw gb bW bh bm bc bn ba bo : Nat) (m : Nat) (obs : List Ob) (pre : List Ob) (W : World) : Prop where
  st : St W g gw gb obs []
  walk : Lies W bW 28 [.pointer (some ⟨g, 0, none⟩)]
  box : Lies W bh 28 [.pointer (some ⟨g, 0, none⟩)]
  most : Lies W bm 5 [.int .u8 (m : Int)]
  count : Lies W bc 3 [.int .i64 (obs.length : Nat)]
  n : Lies W bn 3 [.int .i64 (pre.length : Nat)]
  at_ : Lies W ba 3 [.int .i64 ((flat pre).length : Nat)]
  ok : Lies W bo 4 [.bool true]
  old : Below w.heap.size w W

theorem J2.kept {w W W' : World} {g gw gb bW bh bm bc bn ba bo m : Nat} {obs pre : List Ob} (h : J2 w g gw gb bW bh bm bc bn ba bo m obs pre W) (hb : Below W.heap.size W W') : J2 w g gw gb bW bh bm bc bn ba bo m obs pre W' :=
  ⟨h.st.kept hb, h.walk.below hb h.walk.lt, h.box.below hb h.box.lt, h.most.below hb h.most.lt, h.count.below hb h.count.lt, h.n.below hb h.n.lt, h.at_.below hb h.at_.lt, h.ok.below hb h.ok.lt, on h.old h.old.size hb⟩

end Go.Proofs.Ythjbechbioeglaa

namespace Go.Proofs.Ythjbechbioeglaa
open Go.RowKit
set_option linter.unusedVariables false
set_option linter.unusedSimpArgs false

end Go.Proofs.Ythjbechbioeglaa

namespace Go.Proofs.Ythjbechbioeglaa
open Go.RowKit Go.Sort
set_option linter.unusedVariables false
set_option linter.unusedSimpArgs false

end Go.Proofs.Ythjbechbioeglaa

namespace Go.Proofs.Ythjbechbioeglaa
open Go.RowKit Go.Sort
set_option linter.unusedVariables false
set_option linter.unusedSimpArgs false

/-- While Is goes through. -/
structure JI (w : World) (g gw gb bW bm bi bo : Nat) (s : Int) (A : Option Addr) (n c : Nat) (obs : List Ob) (tail : List Int) (pre : List Ob) (W : World) : Prop where
  st : St W g gw gb obs tail
  walk : Lies W bW 28 [.pointer (some ⟨g, 0, none⟩)]
  box : Lies W bm 32 [.int .i64 s, .slice A n c]
  i : Lies W bi 3 [.int .i64 (pre.length : Nat)]
  ok : Lies W bo 4 [.bool true]
  old : Below w.heap.size w W

theorem JI.kept {w W W' : World} {g gw gb bW bm bi bo n c : Nat} {s : Int} {A : Option Addr} {obs pre : List Ob} {tail : List Int} (h : JI w g gw gb bW bm bi bo s A n c obs tail pre W) (hb : Below W.heap.size W W') : JI w g gw gb bW bm bi bo s A n c obs tail pre W' :=
  ⟨h.st.kept hb, h.walk.below hb h.walk.lt, h.box.below hb h.box.lt, h.i.below hb h.i.lt, h.ok.below hb h.ok.lt, on h.old h.old.size hb⟩

theorem JI.cells {w W : World} {g gw gb bW bm bi bo n c : Nat} {s : Int} {A : Option Addr} {obs : List Ob} {tail : List Int} (h : JI w g gw gb bW bm bi bo s A n c obs tail obs W) (hn : obs.length = n) :
    W.cell? ⟨bm, 0, none⟩ = some (.int .i64 s) ∧ W.cell? ⟨bm, 1, none⟩ = some (.slice A n c) ∧ W.cell? ⟨bi, 0, none⟩ = some (.int .i64 (n : Int)) ∧ W.cell? ⟨bo, 0, none⟩ = some (.bool true) :=
  ⟨h.box.cell 0, h.box.cell 1, by rw [← hn]; exact h.i.cell 0, h.ok.cell 0⟩

theorem Row.front {w : World} {A : Option Addr} {xs ys : List Int} (h : Row w A (xs ++ ys)) : Row w A xs := fun h0 => by
  obtain ⟨ad, e, hl, hc⟩ := h (by simp; omega)
  refine ⟨ad, e, hl, fun j v hv => hc j v ?_⟩
  have hj := (List.getElem?_eq_some_iff.1 hv).1
  rw [List.map_append, List.getElem?_append_left hj]
  exact hv

theorem size_z {w : World} {g gw gb : Nat} {obs : List Ob} {tail : List Int} (S : St w g gw gb obs tail) (Z : Nat) (hZ : (flat obs ++ tail).length = Z) :
    Calls Try.prog 21 #[.pointer (some ⟨g, 0, none⟩)] w fun e w' => e = .returned (.int .i64 (Z : Int)) ∧ w' = w := by
  subst hZ
  exact (size_any S.lies).mono fun _ _ h => ⟨h.1, h.2.symm⟩

end Go.Proofs.Ythjbechbioeglaa

namespace Go.Proofs.Ythjbechbioeglaa
open Go.RowKit
set_option linter.unusedVariables false
set_option linter.unusedSimpArgs false

/-- These are the cells of those objects, the first of which lies at a. -/
def Cells (w : World) : Nat → List Ob → List Value → Prop
  | _, [], xs => xs = []
  | a, o :: l, xs => ∃ bd c ys, xs = thing a o (some bd) c ++ ys ∧ Row w (some bd) o.2 ∧ Cells w (a + 1 + o.2.length) l ys

theorem thing_len (a : Nat) (o : Ob) (B : Option Addr) (c : Nat) : (thing a o B c).length = 5 := rfl

theorem Cells.len {w : World} : ∀ {a : Nat} {obs : List Ob} {xs : List Value}, Cells w a obs xs → xs.length = obs.length * 5
  | _, [], xs, h => by have : xs = [] := h; rw [this]; rfl
  | a, o :: l, xs, h => by
    obtain ⟨bd, c, ys, rfl, _, h2⟩ := h
    have := h2.len
    simp [thing_len]; omega

theorem Cells.kept {w w' : World} (hb : Below w.heap.size w w') : ∀ {a : Nat} {obs : List Ob} {xs : List Value}, Cells w a obs xs → Cells w' a obs xs
  | _, [], xs, h => h
  | a, o :: l, xs, h => by
    obtain ⟨bd, c, ys, e, hr, h2⟩ := h
    exact ⟨bd, c, ys, e, hr.kept hb, h2.kept hb⟩

theorem Cells.append {w : World} : ∀ {a : Nat} {obs more : List Ob} {xs ys : List Value}, Cells w a obs xs → Cells w (a + (flat obs).length) more ys → Cells w a (obs ++ more) (xs ++ ys)
  | a, [], more, xs, ys, h, k => by
    have : xs = [] := h
    subst this
    simpa [flat_nil] using k
  | a, o :: l, more, xs, ys, h, k => by
    obtain ⟨bd, c, zs, rfl, hr, h2⟩ := h
    refine ⟨bd, c, zs ++ ys, by simp, hr, h2.append ?_⟩
    rw [flat_cons] at k
    have e : a + (o.1 :: (o.2 ++ flat l)).length = a + 1 + o.2.length + (flat l).length := by simp; omega
    rw [← e]
    exact k

theorem Cells.one {w : World} (a : Nat) (o : Ob) (bd : Addr) (c : Nat) (h : Row w (some bd) o.2) : Cells w a [o] (thing a o (some bd) c) := ⟨bd, c, [], by simp, h, rfl⟩

theorem Cells.at_ {w : World} : ∀ {a : Nat} {obs : List Ob} {xs : List Value}, Cells w a obs xs → ∀ i o, obs[i]? = some o → ∃ bd c, Row w (some bd) o.2 ∧ ∀ j v, (thing (a + atI obs i) o (some bd) c)[j]? = some v → xs[i * 5 + j]? = some v
  | _, [], xs, h, i, o, ho => by simp at ho
  | a, x :: l, xs, h, 0, o, ho => by
    obtain ⟨bd, c, ys, rfl, hr, h2⟩ := h
    simp at ho
    subst ho
    refine ⟨bd, c, hr, fun j v hv => ?_⟩
    rw [atI_zero] at hv
    have hj := (List.getElem?_eq_some_iff.1 hv).1
    rw [Nat.zero_mul, Nat.zero_add, List.getElem?_append_left (by rw [thing_len] at hj ⊢; exact hj)]
    exact hv
  | a, x :: l, xs, h, i + 1, o, ho => by
    obtain ⟨bd, c, ys, rfl, hr, h2⟩ := h
    simp at ho
    obtain ⟨bd', c', hr', hc⟩ := h2.at_ i o ho
    refine ⟨bd', c', hr', fun j v hv => ?_⟩
    have e : a + 1 + x.2.length + atI l i = a + atI (x :: l) (i + 1) := by
      unfold atI
      rw [List.take_succ_cons, flat_cons]
      simp; omega
    rw [e] at hc
    have := hc j v hv
    rw [List.getElem?_append_right (by rw [thing_len]; omega), thing_len]
    rw [show (i + 1) * 5 + j - 5 = i * 5 + j by omega]
    exact this

/-- Objects that lie in a row of one's own. -/
theorem things_own {w : World} {base n : Nat} {v : Value} {xs : List Value} {obs : List Ob} (h : w.ownsRow base 44 5 v n xs) (hc : Cells w 0 obs xs) : ∃ A c, v = .slice A n c ∧ Things w A obs := by
  obtain ⟨hl, ⟨rfl, h0⟩ | ⟨g, cap, cur, rfl, h2, h3, h4, h5, h6, h7⟩⟩ := h
  · refine ⟨none, 0, by rw [h0], fun i o ho => ?_⟩
    have h1 := hc.len
    have := (List.getElem?_eq_some_iff.1 ho).1
    omega
  · refine ⟨_, _, rfl, fun i o ho => ?_⟩
    obtain ⟨bd, c, hr, hx⟩ := hc.at_ i o ho
    refine ⟨⟨g, 0, none⟩, some bd, c, rfl, (Array.getElem?_eq_some_iff.1 h3).1, fun j u hu => ?_, hr, bd, rfl⟩
    have h1 := hx j u (by rw [Nat.zero_add]; exact hu)
    refine World.news_of_block h3 _ u ?_
    rw [← h7, List.getElem?_take] at h1
    split at h1
    · exact h1
    · cases h1

/-- What lies in a slice of objects, as cells. -/
theorem cells_of {w : World} {ad : Addr} : ∀ {obs : List Ob} (k : Nat) (a : Nat), (∀ i o, obs[i]? = some o → ∃ B c, (∀ j v, (thing (a + atI obs i) o B c)[j]? = some v → w.cell? (ad.add ((k + i) * 5 + j)) = some v) ∧ Row w B o.2 ∧ ∃ bd, B = some bd) →
    ∃ xs, Cells w a obs xs ∧ ∀ j u, xs[j]? = some u → w.cell? (ad.add (k * 5 + j)) = some u
  | [], k, a, h => ⟨[], rfl, fun j u hu => by simp at hu⟩
  | o :: l, k, a, h => by
    obtain ⟨B, c, h1, h2, bd, rfl⟩ := h 0 o rfl
    obtain ⟨ys, hy, hc⟩ := cells_of (w := w) (ad := ad) (obs := l) (k + 1) (a + 1 + o.2.length) (fun i x hx => by
      obtain ⟨B, c, h1, h2⟩ := h (i + 1) x (by simpa using hx)
      refine ⟨B, c, fun j v hv => ?_, h2⟩
      have e : a + 1 + o.2.length + atI l i = a + atI (o :: l) (i + 1) := by
        unfold atI
        rw [List.take_succ_cons, flat_cons]
        simp; omega
      rw [e] at hv
      have := h1 j v hv
      rwa [show (k + 1 + i) * 5 + j = (k + (i + 1)) * 5 + j by omega])
    refine ⟨thing a o (some bd) c ++ ys, ⟨bd, c, ys, rfl, h2, hy⟩, fun j u hu => ?_⟩
    by_cases hj : j < 5
    · rw [List.getElem?_append_left (by rw [thing_len]; exact hj)] at hu
      rw [atI_zero] at h1
      have := h1 j u hu
      simpa using this
    · rw [List.getElem?_append_right (by rw [thing_len]; omega), thing_len] at hu
      have := hc (j - 5) u hu
      rwa [show (k + 1) * 5 + (j - 5) = k * 5 + j by omega] at this

theorem Things.cells {w : World} {A : Option Addr} {obs : List Ob} (h : Things w A obs) (h0 : obs ≠ []) : ∃ ad xs, A = some ad ∧ Cells w 0 obs xs ∧ ∀ j u, xs[j]? = some u → w.cell? (ad.add j) = some u := by
  obtain ⟨o, ho⟩ : ∃ o, obs[0]? = some o := by
    cases obs with
    | nil => exact absurd rfl h0
    | cons o l => exact ⟨o, rfl⟩
  obtain ⟨ad, _, _, e, _⟩ := h 0 o ho
  subst e
  obtain ⟨xs, h1, h2⟩ := cells_of (w := w) (ad := ad) (obs := obs) 0 0 (fun i x hx => by
    obtain ⟨ad', B, c, e, _, hc, hr, hB⟩ := h i x hx
    injection e with e
    subst e
    exact ⟨B, c, fun j v hv => by rw [Nat.zero_add] at hv ⊢; exact hc j v hv, hr, hB⟩)
  exact ⟨ad, xs, rfl, h1, fun j u hu => by have := h2 j u hu; simpa using this⟩

theorem Cells.flatOne {w : World} : ∀ {a : Nat} {obs : List Ob} {xs : List Value}, Cells w a obs xs → ∀ u ∈ xs, u.oneCell' = true
  | _, [], xs, h, u, hu => by have : xs = [] := h; subst this; simp at hu
  | a, o :: l, xs, h, u, hu => by
    obtain ⟨bd, c, ys, rfl, _, h2⟩ := h
    rcases List.mem_append.1 hu with hu | hu
    · simp [thing] at hu
      rcases hu with rfl | rfl | rfl | rfl | rfl <;> rfl
    · exact h2.flatOne u hu
end Go.Proofs.Ythjbechbioeglaa
