/- The walk of HeapWalks. The walk of HeapWalks: the statement itself. -/
import Derived.Test.YtklhdilbmpndkaaGreatWalk
namespace Go.Proofs.YtklhdilbmpndkaaGreat
set_option maxRecDepth 20000
open Go.RowKit
set_option linter.unusedVariables false
set_option linter.unusedSimpArgs false

theorem HeapAt.far {w : World} {g gw gb : Nat} {zs : List Int} {top : Nat} {bs : List Bool} (h : HeapAt w g gw gb zs top bs) {p : Addr} (h1 : g ≠ p.block) (h2 : gw ≠ p.block) (h3 : gb ≠ p.block) (u : Value) : HeapAt (w.setCell p u) g gw gb zs top bs :=
  ⟨h.own.far h1 u, h.words.far h2 u, h.begins.far h3 u, h.same, h.some_, h.most, h.fits⟩
theorem St.far {w : World} {g gw gb : Nat} {obs : List Ob} {tail : List Int} (h : St w g gw gb obs tail) {p : Addr} (h1 : g ≠ p.block) (h2 : gw ≠ p.block) (h3 : gb ≠ p.block) (u : Value) : St (w.setCell p u) g gw gb obs tail := ⟨h.fine, h.lies.far h1 h2 h3 u⟩
theorem St.alloc {w : World} {g gw gb : Nat} {obs : List Ob} {tail : List Int} (h : St w g gw gb obs tail) (o : Obj) : St (w.alloc o) g gw gb obs tail := ⟨h.fine, h.lies.alloc o⟩

theorem second_end {w w2 : World} {bn bo ba n N L : Nat} {q : Int} {o : Obj} (A1 : Lies w2 bn 3 [.int .i64 ((n : Int) + 1)]) (A3 : Lies w2 bo 4 [.bool true]) (A4 : Lies w2 ba 3 [.int .i64 (N : Int)])
    (n1 : bn ≠ bo) (n2 : bn ≠ ba) (n3 : bo ≠ ba) (hb : Else bn bo ba w w2) (hq : 0 ≤ q) (hL : L = N + 1 + q.toNat) :
    Lies (((w2.setCell ⟨bo, 0, none⟩ (.bool true)).setCell ⟨ba, 0, none⟩ (.int .i64 ((N : Int) + (1 + q)))).alloc o) bn 3 [.int .i64 ((n + 1 : Nat) : Int)] ∧
    Lies (((w2.setCell ⟨bo, 0, none⟩ (.bool true)).setCell ⟨ba, 0, none⟩ (.int .i64 ((N : Int) + (1 + q)))).alloc o) bo 4 [.bool true] ∧
    Lies (((w2.setCell ⟨bo, 0, none⟩ (.bool true)).setCell ⟨ba, 0, none⟩ (.int .i64 ((N : Int) + (1 + q)))).alloc o) ba 3 [.int .i64 (L : Nat)] ∧
    Else bn bo ba w (((w2.setCell ⟨bo, 0, none⟩ (.bool true)).setCell ⟨ba, 0, none⟩ (.int .i64 ((N : Int) + (1 + q)))).alloc o) := by
  refine ⟨((A1.far n1 _).far n2 _).alloc o, ((A3.set 0 _).far n3 _).alloc o, ?_, hb.trans ⟨rfl, rfl, rfl, by simp [World.setCell], fun k hk h1 h2 h3 => ?_⟩⟩
  · have e : ((L : Nat) : Int) = (N : Int) + (1 + q) := by omega
    rw [e]
    exact ((A4.far n3.symm _).set 0 _).alloc o
  · rw [Below.heap_alloc _ _ _ (by simp [World.setCell]; omega), Below.heap_setCell _ _ _ _ h3, Below.heap_setCell _ _ _ _ h2]

end Go.Proofs.YtklhdilbmpndkaaGreat

namespace Go.Proofs.YtklhdilbmpndkaaGreat
set_option maxRecDepth 20000
open Go.RowKit
set_option linter.unusedVariables false
set_option linter.unusedSimpArgs false

/-- While all are counted. -/
structure J1 (w : World) (g gw gb bW bh bm bc : Nat) (m : Nat) (obs : List Ob) (pre : List Ob) (W : World) : Prop where
  st : St W g gw gb obs []
  walk : Lies W bW 29 [.pointer (some ⟨g, 0, none⟩)]
  box : Lies W bh 29 [.pointer (some ⟨g, 0, none⟩)]
  most : Lies W bm 5 [.int .u8 (m : Int)]
  count : Lies W bc 3 [.int .i64 (pre.length : Nat)]
  old : Below w.heap.size w W

theorem J1.kept {w W W' : World} {g gw gb bW bh bm bc m : Nat} {obs pre : List Ob} (h : J1 w g gw gb bW bh bm bc m obs pre W) (hb : Below W.heap.size W W') : J1 w g gw gb bW bh bm bc m obs pre W' :=
  ⟨h.st.kept hb, h.walk.below hb h.walk.lt, h.box.below hb h.box.lt, h.most.below hb h.most.lt, h.count.below hb h.count.lt, on h.old h.old.size hb⟩

theorem pre_len {obs pre post : List Ob} {o : Ob} (h : obs = pre ++ o :: post) : pre.length + 1 ≤ obs.length := by rw [h]; simp

theorem length_flat (l : List Ob) : l.length ≤ (flat l).length := by
  induction l with
  | nil => simp
  | cons o l ih => rw [flat_cons]; simp; omega

/-- While the second one goes through. -/
structure J2 (w : World) (g gw gb bW bh bm bc bn ba bo : Nat) (m : Nat) (obs : List Ob) (pre : List Ob) (W : World) : Prop where
  st : St W g gw gb obs []
  walk : Lies W bW 29 [.pointer (some ⟨g, 0, none⟩)]
  box : Lies W bh 29 [.pointer (some ⟨g, 0, none⟩)]
  most : Lies W bm 5 [.int .u8 (m : Int)]
  count : Lies W bc 3 [.int .i64 (obs.length : Nat)]
  n : Lies W bn 3 [.int .i64 (pre.length : Nat)]
  at_ : Lies W ba 3 [.int .i64 ((flat pre).length : Nat)]
  ok : Lies W bo 4 [.bool true]
  old : Below w.heap.size w W

theorem J2.kept {w W W' : World} {g gw gb bW bh bm bc bn ba bo m : Nat} {obs pre : List Ob} (h : J2 w g gw gb bW bh bm bc bn ba bo m obs pre W) (hb : Below W.heap.size W W') : J2 w g gw gb bW bh bm bc bn ba bo m obs pre W' :=
  ⟨h.st.kept hb, h.walk.below hb h.walk.lt, h.box.below hb h.box.lt, h.most.below hb h.most.lt, h.count.below hb h.count.lt, h.n.below hb h.n.lt, h.at_.below hb h.at_.lt, h.ok.below hb h.ok.lt, on h.old h.old.size hb⟩

end Go.Proofs.YtklhdilbmpndkaaGreat
