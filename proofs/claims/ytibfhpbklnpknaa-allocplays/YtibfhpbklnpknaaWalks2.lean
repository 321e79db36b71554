/- The walk of HeapWalks: the statement itself. -/
import Derived.Test.YtibfhpbklnpknaaGd
namespace Go.Proofs.Ytibfhpbklnpknaa
open Go.RowKit
set_option linter.unusedVariables false
set_option linter.unusedSimpArgs false

/-- While all are counted. -/
structure J1 (w : World) (g gw gb bW bh bm bc : Nat) (m : Nat) (obs : List Ob) (pre : List Ob) (W : World) : Prop where
  st : St W g gw gb obs []
  walk : Lies W bW 26 [.pointer (some ⟨g, 0, none⟩)]
  box : Lies W bh 26 [.pointer (some ⟨g, 0, none⟩)]
  most : Lies W bm 5 [.int .u8 (m : Int)]
  count : Lies W bc 3 [.int .i64 (pre.length : Nat)]
  old : Below w.heap.size w W

theorem J1.kept {w W W' : World} {g gw gb bW bh bm bc m : Nat} {obs pre : List Ob} (h : J1 w g gw gb bW bh bm bc m obs pre W) (hb : Below W.heap.size W W') : J1 w g gw gb bW bh bm bc m obs pre W' :=
  ⟨h.st.kept hb, h.walk.below hb h.walk.lt, h.box.below hb h.box.lt, h.most.below hb h.most.lt, h.count.below hb h.count.lt, on h.old h.old.size hb⟩

theorem pre_len {obs pre post : List Ob} {o : Ob} (h : obs = pre ++ o :: post) : pre.length + 1 ≤ obs.length := by rw [h]; simp

theorem length_flat (l : List Ob) : l.length ≤ (flat l).length := by
  induction l with
  | nil => simp
  | cons o l ih => rw [flat_cons]; simp; omega

/-- While the second one goes through. -/
structure J2 (w : World) (g gw gb bW bh bm bc bn ba bo : Nat) (m : Nat) (obs : List Ob) (pre : List Ob) (W : World) : Prop where
  st : St W g gw gb obs []
  walk : Lies W bW 26 [.pointer (some ⟨g, 0, none⟩)]
  box : Lies W bh 26 [.pointer (some ⟨g, 0, none⟩)]
  most : Lies W bm 5 [.int .u8 (m : Int)]
  count : Lies W bc 3 [.int .i64 (obs.length : Nat)]
  n : Lies W bn 3 [.int .i64 (pre.length : Nat)]
  at_ : Lies W ba 3 [.int .i64 ((flat pre).length : Nat)]
  ok : Lies W bo 4 [.bool true]
  old : Below w.heap.size w W

theorem J2.kept {w W W' : World} {g gw gb bW bh bm bc bn ba bo m : Nat} {obs pre : List Ob} (h : J2 w g gw gb bW bh bm bc bn ba bo m obs pre W) (hb : Below W.heap.size W W') : J2 w g gw gb bW bh bm bc bn ba bo m obs pre W' :=
  ⟨h.st.kept hb, h.walk.below hb h.walk.lt, h.box.below hb h.box.lt, h.most.below hb h.most.lt, h.count.below hb h.count.lt, h.n.below hb h.n.lt, h.at_.below hb h.at_.lt, h.ok.below hb h.ok.lt, on h.old h.old.size hb⟩

end Go.Proofs.Ytibfhpbklnpknaa
