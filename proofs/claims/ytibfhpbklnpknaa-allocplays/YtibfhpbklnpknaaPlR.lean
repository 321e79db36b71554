/- The body of AllocPlays' great loop, and what each round keeps. -/
import Derived.Test.YtibfhpbklnpknaaPtMem
import Derived.Deep.CutRange
import Derived.Deep.CutBlock
namespace Go.Proofs.Ytibfhpbklnpknaa
open Go.RowKit
set_option linter.unusedVariables false
set_option linter.unusedSimpArgs false

/-- The loops of a text, in order, none that stands in another one. -/
def loopsOf : Code → List Code
  | .loop c => [c]
  | .seq a b => loopsOf a ++ loopsOf b
  | .block _ c => loopsOf c
  | .scope c => loopsOf c
  | .cond _ a b => loopsOf a ++ loopsOf b
  | _ => []
noncomputable def rbody : Code := ((Try.f3.body.map loopsOf).getD [])[1]?.getD .skip

/-- Between two rounds. -/
structure Pt (w W : World) (ga gf g gw gb bm ba gt base bx Z s nt : Nat) (y : Int) (bs : List Int) (obs : List Ob) (tail : List Int) (A : Option Addr) (n c : Nat) (xs : List Value) : Prop where
  al : Al W ga gf g gw gb s bs obs tail
  rf : Rf W bm ba gt base Z A n c xs bs obs
  clean : Clean obs
  len : (flat obs ++ tail).length = Z
  bl : bs.length = nt
  box : Lies W bx 23 [.int .i64 (nt : Int), .int .i64 y]
  old : Below w.heap.size w W
theorem Pt.kept {w W W' : World} {ga gf g gw gb bm ba gt base bx Z s nt : Nat} {y : Int} {bs : List Int} {obs : List Ob} {tail : List Int} {A : Option Addr} {n c : Nat} {xs : List Value} (h : Pt w W ga gf g gw gb bm ba gt base bx Z s nt y bs obs tail A n c xs) (hb : Below W.heap.size W W') : Pt w W' ga gf g gw gb bm ba gt base bx Z s nt y bs obs tail A n c xs :=
  ⟨h.al.kept hb, h.rf.kept hb, h.clean, h.len, h.bl, h.box.below hb h.box.lt, on h.old h.old.size hb⟩

/-- What a round leaves. -/
def Rel (w w'' : World) (ga gf g gw gb bm ba gt base bx Z s nt : Nat) (y : Int) (j : Nat) (v110 : Value) : Prop :=
  ∃ (bs : List Int) (obs : List Ob) (tail : List Int) (A : Option Addr) (n c : Nat) (xs : List Value), v110 = .int .i64 (j : Int) ∧ Pt w w'' ga gf g gw gb bm ba gt base bx Z s nt y bs obs tail A n c xs
end Go.Proofs.Ytibfhpbklnpknaa
