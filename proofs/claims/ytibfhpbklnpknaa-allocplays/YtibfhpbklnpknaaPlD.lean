/- AllocPlays: within a round, behind the program's Alloc: the document's own steps. -/
import Derived.Test.YtibfhpbklnpknaaPlT
namespace Go.Proofs.Ytibfhpbklnpknaa
open Go.RowKit
set_option linter.unusedVariables false
set_option linter.unusedSimpArgs false

/-- Behind the program's Alloc: its allocator is done, the document's goes on. -/
structure Md (w W : World) (ga gf g gw gb bm ba gt base bx Z s nt bc : Nat) (y kd th k l p : Int) (bs2 : List Int) (obs2 : List Ob) (tail2 : List Int) (bsR : List Int) (obsR : List Ob) (A : Option Addr) (n c : Nat) (xs : List Value) : Prop where
  al : Al W ga gf g gw gb s bs2 obs2 tail2
  rf : Rf W bm ba gt base Z A n c xs bsR obsR
  box : Lies W bx 23 [.int .i64 (nt : Int), .int .i64 y]
  act : Lies W bc 45 [.int .u8 kd, .int .i64 th, .int .i64 k, .int .i64 l, .int .i64 p]
  old : Below w.heap.size w W
section
variable {w W W' : World} {ga gf g gw gb bm ba gt base bx Z s nt bc : Nat} {y kd th k l p : Int} {bs2 : List Int} {obs2 : List Ob} {tail2 : List Int} {bsR : List Int} {obsR : List Ob} {A : Option Addr} {n c : Nat} {xs : List Value}
theorem Md.kept (h : Md w W ga gf g gw gb bm ba gt base bx Z s nt bc y kd th k l p bs2 obs2 tail2 bsR obsR A n c xs) (hb : Below W.heap.size W W') : Md w W' ga gf g gw gb bm ba gt base bx Z s nt bc y kd th k l p bs2 obs2 tail2 bsR obsR A n c xs :=
  ⟨h.al.kept hb, h.rf.kept hb, h.box.below hb h.box.lt, h.act.below hb h.act.lt, on h.old h.old.size hb⟩
theorem Md.put {n' c' : Nat} {A' : Option Addr} {xs' : List Value} {obs' : List Ob} (h : Md w W ga gf g gw gb bm ba gt base bx Z s nt bc y kd th k l p bs2 obs2 tail2 bsR obsR A n c xs) (F : Lw w.heap.size ga gf g gw gb bm ba gt base) (O : Owned W base A' n' c' obs' xs') (hn : obs'.length = n') :
    Md w ((W.setCell ⟨bm, 0, none⟩ (.int .i64 (Z : Int))).setCell ⟨bm, 1, none⟩ (.slice A' n' c')) ga gf g gw gb bm ba gt base bx Z s nt bc y kd th k l p bs2 obs2 tail2 bsR obs' A' n' c' xs' := by
  have l1 := F.l1
  have l2 := F.l2
  have l3 := F.l3
  have l4 := F.l4
  have l5 := F.l5
  have e1 : bx ≠ bm := h.box.apart h.rf.box (by decide)
  have e2 : bc ≠ bm := h.act.apart h.rf.box (by decide)
  refine ⟨(h.al.far1 _ _ ?_ ?_ ?_ ?_ ?_).far1 _ _ ?_ ?_ ?_ ?_ ?_, h.rf.put O hn, (h.box.far (p := ⟨bm, 0, none⟩) e1 _).far (p := ⟨bm, 1, none⟩) e1 _, (h.act.far (p := ⟨bm, 0, none⟩) e2 _).far (p := ⟨bm, 1, none⟩) e2 _, (h.old.setCell (p := ⟨bm, 0, none⟩) F.o5 _).setCell (p := ⟨bm, 1, none⟩) F.o5 _⟩
  all_goals (show _ ≠ bm; omega)
theorem Md.set (h : Md w W ga gf g gw gb bm ba gt base bx Z s nt bc y kd th k l p bs2 obs2 tail2 bsR obsR A n c xs) (F : Lw w.heap.size ga gf g gw gb bm ba gt base) (t : Nat) (b u : Int) (hu : b - 1 = u) :
    Md w (W.setCell ⟨gt, t, none⟩ (.int .i64 u)) ga gf g gw gb bm ba gt base bx Z s nt bc y kd th k l p bs2 obs2 tail2 (bsR.set t b) obsR A n c xs := by
  subst hu
  have l1 := F.l1
  have l2 := F.l2
  have l3 := F.l3
  have l4 := F.l4
  have l5 := F.l5
  have l6 := F.l6
  have l7 := F.l7
  have l8 := F.l8
  have e1 : bx ≠ gt := h.box.apart h.rf.arow (by decide)
  have e2 : bc ≠ gt := h.act.apart h.rf.arow (by decide)
  refine ⟨h.al.far1 _ _ ?_ ?_ ?_ ?_ ?_, h.rf.set t b (by omega), h.box.far (p := ⟨gt, t, none⟩) e1 _, h.act.far (p := ⟨gt, t, none⟩) e2 _, h.old.setCell (p := ⟨gt, t, none⟩) F.o6 _⟩
  all_goals (show _ ≠ gt; omega)
theorem Md.pt (h : Md w W ga gf g gw gb bm ba gt base bx Z s nt bc y kd th k l p bs2 obs2 tail2 bs2 obs2 A n c xs) (hc : Clean obs2) (hl : (flat obs2 ++ tail2).length = Z) (hb : bs2.length = nt) : Pt w W ga gf g gw gb bm ba gt base bx Z s nt y bs2 obs2 tail2 A n c xs :=
  ⟨h.al, h.rf, hc, hl, hb, h.box, h.old⟩
end
/-- Behind the program's Alloc. -/
theorem Pt.md {w W W' : World} {ga gf g gw gb bm ba gt base bx Z s nt bc : Nat} {y kd th k l p : Int} {bs bs2 : List Int} {obs obs2 : List Ob} {tail tail2 : List Int} {A : Option Addr} {n c : Nat} {xs : List Value} (h : Pt w W ga gf g gw gb bm ba gt base bx Z s nt y bs obs tail A n c xs) (F : Lw w.heap.size ga gf g gw gb bm ba gt base) (L : Lies W bc 45 [.int .u8 kd, .int .i64 th, .int .i64 k, .int .i64 l, .int .i64 p]) (A' : Al W' ga gf g gw gb s bs2 obs2 tail2) (E : Else4 g gw gb gf W W') :
    Md w W' ga gf g gw gb bm ba gt base bx Z s nt bc y kd th k l p bs2 obs2 tail2 bs obs A n c xs :=
  ⟨A', h.rf.else4 E F, E.lies h.box (h.box.apart h.al.st.lies.own (by decide)) (h.box.apart h.al.st.lies.words (by decide)) (h.box.apart h.al.st.lies.begins (by decide)) (h.box.apart h.al.row (by decide)),
   E.lies L (L.apart h.al.st.lies.own (by decide)) (L.apart h.al.st.lies.words (by decide)) (L.apart h.al.st.lies.begins (by decide)) (L.apart h.al.row (by decide)), h.old.trans (E.below h.old.size F.o1 F.o2 F.o3 F.o4)⟩
theorem good_b (k l p : Int) (w : World) (b : Bool) (h : goodB k l p = b) : Calls Try.prog 16 #[.agg #[.int .i64 k, .int .i64 l, .int .i64 p]] w fun e w' => e = .returned (.bool b) ∧ Below w.heap.size w w' :=
  (good_any k l p w).mono fun e w' ⟨he, hw⟩ => ⟨by rw [he, h], by rw [hw]; exact below_one _ _⟩
theorem getD_set' (bs : List Int) (t i : Nat) (b : Int) : (bs.set t b).getD i 0 = if i = t ∧ t < bs.length then b else bs.getD i 0 := by
  simp only [List.getD_eq_getElem?_getD, List.getElem?_set]
  by_cases h : t = i
  · subst h
    by_cases h2 : t < bs.length
    · simp [h2]
    · simp [h2]
  · have h' : ¬ i = t := fun e => h e.symm
    simp [h, h']
end Go.Proofs.Ytibfhpbklnpknaa
