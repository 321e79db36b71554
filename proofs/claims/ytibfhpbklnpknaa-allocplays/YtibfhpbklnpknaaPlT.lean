/- AllocPlays: what each round's pieces need. -/
import Derived.Test.YtibfhpbklnpknaaPlR
import Derived.Test.YtibfhpbklnpknaaIs
namespace Go.Proofs.Ytibfhpbklnpknaa
open Go.RowKit
set_option linter.unusedVariables false
set_option linter.unusedSimpArgs false

theorem enter11 (args : Array Value) (W : World) : (callFunc 11 args).run Try.prog W = .ok (.enter 11 args) W := by
  simp [callFunc, go_sem, Try.func11]
  kernel_rfl

section
variable {w W W' : World} {ga gf g gw gb bm ba gt base bx Z s nt : Nat} {y : Int} {bs : List Int} {obs : List Ob} {tail : List Int} {A : Option Addr} {n c : Nat} {xs : List Value}
theorem Pt.moved (h : Pt w W ga gf g gw gb bm ba gt base bx Z s nt y bs obs tail A n c xs) (F : Lw w.heap.size ga gf g gw gb bm ba gt base) (A' : Al W' ga gf g gw gb s bs obs tail) (E : Else4 g gw gb gf W W') : Pt w W' ga gf g gw gb bm ba gt base bx Z s nt y bs obs tail A n c xs :=
  ⟨A', h.rf.else4 E F, h.clean, h.len, h.bl, E.lies h.box (h.box.apart h.al.st.lies.own (by decide)) (h.box.apart h.al.st.lies.words (by decide)) (h.box.apart h.al.st.lies.begins (by decide)) (h.box.apart h.al.row (by decide)), h.old.trans (E.below h.old.size F.o1 F.o2 F.o3 F.o4)⟩
/-- The program's buffer, and the document's, of a thread turned. -/
theorem Pt.turned {t : Nat} {b u : Int} (h : Pt w W ga gf g gw gb bm ba gt base bx Z s nt y bs obs tail A n c xs) (F : Lw w.heap.size ga gf g gw gb bm ba gt base) (A' : Al W' ga gf g gw gb s (bs.set t b) obs tail) (E : Else4 g gw gb gf W W') (hu : b - 1 = u) (hx : True) : Pt w (W'.setCell ⟨gt, t, none⟩ (.int .i64 u)) ga gf g gw gb bm ba gt base bx Z s nt y (bs.set t b) obs tail A n c xs := by
  subst hu
  have R := h.rf.else4 E F
  have l1 := F.l1
  have l2 := F.l2
  have l3 := F.l3
  have l4 := F.l4
  have l5 := F.l5
  have l6 := F.l6
  have l7 := F.l7
  have l8 := F.l8
  have o6 := F.o6
  have B := E.lies h.box (h.box.apart h.al.st.lies.own (by decide)) (h.box.apart h.al.st.lies.words (by decide)) (h.box.apart h.al.st.lies.begins (by decide)) (h.box.apart h.al.row (by decide))
  refine ⟨A'.far1 _ _ (by show _ ≠ gt; omega) (by show _ ≠ gt; omega) (by show _ ≠ gt; omega) (by show _ ≠ gt; omega) (by show _ ≠ gt; omega), R.set t b (by omega), h.clean, h.len, by simp [h.bl], B.far (p := ⟨gt, t, none⟩) (B.apart R.arow (by decide)) _, ?_⟩
  exact (h.old.trans (E.below h.old.size F.o1 F.o2 F.o3 F.o4)).setCell (p := ⟨gt, t, none⟩) o6 _
end
end Go.Proofs.Ytibfhpbklnpknaa
