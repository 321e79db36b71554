/- Load, Store, Swap and Add: the answer, the words and the touches behind them. -/
import Derived.Test.YtelompgefldojaaTouch
namespace Go.Proofs.Ytelompgefldojaa
open Go.RowKit
set_option linter.unusedVariables false
set_option linter.unusedSimpArgs false

theorem run_mf (fn : Fn) (first cap : Array Value) (w : World) : (Instr.makeFunc fn first cap).run Try.prog w = .ok (.func fn first cap) w := rfl
theorem enter23 (args : Array Value) (W : World) : (callFunc 23 args).run Try.prog W = .ok (.enter 23 args) W := by
  simp [callFunc, go_sem, Try.func23]
  kernel_rfl

theorem cl23 (was b' : Int) (b : Nat) (w : World) (hb : w.cell? ⟨b, 0, none⟩ = some (.int .i64 b')) : Calls Try.prog 23 (#[.int .i64 was] ++ #[.pointer (some ⟨b, 0, none⟩)]) w fun e w' => e = .returned (.int .i64 (wrap64 (was + b'))) ∧ Below w.heap.size w w' := by
  show Calls Try.prog 23 #[.int .i64 was, .pointer (some ⟨b, 0, none⟩)] w _
  go_enter Try.func23, Try.ntmps23
  go_wp2
  go_ret
  exact ⟨rfl, Below.refl _ _⟩

section
variable {w : World} {base g gw : Nat} {zs : List Int} {A : Option Addr} {c : Nat} {ts : List Tc}

theorem set_same {zs : List Int} {p : Nat} {was : Int} (h : p < zs.length) (hw : zs.getD p 0 = was) : zs.set p was = zs := by
  apply List.ext_getElem?
  intro i
  rw [List.getElem?_set]
  split
  · next e => subst e; simp [List.getD, h] at hw; simp [h, hw]
  · rfl

set_option maxHeartbeats 1000000 in
theorem add_yes (h : At w base g gw zs A c ts) (hn : ts.length ≤ 30000) (who : Int) (p : Nat) (n : Int) (h0 : 0 ≤ who) (h1 : who < 64) (h3 : p < zs.length) (was : Int) (hwas : zs.getD p 0 = was) :
    Calls Try.prog 20 #[.pointer (some ⟨g, 0, none⟩), .int .i64 who, .int .i64 p, .int .i64 n] w fun e w' => e = .returned (.tuple #[.int .i64 was, .int .i64 0]) ∧ Did w w' base g gw A (zs.set p (wrap64 (was + n))) (ts ++ [⟨who, p, 4, was, wrap64 (was + n)⟩]) := by
  have hmf := run_mf
  obtain ⟨X, hX⟩ : ∃ X : Obj, X = .cells #[.int .i64 n] 3 := ⟨_, rfl⟩
  have LX : Lies (w.alloc X) w.heap.size 3 [.int .i64 n] := by rw [hX]; exact Lies.new w 3 [_]
  have T := Lib.hid (touch_yes (h.kept (below_one w X)) hn who 4 p 23 #[.pointer (some ⟨w.heap.size, 0, none⟩)] h0 h1 h3 was _ hwas enter23 (cl23 was n _ _ (LX.cell 0)))
  clear hwas h LX
  go_enter Try.func20, Try.ntmps20
  go_wp2_with fail
  rw [← hX]
  refine T.out.mono ?_
  rintro e w1 ⟨rfl, D⟩
  have HD := Lib.hid (D.after (Else.of_below (below_one w X)))
  clear D T hX
  go_wp2
  go_ret2
  exact ⟨rfl, HD.out⟩

theorem add_no (h : At w base g gw zs A c ts) (who place n : Int) (hbad : ¬ (0 ≤ who ∧ who < 64 ∧ 0 ≤ place ∧ place < zs.length)) :
    Calls Try.prog 20 #[.pointer (some ⟨g, 0, none⟩), .int .i64 who, .int .i64 place, .int .i64 n] w fun e w' => e = .returned (.tuple #[.int .i64 0, .int .i64 1]) ∧ Below w.heap.size w w' := by
  have hmf := run_mf
  obtain ⟨X, hX⟩ : ∃ X : Obj, X = .cells #[.int .i64 n] 3 := ⟨_, rfl⟩
  have T := Lib.hid (touch_no (h.kept (below_one w X)) who place 4 (.func (.func 23) #[] #[.pointer (some ⟨w.heap.size, 0, none⟩)]) hbad)
  clear h hbad
  go_enter Try.func20, Try.ntmps20
  go_wp2_with fail
  rw [← hX]
  refine T.out.mono ?_
  rintro e w1 ⟨rfl, rfl⟩
  have HB := Lib.hid (below_one w X)
  clear hX T
  go_wp2
  go_ret2
  exact ⟨rfl, HB.out⟩

end
end Go.Proofs.Ytelompgefldojaa
