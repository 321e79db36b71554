/- Load, Store, Swap and Add: the answer, the words and the touches behind them. -/
import Derived.Test.YtpifnhfdbcckjaaTouch
namespace Go.Proofs.Ytpifnhfdbcckjaa
open Go.RowKit
set_option linter.unusedVariables false
set_option linter.unusedSimpArgs false

theorem run_mf (fn : Fn) (first cap : Array Value) (w : World) : (Instr.makeFunc fn first cap).run Try.prog w = .ok (.func fn first cap) w := rfl
theorem enter20 (args : Array Value) (W : World) : (callFunc 23 args).run Try.prog W = .ok (.enter 23 args) W := by
  simp [callFunc, go_sem, Try.func23]
  kernel_rfl
theorem enter22 (args : Array Value) (W : World) : (callFunc 24 args).run Try.prog W = .ok (.enter 24 args) W := by
  simp [callFunc, go_sem, Try.func24]
  kernel_rfl
theorem enter23 (args : Array Value) (W : World) : (callFunc 22 args).run Try.prog W = .ok (.enter 22 args) W := by
  simp [callFunc, go_sem, Try.func22]
  kernel_rfl

theorem cl20 (was : Int) (w : World) : Calls Try.prog 23 (#[.int .i64 was] ++ #[]) w fun e w' => e = .returned (.int .i64 was) ∧ Below w.heap.size w w' := by
  show Calls Try.prog 23 #[.int .i64 was] w _
  go_enter Try.func23, Try.ntmps23
  go_wp2
  go_ret
  exact ⟨rfl, Below.refl _ _⟩
theorem cl22 (was old word : Int) (a b : Nat) (w : World) (ha : w.cell? ⟨a, 0, none⟩ = some (.int .i64 old)) (hb : w.cell? ⟨b, 0, none⟩ = some (.int .i64 word)) :
    Calls Try.prog 24 (#[.int .i64 was] ++ #[.pointer (some ⟨a, 0, none⟩), .pointer (some ⟨b, 0, none⟩)]) w fun e w' => e = .returned (.int .i64 (if was = old then word else was)) ∧ Below w.heap.size w w' := by
  show Calls Try.prog 24 #[.int .i64 was, .pointer (some ⟨a, 0, none⟩), .pointer (some ⟨b, 0, none⟩)] w _
  by_cases h : was = old
  · have h' : (was == old) = true := by simp [h]
    rw [if_pos h]
    clear h
    go_enter Try.func24, Try.ntmps24
    go_wp2
    go_ret
    exact ⟨rfl, Below.refl _ _⟩
  · have h' : (was == old) = false := by simp [h]
    rw [if_neg h]
    clear h
    go_enter Try.func24, Try.ntmps24
    go_wp2
    go_ret
    exact ⟨rfl, Below.refl _ _⟩
theorem cl23 (was b' : Int) (b : Nat) (w : World) (hb : w.cell? ⟨b, 0, none⟩ = some (.int .i64 b')) : Calls Try.prog 22 (#[.int .i64 was] ++ #[.pointer (some ⟨b, 0, none⟩)]) w fun e w' => e = .returned (.int .i64 (wrap64 (was + b'))) ∧ Below w.heap.size w w' := by
  show Calls Try.prog 22 #[.int .i64 was, .pointer (some ⟨b, 0, none⟩)] w _
  go_enter Try.func22, Try.ntmps22
  go_wp2
  go_ret
  exact ⟨rfl, Below.refl _ _⟩

section
variable {w : World} {base g gw : Nat} {zs : List Int} {A : Option Addr} {c : Nat} {ts : List Tc}

theorem set_same {zs : List Int} {p : Nat} {was : Int} (h : p < zs.length) (hw : zs.getD p 0 = was) : zs.set p was = zs := by
  apply List.ext_getElem?
  intro i
  rw [List.getElem?_set]
  split
  · next e => subst e; simp [List.getD, h] at hw; simp [h, hw]
  · rfl

set_option maxHeartbeats 1000000 in
theorem load_yes (h : At w base g gw zs A c ts) (hn : ts.length ≤ 30000) (who : Int) (p : Nat) (h0 : 0 ≤ who) (h1 : who < 64) (h3 : p < zs.length) (was : Int) (hwas : zs.getD p 0 = was) :
    Calls Try.prog 17 #[.pointer (some ⟨g, 0, none⟩), .int .i64 who, .int .i64 p] w fun e w' => e = .returned (.tuple #[.int .i64 was, .int .i64 0]) ∧ Did w w' base g gw A zs (ts ++ [⟨who, p, 1, was, was⟩]) := by
  have hmf := run_mf
  have T := Lib.hid (touch_yes h hn who 1 p 23 #[] h0 h1 h3 was was hwas enter20 (cl20 was w))
  rw [set_same h3 hwas] at T
  clear hwas h
  go_enter Try.func17, Try.ntmps17
  go_wp2_with fail
  refine T.out.mono ?_
  rintro e w1 ⟨rfl, D⟩
  have HD := Lib.hid D
  clear D
  go_wp2
  go_ret2
  exact ⟨rfl, HD.out⟩

set_option maxHeartbeats 1000000 in
theorem add_yes (h : At w base g gw zs A c ts) (hn : ts.length ≤ 30000) (who : Int) (p : Nat) (n : Int) (h0 : 0 ≤ who) (h1 : who < 64) (h3 : p < zs.length) (was : Int) (hwas : zs.getD p 0 = was) :
    Calls Try.prog 16 #[.pointer (some ⟨g, 0, none⟩), .int .i64 who, .int .i64 p, .int .i64 n] w fun e w' => e = .returned (.tuple #[.int .i64 was, .int .i64 0]) ∧ Did w w' base g gw A (zs.set p (wrap64 (was + n))) (ts ++ [⟨who, p, 4, was, wrap64 (was + n)⟩]) := by
  have hmf := run_mf
  obtain ⟨X, hX⟩ : ∃ X : Obj, X = .cells #[.int .i64 n] 3 := ⟨_, rfl⟩
  have LX : Lies (w.alloc X) w.heap.size 3 [.int .i64 n] := by rw [hX]; exact Lies.new w 3 [_]
  have T := Lib.hid (touch_yes (h.kept (below_one w X)) hn who 4 p 22 #[.pointer (some ⟨w.heap.size, 0, none⟩)] h0 h1 h3 was _ hwas enter23 (cl23 was n _ _ (LX.cell 0)))
  clear hwas h LX
  go_enter Try.func16, Try.ntmps16
  go_wp2_with fail
  rw [← hX]
  refine T.out.mono ?_
  rintro e w1 ⟨rfl, D⟩
  have HD := Lib.hid (D.after (Else.of_below (below_one w X)))
  clear D T hX
  go_wp2
  go_ret2
  exact ⟨rfl, HD.out⟩

set_option maxHeartbeats 1000000 in
theorem swap_hit (h : At w base g gw zs A c ts) (hn : ts.length ≤ 30000) (who : Int) (p : Nat) (old n : Int) (h0 : 0 ≤ who) (h1 : who < 64) (h3 : p < zs.length) (was : Int) (hwas : zs.getD p 0 = was) (he : was = old) :
    Calls Try.prog 18 #[.pointer (some ⟨g, 0, none⟩), .int .i64 who, .int .i64 p, .int .i64 old, .int .i64 n] w fun e w' => e = .returned (.int .i64 0) ∧ Did w w' base g gw A (zs.set p n) (ts ++ [⟨who, p, 3, was, n⟩]) := by
  have hmf := run_mf
  have he' : (was != old) = false := by simp [he]
  obtain ⟨X, hX⟩ : ∃ X : Obj, X = .cells #[.int .i64 old] 3 := ⟨_, rfl⟩
  obtain ⟨Y, hY⟩ : ∃ Y : Obj, Y = .cells #[.int .i64 n] 3 := ⟨_, rfl⟩
  have LX : Lies ((w.alloc X).alloc Y) w.heap.size 3 [.int .i64 old] := by rw [hX]; exact (Lies.new w 3 [_]).alloc Y
  have LY : Lies ((w.alloc X).alloc Y) (w.heap.size + 1) 3 [.int .i64 n] := by
    have : (w.alloc X).heap.size = w.heap.size + 1 := by simp
    rw [hY, ← this]; exact Lies.new (w.alloc X) 3 [_]
  have hb : Below w.heap.size w ((w.alloc X).alloc Y) := on (below_one w X) (below_one w X).size (below_one _ Y)
  have T := Lib.hid (touch_yes (h.kept hb) hn who 3 p 24 #[.pointer (some ⟨w.heap.size, 0, none⟩), .pointer (some ⟨w.heap.size + 1, 0, none⟩)] h0 h1 h3 was _ hwas enter22 (cl22 was old n _ _ _ (LX.cell 0) (LY.cell 0)))
  rw [if_pos he] at T
  clear he
  have k0 : ((w.alloc X).alloc Y).cell? ⟨w.heap.size, 0, none⟩ = some (.int .i64 old) := LX.cell 0
  have HB := Lib.hid hb
  have HK := Lib.hid LX
  have HA := Lib.hid h
  clear hwas h LX LY hb
  go_enter Try.func18, Try.ntmps18
  go_wp2_with fail
  rw [← hX, ← hY]
  refine T.out.mono ?_
  rintro e w1 ⟨rfl, D⟩
  have HD := Lib.hid (D.after (Else.of_below HB.out))
  have l1 : w1.cell? ⟨w.heap.size, 0, none⟩ = some (.int .i64 old) := by
    obtain ⟨A', c', _, E, _⟩ := D
    exact (E.lies HK.out (by have := HA.out.own.lt; omega) (by have := HA.out.words.lt; omega) (fun e => by have := (HA.out.row_of _ e.symm).2.1; omega)).cell 0
  clear D T hX hY k0 HK HB HA
  go_wp2
  go_ret
  exact ⟨rfl, HD.out⟩

set_option maxHeartbeats 1000000 in
theorem swap_miss (h : At w base g gw zs A c ts) (hn : ts.length ≤ 30000) (who : Int) (p : Nat) (old n : Int) (h0 : 0 ≤ who) (h1 : who < 64) (h3 : p < zs.length) (was : Int) (hwas : zs.getD p 0 = was) (he : was ≠ old) :
    Calls Try.prog 18 #[.pointer (some ⟨g, 0, none⟩), .int .i64 who, .int .i64 p, .int .i64 old, .int .i64 n] w fun e w' => e = .returned (.int .i64 8) ∧ Did w w' base g gw A (zs.set p was) (ts ++ [⟨who, p, 3, was, was⟩]) := by
  have hmf := run_mf
  have he' : (was != old) = true := by simp [he]
  obtain ⟨X, hX⟩ : ∃ X : Obj, X = .cells #[.int .i64 old] 3 := ⟨_, rfl⟩
  obtain ⟨Y, hY⟩ : ∃ Y : Obj, Y = .cells #[.int .i64 n] 3 := ⟨_, rfl⟩
  have LX : Lies ((w.alloc X).alloc Y) w.heap.size 3 [.int .i64 old] := by rw [hX]; exact (Lies.new w 3 [_]).alloc Y
  have LY : Lies ((w.alloc X).alloc Y) (w.heap.size + 1) 3 [.int .i64 n] := by
    have : (w.alloc X).heap.size = w.heap.size + 1 := by simp
    rw [hY, ← this]; exact Lies.new (w.alloc X) 3 [_]
  have hb : Below w.heap.size w ((w.alloc X).alloc Y) := on (below_one w X) (below_one w X).size (below_one _ Y)
  have T := Lib.hid (touch_yes (h.kept hb) hn who 3 p 24 #[.pointer (some ⟨w.heap.size, 0, none⟩), .pointer (some ⟨w.heap.size + 1, 0, none⟩)] h0 h1 h3 was _ hwas enter22 (cl22 was old n _ _ _ (LX.cell 0) (LY.cell 0)))
  rw [if_neg he] at T
  clear he
  have k0 : ((w.alloc X).alloc Y).cell? ⟨w.heap.size, 0, none⟩ = some (.int .i64 old) := LX.cell 0
  have HB := Lib.hid hb
  have HK := Lib.hid LX
  have HA := Lib.hid h
  clear hwas h LX LY hb
  go_enter Try.func18, Try.ntmps18
  go_wp2_with fail
  rw [← hX, ← hY]
  refine T.out.mono ?_
  rintro e w1 ⟨rfl, D⟩
  have HD := Lib.hid (D.after (Else.of_below HB.out))
  have l1 : w1.cell? ⟨w.heap.size, 0, none⟩ = some (.int .i64 old) := by
    obtain ⟨A', c', _, E, _⟩ := D
    exact (E.lies HK.out (by have := HA.out.own.lt; omega) (by have := HA.out.words.lt; omega) (fun e => by have := (HA.out.row_of _ e.symm).2.1; omega)).cell 0
  clear D T hX hY k0 HK HB HA
  go_wp2
  go_ret
  exact ⟨rfl, HD.out⟩

theorem load_no (h : At w base g gw zs A c ts) (who place : Int) (hbad : ¬ (0 ≤ who ∧ who < 64 ∧ 0 ≤ place ∧ place < zs.length)) :
    Calls Try.prog 17 #[.pointer (some ⟨g, 0, none⟩), .int .i64 who, .int .i64 place] w fun e w' => e = .returned (.tuple #[.int .i64 0, .int .i64 1]) ∧ Below w.heap.size w w' := by
  have hmf := run_mf
  have T := Lib.hid (touch_no h who place 1 (.func (.func 23) #[] #[]) hbad)
  clear h hbad
  go_enter Try.func17, Try.ntmps17
  go_wp2_with fail
  refine T.out.mono ?_
  rintro e w1 ⟨rfl, rfl⟩
  go_wp2
  go_ret2
  exact ⟨rfl, Below.refl _ _⟩

theorem add_no (h : At w base g gw zs A c ts) (who place n : Int) (hbad : ¬ (0 ≤ who ∧ who < 64 ∧ 0 ≤ place ∧ place < zs.length)) :
    Calls Try.prog 16 #[.pointer (some ⟨g, 0, none⟩), .int .i64 who, .int .i64 place, .int .i64 n] w fun e w' => e = .returned (.tuple #[.int .i64 0, .int .i64 1]) ∧ Below w.heap.size w w' := by
  have hmf := run_mf
  obtain ⟨X, hX⟩ : ∃ X : Obj, X = .cells #[.int .i64 n] 3 := ⟨_, rfl⟩
  have T := Lib.hid (touch_no (h.kept (below_one w X)) who place 4 (.func (.func 22) #[] #[.pointer (some ⟨w.heap.size, 0, none⟩)]) hbad)
  clear h hbad
  go_enter Try.func16, Try.ntmps16
  go_wp2_with fail
  rw [← hX]
  refine T.out.mono ?_
  rintro e w1 ⟨rfl, rfl⟩
  have HB := Lib.hid (below_one w X)
  clear hX T
  go_wp2
  go_ret2
  exact ⟨rfl, HB.out⟩

theorem swap_no (h : At w base g gw zs A c ts) (who place old n : Int) (hbad : ¬ (0 ≤ who ∧ who < 64 ∧ 0 ≤ place ∧ place < zs.length)) :
    Calls Try.prog 18 #[.pointer (some ⟨g, 0, none⟩), .int .i64 who, .int .i64 place, .int .i64 old, .int .i64 n] w fun e w' => e = .returned (.int .i64 1) ∧ Below w.heap.size w w' := by
  have hmf := run_mf
  obtain ⟨X, hX⟩ : ∃ X : Obj, X = .cells #[.int .i64 old] 3 := ⟨_, rfl⟩
  obtain ⟨Y, hY⟩ : ∃ Y : Obj, Y = .cells #[.int .i64 n] 3 := ⟨_, rfl⟩
  have hb : Below w.heap.size w ((w.alloc X).alloc Y) := on (below_one w X) (below_one w X).size (below_one _ Y)
  have k0 : ((w.alloc X).alloc Y).cell? ⟨w.heap.size, 0, none⟩ = some (.int .i64 old) := by rw [hX]; exact ((Lies.new w 3 [_]).alloc Y).cell 0
  have T := Lib.hid (touch_no (h.kept hb) who place 3 (.func (.func 24) #[] #[.pointer (some ⟨w.heap.size, 0, none⟩), .pointer (some ⟨w.heap.size + 1, 0, none⟩)]) hbad)
  have HB := Lib.hid hb
  clear h hbad hb
  go_enter Try.func18, Try.ntmps18
  go_wp2_with fail
  rw [← hX, ← hY]
  refine T.out.mono ?_
  rintro e w1 ⟨rfl, rfl⟩
  clear hX hY T
  go_wp2
  go_ret
  exact ⟨rfl, HB.out⟩
end
end Go.Proofs.Ytpifnhfdbcckjaa
