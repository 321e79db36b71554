/- What New and Of do. -/
import Derived.Test.YtibfhpbklnpknaaFind
namespace Go.Proofs.Ytibfhpbklnpknaa
open Go.RowKit
set_option linter.unusedVariables false

theorem undrawn {w w' : World} (h : Below w.drew.heap.size w.drew w') : Below w.heap.size w w' := ⟨h.os, h.tape, h.output, h.size, h.block⟩
theorem Row.drew {w : World} {A : Option Addr} {zs : List Int} (h : Row w A zs) : Row w.drew A zs := h
theorem Row.alloc {w : World} {A : Option Addr} {zs : List Int} (h : Row w A zs) (o : Obj) : Row (w.alloc o) A zs := h.kept ((Below.refl _ _).alloc (Nat.le_refl _) _)

theorem made {w : World} {q r n top : Nat} {zs : List Int} (hq : Lies w q 3 (zs.map (Value.int .i64))) (hr : Lies w r 4 (noBits zs.length)) (h1 : 1 ≤ zs.length) (h2 : zs.length ≤ 65536) (h3 : top ≤ zs.length) :
    HeapAt (w.alloc (.cells #[.slice (some ⟨q, 0, none⟩) zs.length zs.length, .int .i64 top, .slice (some ⟨r, 0, none⟩) zs.length zs.length] 69)) w.heap.size q r zs top (noted [] zs.length) := by
  refine ⟨Lies.new w 69 [_, _, _], hq.alloc _, ?_, by simp [noted, marks], h1, h2, h3⟩
  have := hr.alloc (.cells #[.slice (some ⟨q, 0, none⟩) zs.length zs.length, .int .i64 top, .slice (some ⟨r, 0, none⟩) zs.length zs.length] 69)
  rw [noBits_eq] at this
  exact this

set_option maxHeartbeats 1000000 in
theorem new_bad (n : Int) (w : World) (hn : ¬ (1 ≤ n ∧ n ≤ 65536)) :
    Calls Try.prog 8 #[.int .i64 n] w fun e w' => e = .returned (.tuple #[.pointer none, .int .i64 1]) ∧ Below w.heap.size w w' := by
  have hs : decide (1 ≤ n ∧ n ≤ 65536) = false := decide_eq_false hn
  go_enter Try.func8, Try.ntmps8
  go_wp2_with fail
  refine (maySize_any _ _).mono ?_
  rintro e w' ⟨rfl, rfl⟩
  rw [hs]
  go_wp2
  go_ret2
  exact ⟨rfl, Below.refl _ _⟩

set_option maxHeartbeats 1000000 in
theorem new_yes (n : Nat) (w : World) (h1 : 1 ≤ n) (h2 : n ≤ 65536) :
    Calls Try.prog 8 #[.int .i64 n] w fun e w' => ∃ g gw gb, e = .returned (.tuple #[.pointer (some ⟨g, 0, none⟩), .int .i64 0]) ∧ Below w.heap.size w w' ∧ w.heap.size ≤ g ∧ w.heap.size ≤ gw ∧ w.heap.size ≤ gb ∧
      HeapAt w' g gw gb (List.replicate n 0) 0 (noted [] n) := by
  have hs : decide (1 ≤ (n : Int) ∧ (n : Int) ≤ 65536) = true := by simp; omega
  have hmk := make75 n h2
  have hmk' := make51 n h2
  go_enter Try.func8, Try.ntmps8
  go_wp2_with fail
  refine (maySize_any _ _).mono ?_
  rintro e w' ⟨rfl, rfl⟩
  rw [hs]
  go_wp2_with fail
  go_region
  all_goals go_wp2
  all_goals go_ret2
  · have hL : Lies ((w.alloc (.cells (noughts n).toArray 3)).alloc (.cells (noBits n).toArray 4)) w.heap.size 3 ((List.replicate n (0 : Int)).map (Value.int .i64)) := by
      have := (Lies.new w 3 (noughts n)).alloc (.cells (noBits n).toArray 4)
      rw [noughts_eq] at this ⊢
      exact this
    have hN : Lies ((w.alloc (.cells (noughts n).toArray 3)).alloc (.cells (noBits n).toArray 4)) (w.heap.size + 1) 4 (noBits (List.replicate n (0 : Int)).length) := by
      have := Lies.new (w.alloc (.cells (noughts n).toArray 3)) 4 (noBits n)
      rw [World.size_alloc] at this
      simpa using this
    have HM := made (top := 0) (n := 0) hL hN (by simpa using h1) (by simpa using h2) (by simp)
    simp only [List.length_replicate, World.size_alloc] at HM
    refine ⟨w.heap.size + 1 + 1, w.heap.size, w.heap.size + 1, rfl, ?_, by omega, by omega, by omega, ⟨HM.own, HM.words, HM.begins, HM.same, HM.some_, HM.most, HM.fits⟩⟩
    exact ((((Below.refl _ w).alloc (Nat.le_refl _) _).alloc (by simp) _).alloc (by simp; omega) _).drew
  · have hL : Lies ((w.alloc (.cells (noBits n).toArray 4)).alloc (.cells (noughts n).toArray 3)) (w.heap.size + 1) 3 ((List.replicate n (0 : Int)).map (Value.int .i64)) := by
      have := Lies.new (w.alloc (.cells (noBits n).toArray 4)) 3 (noughts n)
      rw [World.size_alloc] at this
      rw [noughts_eq] at this ⊢
      exact this
    have hN : Lies ((w.alloc (.cells (noBits n).toArray 4)).alloc (.cells (noughts n).toArray 3)) w.heap.size 4 (noBits (List.replicate n (0 : Int)).length) := by
      have := (Lies.new w 4 (noBits n)).alloc (.cells (noughts n).toArray 3)
      simpa using this
    have HM := made (top := 0) (n := 0) hL hN (by simpa using h1) (by simpa using h2) (by simp)
    simp only [List.length_replicate, World.size_alloc] at HM
    refine ⟨w.heap.size + 1 + 1, w.heap.size + 1, w.heap.size, rfl, ?_, by omega, by omega, by omega, ⟨HM.own, HM.words, HM.begins, HM.same, HM.some_, HM.most, HM.fits⟩⟩
    exact ((((Below.refl _ w).alloc (Nat.le_refl _) _).alloc (by simp) _).alloc (by simp; omega) _).drew
end Go.Proofs.Ytibfhpbklnpknaa
