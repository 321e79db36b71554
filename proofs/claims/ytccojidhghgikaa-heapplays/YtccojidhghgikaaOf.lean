/- What New and Of do. -/
import Derived.Test.YtccojidhghgikaaFind
namespace Go.Proofs.Ytccojidhghgikaa
open Go.RowKit
set_option linter.unusedVariables false

set_option maxHeartbeats 1000000 in
theorem of_range (A : Option Addr) (n c : Nat) (t : Int) (w : World) (hb : ¬ (1 ≤ n ∧ n ≤ 65536 ∧ 0 ≤ t ∧ t ≤ n)) :
    Calls Try.prog 29 #[.slice A n c, .int .i64 t] w fun e w' => e = .returned (.tuple #[.pointer none, .int .i64 1]) ∧ Below w.heap.size w w' := by
  by_cases h1 : 1 ≤ n ∧ n ≤ 65536
  · have hs : decide (1 ≤ (n : Int) ∧ (n : Int) ≤ 65536) = true := by simp; omega
    by_cases h2 : t < 0
    · go_enter Try.func29, Try.ntmps29
      go_wp2_with fail
      refine (maySize_any _ _).mono ?_
      rintro e w' ⟨rfl, rfl⟩
      rw [hs]
      go_wp2
      go_ret2
      exact ⟨rfl, Below.refl _ _⟩
    · have h3 : (n : Int) < t := by omega
      go_enter Try.func29, Try.ntmps29
      go_wp2_with fail
      refine (maySize_any _ _).mono ?_
      rintro e w' ⟨rfl, rfl⟩
      rw [hs]
      go_wp2
      go_ret2
      exact ⟨rfl, Below.refl _ _⟩
  · have hs : decide (1 ≤ (n : Int) ∧ (n : Int) ≤ 65536) = false := by simp; omega
    go_enter Try.func29, Try.ntmps29
    go_wp2_with fail
    refine (maySize_any _ _).mono ?_
    rintro e w' ⟨rfl, rfl⟩
    rw [hs]
    go_wp2
    go_ret2
    exact ⟨rfl, Below.refl _ _⟩

theorem undrawn {w w' : World} (h : Below w.drew.heap.size w.drew w') : Below w.heap.size w w' := ⟨h.os, h.tape, h.output, h.size, h.block⟩
theorem Row.drew {w : World} {A : Option Addr} {zs : List Int} (h : Row w A zs) : Row w.drew A zs := h
theorem Row.alloc {w : World} {A : Option Addr} {zs : List Int} (h : Row w A zs) (o : Obj) : Row (w.alloc o) A zs := h.kept ((Below.refl _ _).alloc (Nat.le_refl _) _)

theorem made {w : World} {q r n top : Nat} {zs : List Int} (hq : Lies w q 3 (zs.map (Value.int .i64))) (hr : Lies w r 4 (noBits zs.length)) (h1 : 1 ≤ zs.length) (h2 : zs.length ≤ 65536) (h3 : top ≤ zs.length) :
    HeapAt (w.alloc (.cells #[.slice (some ⟨q, 0, none⟩) zs.length zs.length, .int .i64 top, .slice (some ⟨r, 0, none⟩) zs.length zs.length] 77)) w.heap.size q r zs top (noted [] zs.length) := by
  refine ⟨Lies.new w 77 [_, _, _], hq.alloc _, ?_, by simp [noted, marks], h1, h2, h3⟩
  have := hr.alloc (.cells #[.slice (some ⟨q, 0, none⟩) zs.length zs.length, .int .i64 top, .slice (some ⟨r, 0, none⟩) zs.length zs.length] 77)
  rw [noBits_eq] at this
  exact this

set_option maxHeartbeats 2000000 in
theorem of_yes (A : Option Addr) (c top : Nat) (zs : List Int) (w : World) (hr : Row w A zs) (h1 : 1 ≤ zs.length) (h2 : zs.length ≤ 65536) (h3 : top ≤ zs.length) (hp : Parses (zs.take top)) :
    Calls Try.prog 29 #[.slice A zs.length c, .int .i64 top] w fun e w' => ∃ g gw gb obs, e = .returned (.tuple #[.pointer (some ⟨g, 0, none⟩), .int .i64 0]) ∧ Below w.heap.size w w' ∧ w.heap.size ≤ g ∧ w.heap.size ≤ gw ∧ w.heap.size ≤ gb ∧
      Fine obs ∧ flat obs = zs.take top ∧ HeapAt w' g gw gb zs top (noted obs (zs.length - top)) := by
  have hs : decide (1 ≤ (zs.length : Int) ∧ (zs.length : Int) ≤ 65536) = true := by simp; omega
  have hmk := make75 zs.length h2
  have ht0 : decide ((top : Int) < 0) = false := by simp
  have HP := Lib.hid hp
  clear hp
  have HR := Lib.hid hr
  go_enter Try.func29, Try.ntmps29
  go_wp2_with fail
  refine (maySize_any _ _).mono ?_
  rintro e w' ⟨rfl, rfl⟩
  rw [hs]
  go_wp2_with fail
  go_region_with ((first
    | (go_at_call 52; refine (copied_any _ _ zs _ (by first | exact Row.drew HR.out | exact Row.drew (Row.alloc HR.out _)) h2).mono ?_; rintro e w3 ⟨rfl, hL3, hb3⟩)
    | fail))
  · have hz := hb3.size
    have hz' : w.heap.size ≤ w3.heap.size := hz
    have HM := made (w := w3.alloc (.cells (noBits zs.length).toArray 4)) (top := top) (n := 0) (hL3.alloc _) (Lies.new w3 4 (noBits zs.length)) h1 h2 h3
    rw [World.size_alloc] at HM
    have BW : Below w.heap.size w ((w3.alloc (.cells (noBits zs.length).toArray 4)).alloc (.cells #[.slice (some ⟨w.heap.size, 0, none⟩) zs.length zs.length, .int .i64 top, .slice (some ⟨w3.heap.size, 0, none⟩) zs.length zs.length] 77)) :=
      ((undrawn hb3).alloc hz' _).alloc (by simp; omega) _
    clear hmk hL3
    go_wp2_with fail
    refine (find_yes HM HP.out).mono ?_
    rintro e w5 ⟨rfl, E5, obs, hf, hfl, H5⟩
    have B5 : Below w.heap.size w w5 := BW.trans (E5.below (by simp; omega) (by omega) (Nat.le_refl _) hz')
    have HF := Lib.hid hfl
    clear hfl HM BW E5
    go_wp2
    go_ret2
    exact ⟨w3.heap.size + 1, w.heap.size, w3.heap.size, obs, rfl, B5, by omega, Nat.le_refl _, hz', hf, HF.out, H5⟩
  · have hz := hb3.size
    have hz' : w.heap.size + 1 ≤ w3.heap.size := by simpa using hz
    have hL4 : Lies w3 (w.heap.size + 1) 3 (zs.map (Value.int .i64)) := by simpa using hL3
    have hN4 : Lies w3 w.heap.size 4 (noBits zs.length) := (Lies.new w 4 (noBits zs.length)).drew.below hb3 (by simp)
    have HM := made (w := w3) (top := top) (n := 0) hL4 hN4 h1 h2 h3
    have BW : Below w.heap.size w (w3.alloc (.cells #[.slice (some ⟨w.heap.size + 1, 0, none⟩) zs.length zs.length, .int .i64 top, .slice (some ⟨w.heap.size, 0, none⟩) zs.length zs.length] 77)) :=
      (on ((Below.refl _ _).alloc (Nat.le_refl _) _).drew (by simp) hb3).alloc (by omega) _
    clear hmk hL3
    go_wp2_with fail
    refine (find_yes HM HP.out).mono ?_
    rintro e w5 ⟨rfl, E5, obs, hf, hfl, H5⟩
    have B5 : Below w.heap.size w w5 := BW.trans (E5.below (by simp; omega) (by omega) (by omega) (Nat.le_refl _))
    have HF := Lib.hid hfl
    clear hfl HM BW E5
    go_wp2
    go_ret2
    exact ⟨w3.heap.size, w.heap.size + 1, w.heap.size, obs, rfl, B5, by omega, by omega, Nat.le_refl _, hf, HF.out, H5⟩
set_option maxHeartbeats 2000000 in
theorem of_no (A : Option Addr) (c top : Nat) (zs : List Int) (w : World) (hr : Row w A zs) (h1 : 1 ≤ zs.length) (h2 : zs.length ≤ 65536) (h3 : top ≤ zs.length) (hwf : ∀ i, zs.getD i 0 < 9223372036854775808) (hp : ¬ Parses (zs.take top)) :
    Calls Try.prog 29 #[.slice A zs.length c, .int .i64 top] w fun e w' => e = .returned (.tuple #[.pointer none, .int .i64 2]) ∧ Below w.heap.size w w' := by
  have hs : decide (1 ≤ (zs.length : Int) ∧ (zs.length : Int) ≤ 65536) = true := by simp; omega
  have hmk := make75 zs.length h2
  have ht0 : decide ((top : Int) < 0) = false := by simp
  have HP := Lib.hid hp
  have HW := Lib.hid hwf
  clear hp hwf
  have HR := Lib.hid hr
  go_enter Try.func29, Try.ntmps29
  go_wp2_with fail
  refine (maySize_any _ _).mono ?_
  rintro e w' ⟨rfl, rfl⟩
  rw [hs]
  go_wp2_with fail
  go_region_with ((first
    | (go_at_call 52; refine (copied_any _ _ zs _ (by first | exact Row.drew HR.out | exact Row.drew (Row.alloc HR.out _)) h2).mono ?_; rintro e w3 ⟨rfl, hL3, hb3⟩)
    | fail))
  · have hz := hb3.size
    have hz' : w.heap.size ≤ w3.heap.size := hz
    have HM := made (w := w3.alloc (.cells (noBits zs.length).toArray 4)) (top := top) (n := 0) (hL3.alloc _) (Lies.new w3 4 (noBits zs.length)) h1 h2 h3
    rw [World.size_alloc] at HM
    have BW : Below w.heap.size w ((w3.alloc (.cells (noBits zs.length).toArray 4)).alloc (.cells #[.slice (some ⟨w.heap.size, 0, none⟩) zs.length zs.length, .int .i64 top, .slice (some ⟨w3.heap.size, 0, none⟩) zs.length zs.length] 77)) :=
      ((undrawn hb3).alloc hz' _).alloc (by simp; omega) _
    clear hmk hL3
    go_wp2_with fail
    refine (find_no HM HW.out HP.out).mono ?_
    rintro e w5 ⟨rfl, E5⟩
    have B5 : Below w.heap.size w w5 := BW.trans (E5.below (by simp; omega) (by omega) (Nat.le_refl _) hz')
    clear HM BW E5
    go_wp2
    go_ret2
    exact ⟨rfl, B5⟩
  · have hz := hb3.size
    have hz' : w.heap.size + 1 ≤ w3.heap.size := by simpa using hz
    have hL4 : Lies w3 (w.heap.size + 1) 3 (zs.map (Value.int .i64)) := by simpa using hL3
    have hN4 : Lies w3 w.heap.size 4 (noBits zs.length) := (Lies.new w 4 (noBits zs.length)).drew.below hb3 (by simp)
    have HM := made (w := w3) (top := top) (n := 0) hL4 hN4 h1 h2 h3
    have BW : Below w.heap.size w (w3.alloc (.cells #[.slice (some ⟨w.heap.size + 1, 0, none⟩) zs.length zs.length, .int .i64 top, .slice (some ⟨w.heap.size, 0, none⟩) zs.length zs.length] 77)) :=
      (on ((Below.refl _ _).alloc (Nat.le_refl _) _).drew (by simp) hb3).alloc (by omega) _
    clear hmk hL3
    go_wp2_with fail
    refine (find_no HM HW.out HP.out).mono ?_
    rintro e w5 ⟨rfl, E5⟩
    have B5 : Below w.heap.size w w5 := BW.trans (E5.below (by simp; omega) (by omega) (by omega) (Nat.le_refl _))
    clear HM BW E5
    go_wp2
    go_ret2
    exact ⟨rfl, B5⟩

set_option maxHeartbeats 1000000 in
theorem new_bad (n : Int) (w : World) (hn : ¬ (1 ≤ n ∧ n ≤ 65536)) :
    Calls Try.prog 20 #[.int .i64 n] w fun e w' => e = .returned (.tuple #[.pointer none, .int .i64 1]) ∧ Below w.heap.size w w' := by
  have hs : decide (1 ≤ n ∧ n ≤ 65536) = false := decide_eq_false hn
  go_enter Try.func20, Try.ntmps20
  go_wp2_with fail
  refine (maySize_any _ _).mono ?_
  rintro e w' ⟨rfl, rfl⟩
  rw [hs]
  go_wp2
  go_ret2
  exact ⟨rfl, Below.refl _ _⟩

set_option maxHeartbeats 1000000 in
theorem new_yes (n : Nat) (w : World) (h1 : 1 ≤ n) (h2 : n ≤ 65536) :
    Calls Try.prog 20 #[.int .i64 n] w fun e w' => ∃ g gw gb, e = .returned (.tuple #[.pointer (some ⟨g, 0, none⟩), .int .i64 0]) ∧ Below w.heap.size w w' ∧ w.heap.size ≤ g ∧ w.heap.size ≤ gw ∧ w.heap.size ≤ gb ∧
      HeapAt w' g gw gb (List.replicate n 0) 0 (noted [] n) := by
  have hs : decide (1 ≤ (n : Int) ∧ (n : Int) ≤ 65536) = true := by simp; omega
  have hmk := make75 n h2
  have hmk' := make51 n h2
  go_enter Try.func20, Try.ntmps20
  go_wp2_with fail
  refine (maySize_any _ _).mono ?_
  rintro e w' ⟨rfl, rfl⟩
  rw [hs]
  go_wp2_with fail
  go_region
  all_goals go_wp2
  all_goals go_ret2
  · have hL : Lies ((w.alloc (.cells (noughts n).toArray 3)).alloc (.cells (noBits n).toArray 4)) w.heap.size 3 ((List.replicate n (0 : Int)).map (Value.int .i64)) := by
      have := (Lies.new w 3 (noughts n)).alloc (.cells (noBits n).toArray 4)
      rw [noughts_eq] at this ⊢
      exact this
    have hN : Lies ((w.alloc (.cells (noughts n).toArray 3)).alloc (.cells (noBits n).toArray 4)) (w.heap.size + 1) 4 (noBits (List.replicate n (0 : Int)).length) := by
      have := Lies.new (w.alloc (.cells (noughts n).toArray 3)) 4 (noBits n)
      rw [World.size_alloc] at this
      simpa using this
    have HM := made (top := 0) (n := 0) hL hN (by simpa using h1) (by simpa using h2) (by simp)
    simp only [List.length_replicate, World.size_alloc] at HM
    refine ⟨w.heap.size + 1 + 1, w.heap.size, w.heap.size + 1, rfl, ?_, by omega, by omega, by omega, ⟨HM.own, HM.words, HM.begins, HM.same, HM.some_, HM.most, HM.fits⟩⟩
    exact ((((Below.refl _ w).alloc (Nat.le_refl _) _).alloc (by simp) _).alloc (by simp; omega) _).drew
  · have hL : Lies ((w.alloc (.cells (noBits n).toArray 4)).alloc (.cells (noughts n).toArray 3)) (w.heap.size + 1) 3 ((List.replicate n (0 : Int)).map (Value.int .i64)) := by
      have := Lies.new (w.alloc (.cells (noBits n).toArray 4)) 3 (noughts n)
      rw [World.size_alloc] at this
      rw [noughts_eq] at this ⊢
      exact this
    have hN : Lies ((w.alloc (.cells (noBits n).toArray 4)).alloc (.cells (noughts n).toArray 3)) w.heap.size 4 (noBits (List.replicate n (0 : Int)).length) := by
      have := (Lies.new w 4 (noBits n)).alloc (.cells (noughts n).toArray 3)
      simpa using this
    have HM := made (top := 0) (n := 0) hL hN (by simpa using h1) (by simpa using h2) (by simp)
    simp only [List.length_replicate, World.size_alloc] at HM
    refine ⟨w.heap.size + 1 + 1, w.heap.size + 1, w.heap.size, rfl, ?_, by omega, by omega, by omega, ⟨HM.own, HM.words, HM.begins, HM.same, HM.some_, HM.most, HM.fits⟩⟩
    exact ((((Below.refl _ w).alloc (Nat.le_refl _) _).alloc (by simp) _).alloc (by simp; omega) _).drew
end Go.Proofs.Ytccojidhghgikaa
