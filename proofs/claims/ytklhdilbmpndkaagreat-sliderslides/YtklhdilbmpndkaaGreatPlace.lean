/- What Place does. -/
import Derived.Test.YtklhdilbmpndkaaGreatHe
import Derived.Deep.RegionWith
namespace Go.Proofs.YtklhdilbmpndkaaGreat
set_option maxRecDepth 20000
open Go.RowKit
set_option linter.unusedVariables false

theorem mayBe_b (k l p : Int) (w : World) (b : Bool) (hb : goodB k l p = b) :
    Calls Tryz.prog 73 #[.agg #[.int .i64 k, .int .i64 l, .int .i64 p]] w fun e w' => e = .returned (.bool b) ∧ Below w.heap.size w w' :=
  (mayBe_any k l p w).mono fun e w' ⟨he, hw⟩ => ⟨by rw [he, hb], by rw [hw]; exact (Below.refl _ _).alloc (Nat.le_refl _) _⟩
theorem room_b (k p : Int) (l : Nat) (w : World) (h1 : l ≤ 4095) :
    Calls Tryz.prog 74 #[.agg #[.int .i64 k, .int .i64 l, .int .i64 p]] w fun e w' => e = .returned (.int .i64 (1 + l)) ∧ Below w.heap.size w w' :=
  (room_any k l p w (by omega) (by omega)).mono fun e w' ⟨he, hw⟩ => ⟨he, by rw [hw]; exact (Below.refl _ _).alloc (Nat.le_refl _) _⟩

set_option maxHeartbeats 1000000 in
theorem place_bad {w : World} {g gw gb : Nat} {zs : List Int} {top : Nat} {bs : List Bool} (h : HeapAt w g gw gb zs top bs) (k l p : Int) (hg : goodB k l p = false) :
    Calls Tryz.prog 40 #[.pointer (some ⟨g, 0, none⟩), .agg #[.int .i64 k, .int .i64 l, .int .i64 p]] w fun e w' =>
      e = .returned (.tuple #[.int .i64 0, .int .i64 1]) ∧ Below w.heap.size w w' := by
  go_enter Tryz.func40, Tryz.ntmps40
  go_wp2_with fail
  refine (mayBe_any k l p _).mono ?_
  rintro e w' ⟨rfl, rfl⟩
  rw [hg]
  go_wp2
  go_ret2
  exact ⟨rfl, ((Below.refl _ _).alloc (Nat.le_refl _) _).alloc (by simp) _⟩

set_option maxHeartbeats 1000000 in
theorem place_full {w : World} {g gw gb : Nat} {zs : List Int} {top : Nat} {bs : List Bool} (h : HeapAt w g gw gb zs top bs) (k p : Int) (l : Nat) (hg : goodB k l p = true) (hf : zs.length < top + (1 + l)) :
    Calls Tryz.prog 40 #[.pointer (some ⟨g, 0, none⟩), .agg #[.int .i64 k, .int .i64 l, .int .i64 p]] w fun e w' =>
      e = .returned (.tuple #[.int .i64 0, .int .i64 6]) ∧ Below w.heap.size w w' := by
  have hl4 : l ≤ 4095 := by have := (good_iff k l p).1 hg; omega
  have hm := h.most
  have ht := h.fits
  have b0 : IntKind.i64.wrap ((zs.length : Int) - (top : Int)) = (zs.length : Int) - (top : Int) := IntWalk.i64_in _ (by omega)
  have b1 : decide ((zs.length : Int) - (top : Int) < 1 + (l : Int)) = true := by simp; omega
  go_enter Tryz.func40, Tryz.ntmps40
  go_wp2_with fail
  refine (mayBe_b k l p _ true hg).mono ?_
  rintro e w1 ⟨rfl, hb1⟩
  have box1 := (Lies.new w 64 [.int .i64 k, .int .i64 l, .int .i64 p]).below hb1 (by simp)
  have H1 := (h.alloc (.cells #[.int .i64 k, .int .i64 l, .int .i64 p] 64)).kept hb1
  have B1 : Below w.heap.size w w1 := on ((Below.refl _ _).alloc (Nat.le_refl _) _) (by simp) hb1
  have y0 := H1.c0
  have y1 := H1.c1
  have x0 : w1.cell? ⟨w.heap.size, 0, none⟩ = some (.int .i64 k) := box1.cell 0
  have x1 : w1.cell? ⟨w.heap.size, 1, none⟩ = some (.int .i64 l) := box1.cell 1
  have x2 : w1.cell? ⟨w.heap.size, 2, none⟩ = some (.int .i64 p) := box1.cell 2
  have z1 := H1.own.lt
  have z3 := box1.lt
  clear hb1
  go_wp2_with fail
  go_region_held3 (fun W => W.cell? ⟨g, 0, none⟩ = some (.slice (some ⟨gw, 0, none⟩) zs.length zs.length) ∧ W.cell? ⟨g, 1, none⟩ = some (.int .i64 top) ∧ W.cell? ⟨w.heap.size, 0, none⟩ = some (.int .i64 k) ∧ W.cell? ⟨w.heap.size, 1, none⟩ = some (.int .i64 l) ∧ W.cell? ⟨w.heap.size, 2, none⟩ = some (.int .i64 p))
    (first | go_keep | (refine ⟨?_, ?_, ?_, ?_, ?_⟩ <;> first | exact (hk3 _ _ z1).trans y0 | exact (hk3 _ _ z1).trans y1 | exact (hk3 _ _ z3).trans x0 | exact (hk3 _ _ z3).trans x1 | exact (hk3 _ _ z3).trans x2))
    ((first
    | (go_at_call 74; refine (room_b _ _ _ _ hl4).mono ?_; rintro e w3 ⟨rfl, hb3⟩; obtain ⟨hk3, hf3⟩ := kept hb3)
    | fail))
  go_wp2
  go_ret2
  exact ⟨rfl, B1.drew.trans (hb3.mono B1.size)⟩

theorem Else.drewl {g gw gb : Nat} {w w' : World} (h : Else g gw gb w.drew w') : Else g gw gb w w' := ⟨h.os, h.tape, h.output, h.size, h.block⟩

theorem laid_length (zs : List Int) (i l : Nat) (n : Int) (h : i + (1 + l) ≤ zs.length) : (laid zs i l n).length = zs.length := by
  simp [laid, cleared_length _ _ _ h]
theorem raised {w w' : World} {g gw gb : Nat} {zs : List Int} {top n : Nat} {bs : List Bool} (h : HeapAt w g gw gb zs top bs) (hb : Below w.drew.heap.size w.drew w') (hn : top + (1 + n) ≤ zs.length) :
    HeapAt (w'.setCell ⟨g, 1, none⟩ (.int .i64 ((top : Int) + (1 + (n : Int))))) g gw gb zs (top + (1 + n)) bs := by
  have hne1 : gw ≠ g := (h.own.apart h.words (by decide)).symm
  have hne2 : gb ≠ g := (h.own.apart h.begins (by decide)).symm
  refine ⟨?_, (h.words.drew.below hb h.words.lt).far hne1 _, (h.begins.drew.below hb h.begins.lt).far hne2 _, h.same, h.some_, h.most, hn⟩
  have := (h.own.drew.below hb h.own.lt).set 1 (.int .i64 ((top : Int) + (1 + (n : Int))))
  have e : ((top + (1 + n) : Nat) : Int) = (top : Int) + (1 + (n : Int)) := by omega
  rw [e]
  exact this
theorem raised_else {w w' : World} {g gw gb : Nat} {u : Value} (hb : Below w.drew.heap.size w.drew w') : Else g gw gb w (w'.setCell ⟨g, 1, none⟩ u) :=
  Else.trans (b := w') ⟨hb.os, hb.tape, hb.output, hb.size, fun j hj _ _ _ => hb.block j hj⟩ ⟨rfl, rfl, rfl, by simp [World.setCell], fun j hj h1 h2 h3 => Below.heap_setCell _ _ _ _ h1⟩

set_option maxHeartbeats 2000000 in
theorem place_yes {w : World} {g gw gb : Nat} {zs : List Int} {top : Nat} {bs : List Bool} (h : HeapAt w g gw gb zs top bs) (k p : Int) (l : Nat) (hg : goodB k l p = true) (hf : top + (1 + l) ≤ zs.length) :
    Calls Tryz.prog 40 #[.pointer (some ⟨g, 0, none⟩), .agg #[.int .i64 k, .int .i64 l, .int .i64 p]] w fun e w' =>
      e = .returned (.tuple #[.int .i64 top, .int .i64 0]) ∧ HeapAt w' g gw gb (laid zs top l (packW k l p)) (top + (1 + l)) (bs.set top true) ∧ Else g gw gb w w' := by
  have hl4 : l ≤ 4095 := by have := (good_iff k l p).1 hg; omega
  have hm := h.most
  have ht := h.fits
  have b0 : IntKind.i64.wrap ((zs.length : Int) - (top : Int)) = (zs.length : Int) - (top : Int) := IntWalk.i64_in _ (by omega)
  have b1 : decide ((zs.length : Int) - (top : Int) < 1 + (l : Int)) = false := by simp; omega
  go_enter Tryz.func40, Tryz.ntmps40
  go_wp2_with fail
  refine (mayBe_b k l p _ true hg).mono ?_
  rintro e w1 ⟨rfl, hb1⟩
  have box1 := (Lies.new w 64 [.int .i64 k, .int .i64 l, .int .i64 p]).below hb1 (by simp)
  have H1 := (h.alloc (.cells #[.int .i64 k, .int .i64 l, .int .i64 p] 64)).kept hb1
  have B1 : Below w.heap.size w w1 := on ((Below.refl _ _).alloc (Nat.le_refl _) _) (by simp) hb1
  have y0 := H1.c0
  have y1 := H1.c1
  have x0 : w1.cell? ⟨w.heap.size, 0, none⟩ = some (.int .i64 k) := box1.cell 0
  have x1 : w1.cell? ⟨w.heap.size, 1, none⟩ = some (.int .i64 l) := box1.cell 1
  have x2 : w1.cell? ⟨w.heap.size, 2, none⟩ = some (.int .i64 p) := box1.cell 2
  have z1 := H1.own.lt
  have z3 := box1.lt
  clear hb1
  go_wp2_with fail
  go_region_held3 (fun W => W.cell? ⟨g, 0, none⟩ = some (.slice (some ⟨gw, 0, none⟩) zs.length zs.length) ∧ W.cell? ⟨g, 1, none⟩ = some (.int .i64 top) ∧ W.cell? ⟨w.heap.size, 0, none⟩ = some (.int .i64 k) ∧ W.cell? ⟨w.heap.size, 1, none⟩ = some (.int .i64 l) ∧ W.cell? ⟨w.heap.size, 2, none⟩ = some (.int .i64 p))
    (first | go_keep | (refine ⟨?_, ?_, ?_, ?_, ?_⟩ <;> first | exact (hk3 _ _ z1).trans y0 | exact (hk3 _ _ z1).trans y1 | exact (hk3 _ _ z3).trans x0 | exact (hk3 _ _ z3).trans x1 | exact (hk3 _ _ z3).trans x2))
    ((first
    | (go_at_call 74; refine (room_b _ _ _ _ hl4).mono ?_; rintro e w3 ⟨rfl, hb3⟩; obtain ⟨hk3, hf3⟩ := kept hb3)
    | fail))
  have H3 : HeapAt w3 g gw gb zs top bs := HeapAt.of_below (w := w1) ⟨H1.own, H1.words, H1.begins, H1.same, H1.some_, H1.most, H1.fits⟩ (B := w1.heap.size) ⟨hb3.os, hb3.tape, hb3.output, hb3.size, hb3.block⟩ H1.own.lt H1.words.lt H1.begins.lt
  have box3 := box1.drew.below hb3 z3
  have B3 : Below w.heap.size w w3 := B1.drew.trans (hb3.mono B1.size)
  clear hk3 hf3 x0 x1 x2 y0 y1 z1 z3 H1 box1 B1 hb3 b0 b1
  have y1 := H3.c1
  have x0 : w3.cell? ⟨w.heap.size, 0, none⟩ = some (.int .i64 k) := box3.cell 0
  have x1 : w3.cell? ⟨w.heap.size, 1, none⟩ = some (.int .i64 l) := box3.cell 1
  have x2 : w3.cell? ⟨w.heap.size, 2, none⟩ = some (.int .i64 p) := box3.cell 2
  go_wp2_with fail
  refine (lay_any H3 top l k p hg hf).mono ?_
  rintro e w4 ⟨rfl, H4, E4⟩
  have box4 := E4.lies box3 (by have := h.own.lt; omega) (by have := h.words.lt; omega) (by have := h.begins.lt; omega)
  have E04 : Else g gw gb w w4 := (Else.of_below B3).trans E4
  clear x0 x1 x2 y1 H3 box3 B3 E4
  have y1 := H4.c1
  have x0 : w4.cell? ⟨w.heap.size, 0, none⟩ = some (.int .i64 k) := box4.cell 0
  have x1 : w4.cell? ⟨w.heap.size, 1, none⟩ = some (.int .i64 l) := box4.cell 1
  have x2 : w4.cell? ⟨w.heap.size, 2, none⟩ = some (.int .i64 p) := box4.cell 2
  have z1 := H4.own.lt
  have z3 := box4.lt
  have b0 : IntKind.i64.wrap ((top : Int) + (1 + (l : Int))) = (top : Int) + (1 + (l : Int)) := IntWalk.i64_in _ (by omega)
  have hfr := H4.own.frozen 1
  have hne3 : w.heap.size ≠ g := by have := h.own.lt; omega
  go_wp2_with fail
  go_region_with ((first
    | (go_at_call 74; refine (room_b _ _ _ _ hl4).mono ?_; rintro e w5 ⟨rfl, hb5⟩; obtain ⟨hk3, hf3⟩ := kept hb5; have hc5 := (hk3 g 1 z1).trans y1; have hf5 := (hf3 g 1 z1).trans hfr)
    | fail))
  all_goals go_wp2
  all_goals go_ret2
  all_goals exact ⟨rfl, raised H4 hb5 (by rw [laid_length _ _ _ _ hf]; exact hf), E04.trans (raised_else hb5)⟩
end Go.Proofs.YtklhdilbmpndkaaGreat
