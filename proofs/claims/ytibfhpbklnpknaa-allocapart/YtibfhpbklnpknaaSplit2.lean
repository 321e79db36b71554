/- What Split does where it goes. -/
import Derived.Test.YtibfhpbklnpknaaSplit
namespace Go.Proofs.Ytibfhpbklnpknaa
open Go.RowKit
set_option linter.unusedVariables false

set_option maxHeartbeats 2000000 in
theorem split_even {w : World} {g gw gb : Nat} {zs : List Int} {top : Nat} {bs : List Bool} (h : HeapAt w g gw gb zs top bs) (i : Nat) (k p : Int) (l : Nat) (hi : i < top) (hb : bs.getD i false = true) (n : Int) (hn : zs.getD i 0 = n) (hh : headB n = true) (hk : n % 16 = 15) (hg : goodB k l p = true) (htop : i + 1 + lenOf n ≤ top) (hf : n / 65536 = l) :
    Calls Try.prog 49 #[.pointer (some ⟨g, 0, none⟩), .int .i64 i, .agg #[.int .i64 k, .int .i64 l, .int .i64 p]] w fun e w' =>
      e = .returned (.tuple #[.int .i64 0, .int .i64 0]) ∧ HeapAt w' g gw gb (laid zs i l (packW k l p)) top (bs.set i true) ∧ Else g gw gb w w' := by
  have hk' : (n % 16 != 15) = false := by simp [hk]
  have HH : HeapAt (w.alloc (.cells #[.int .i64 k, .int .i64 l, .int .i64 p] 40)) g gw gb zs top bs := h.alloc _
  have HN := Lib.hid hn
  have HB := Lib.hid hb
  have l0 : (0 : Int) ≤ (l : Int) := by omega
  have hfit : i + (1 + l) ≤ zs.length := by
    have := h.fits; unfold lenOf at htop; omega
  have l1 := ((good_iff k l p).1 hg).2.2.2.1
  have q0 : 0 ≤ n / 65536 := by have := head_nn hh; omega
  have q1 : n / 65536 ≤ 4095 := by have := len_le hh; unfold lenOf at this; omega
  have HF := Lib.hid hf
  clear hn hb hk hf
  go_enter Try.func49, Try.ntmps49
  go_wp2_with fail
  refine (head_yes HH i hi HB.out n HN.out hh).mono ?_
  rintro e w1 ⟨rfl, hb1⟩
  have B1 : Below w.heap.size w w1 := on ((Below.refl _ _).alloc (Nat.le_refl _) _) (by simp) hb1
  have box1 := (Lies.new w 40 [.int .i64 k, .int .i64 l, .int .i64 p]).below hb1 (by simp)
  have x0 : w1.cell? ⟨w.heap.size, 0, none⟩ = some (.int .i64 k) := box1.cell 0
  have x1 : w1.cell? ⟨w.heap.size, 1, none⟩ = some (.int .i64 l) := box1.cell 1
  have x2 : w1.cell? ⟨w.heap.size, 2, none⟩ = some (.int .i64 p) := box1.cell 2
  have z1 := box1.lt
  generalize n / 65536 = q at *
  generalize n % 65536 / 16 = r at *
  generalize n % 16 = s at *
  go_wp2_with fail
  refine (mayBe_b k l p _ true hg).mono ?_
  rintro e w2 ⟨rfl, hb2⟩
  have B2 : Below w.heap.size w w2 := on (B1.alloc B1.size _) (by simp; omega) hb2
  have old2 := (Lies.new w1 40 [.int .i64 s, .int .i64 q, .int .i64 r]).below hb2 (by simp)
  have box2 := (box1.alloc (.cells #[.int .i64 s, .int .i64 q, .int .i64 r] 40)).below hb2 (by simp; omega)
  clear x0 x1 x2 hb1 hb2 B1 box1
  have x0 : w2.cell? ⟨w.heap.size, 0, none⟩ = some (.int .i64 k) := box2.cell 0
  have x1 : w2.cell? ⟨w.heap.size, 1, none⟩ = some (.int .i64 l) := box2.cell 1
  have x2 : w2.cell? ⟨w.heap.size, 2, none⟩ = some (.int .i64 p) := box2.cell 2
  have y0 : w2.cell? ⟨w1.heap.size, 0, none⟩ = some (.int .i64 s) := old2.cell 0
  have y1 : w2.cell? ⟨w1.heap.size, 1, none⟩ = some (.int .i64 q) := old2.cell 1
  have y2 : w2.cell? ⟨w1.heap.size, 2, none⟩ = some (.int .i64 r) := old2.cell 2
  have z2 := box2.lt
  have z3 := old2.lt
  have b0 : IntKind.i64.wrap (1 + q - (1 + l)) = 1 + q - (1 + l) := IntWalk.i64_in _ (by omega)
  have b1 : decide (1 + q - (1 + (l : Int)) < 0) = false := by have := HF.out; simp; omega
  have b2 : (1 + q - (1 + (l : Int)) == 0) = true := by have := HF.out; rw [beq_iff_eq]; omega
  have bb : Below w2.heap.size w2 w2.drew := (Below.refl _ _).drew
  go_wp2_with fail
  go_region_held3 (fun W => W.cell? ⟨w.heap.size, 0, none⟩ = some (.int .i64 k) ∧ W.cell? ⟨w.heap.size, 1, none⟩ = some (.int .i64 l) ∧ W.cell? ⟨w.heap.size, 2, none⟩ = some (.int .i64 p) ∧ W.cell? ⟨w1.heap.size, 0, none⟩ = some (.int .i64 s) ∧ W.cell? ⟨w1.heap.size, 1, none⟩ = some (.int .i64 q) ∧ W.cell? ⟨w1.heap.size, 2, none⟩ = some (.int .i64 r) ∧ w2.heap.size ≤ W.heap.size ∧ Below w2.heap.size w2 W)
    (first | (go_split_ands; exact ⟨(hk3 _ _ (by omega)).trans ‹_›, (hk3 _ _ (by omega)).trans ‹_›, (hk3 _ _ (by omega)).trans ‹_›, (hk3 _ _ (by omega)).trans ‹_›, (hk3 _ _ (by omega)).trans ‹_›, (hk3 _ _ (by omega)).trans ‹_›, Nat.le_trans ‹_› hb3.size, on ‹_› ‹_› hb3⟩) | go_keep)
    ((first
    | (go_at_call 51; refine (room_i _ _ _ _ (by omega) (by omega)).mono ?_; rintro e w3 ⟨rfl, hb3⟩; obtain ⟨hk3, hf3⟩ := kept hb3)
    | fail))
  obtain ⟨x0', x1', x2', _, _, _, _, bw⟩ := ‹_ ∧ _ ∧ _ ∧ _ ∧ _ ∧ _ ∧ _ ∧ Below w2.heap.size w2 w3›
  have B3 : Below w.heap.size w w3 := on B2 B2.size bw
  have H3 := h.kept B3
  clear x0 x1 x2 y0 y1 y2 hk3 hf3 bb
  go_wp2_with fail
  refine (lay_any H3 i l k p hg hfit).mono ?_
  rintro e w4 ⟨rfl, H4, E4⟩
  go_wp2
  go_ret2
  exact ⟨rfl, H4, (Else.of_below B3).trans E4⟩

set_option maxHeartbeats 2000000 in
theorem split_rest {w : World} {g gw gb : Nat} {zs : List Int} {top : Nat} {bs : List Bool} (h : HeapAt w g gw gb zs top bs) (i : Nat) (k p : Int) (l : Nat) (hi : i < top) (hb : bs.getD i false = true) (n : Int) (hn : zs.getD i 0 = n) (hh : headB n = true) (hk : n % 16 = 15) (hg : goodB k l p = true) (htop : i + 1 + lenOf n ≤ top) (m : Nat) (hf : n / 65536 = l + 1 + m) :
    Calls Try.prog 49 #[.pointer (some ⟨g, 0, none⟩), .int .i64 i, .agg #[.int .i64 k, .int .i64 l, .int .i64 p]] w fun e w' =>
      e = .returned (.tuple #[.int .i64 ((i + (1 + l) : Nat) : Int), .int .i64 0]) ∧
        HeapAt w' g gw gb (laid (laid zs i l (packW k l p)) (i + (1 + l)) m (packW 15 m 0)) top ((bs.set i true).set (i + (1 + l)) true) ∧ Else g gw gb w w' := by
  have hk' : (n % 16 != 15) = false := by simp [hk]
  have HH : HeapAt (w.alloc (.cells #[.int .i64 k, .int .i64 l, .int .i64 p] 40)) g gw gb zs top bs := h.alloc _
  have HN := Lib.hid hn
  have HB := Lib.hid hb
  have l0 : (0 : Int) ≤ (l : Int) := by omega
  have hfit : i + (1 + l) ≤ zs.length := by
    have := h.fits; unfold lenOf at htop; omega
  have l1 := ((good_iff k l p).1 hg).2.2.2.1
  have q0 : 0 ≤ n / 65536 := by have := head_nn hh; omega
  have q1 : n / 65536 ≤ 4095 := by have := len_le hh; unfold lenOf at this; omega
  have HF := Lib.hid hf
  clear hn hb hk hf
  go_enter Try.func49, Try.ntmps49
  go_wp2_with fail
  refine (head_yes HH i hi HB.out n HN.out hh).mono ?_
  rintro e w1 ⟨rfl, hb1⟩
  have B1 : Below w.heap.size w w1 := on ((Below.refl _ _).alloc (Nat.le_refl _) _) (by simp) hb1
  have box1 := (Lies.new w 40 [.int .i64 k, .int .i64 l, .int .i64 p]).below hb1 (by simp)
  have x0 : w1.cell? ⟨w.heap.size, 0, none⟩ = some (.int .i64 k) := box1.cell 0
  have x1 : w1.cell? ⟨w.heap.size, 1, none⟩ = some (.int .i64 l) := box1.cell 1
  have x2 : w1.cell? ⟨w.heap.size, 2, none⟩ = some (.int .i64 p) := box1.cell 2
  have z1 := box1.lt
  generalize hq0 : n / 65536 = q at *
  have hq1 := Lib.hid hq0
  clear hq0
  generalize n % 65536 / 16 = r at *
  generalize n % 16 = s at *
  go_wp2_with fail
  refine (mayBe_b k l p _ true hg).mono ?_
  rintro e w2 ⟨rfl, hb2⟩
  have B2 : Below w.heap.size w w2 := on (B1.alloc B1.size _) (by simp; omega) hb2
  have old2 := (Lies.new w1 40 [.int .i64 s, .int .i64 q, .int .i64 r]).below hb2 (by simp)
  have box2 := (box1.alloc (.cells #[.int .i64 s, .int .i64 q, .int .i64 r] 40)).below hb2 (by simp; omega)
  clear x0 x1 x2 hb1 hb2 B1 box1
  have x0 : w2.cell? ⟨w.heap.size, 0, none⟩ = some (.int .i64 k) := box2.cell 0
  have x1 : w2.cell? ⟨w.heap.size, 1, none⟩ = some (.int .i64 l) := box2.cell 1
  have x2 : w2.cell? ⟨w.heap.size, 2, none⟩ = some (.int .i64 p) := box2.cell 2
  have y0 : w2.cell? ⟨w1.heap.size, 0, none⟩ = some (.int .i64 s) := old2.cell 0
  have y1 : w2.cell? ⟨w1.heap.size, 1, none⟩ = some (.int .i64 q) := old2.cell 1
  have y2 : w2.cell? ⟨w1.heap.size, 2, none⟩ = some (.int .i64 r) := old2.cell 2
  have z2 := box2.lt
  have z3 := old2.lt
  have b0 : IntKind.i64.wrap (1 + q - (1 + l)) = 1 + q - (1 + l) := IntWalk.i64_in _ (by omega)
  have b1 : decide (1 + q - (1 + (l : Int)) < 0) = false := by have := HF.out; simp; omega
  have b2 : (1 + q - (1 + (l : Int)) == 0) = false := by have := HF.out; rw [beq_eq_false_iff_ne]; omega
  have bb : Below w2.heap.size w2 w2.drew := (Below.refl _ _).drew
  go_wp2_with fail
  go_region_held3 (fun W => W.cell? ⟨w.heap.size, 0, none⟩ = some (.int .i64 k) ∧ W.cell? ⟨w.heap.size, 1, none⟩ = some (.int .i64 l) ∧ W.cell? ⟨w.heap.size, 2, none⟩ = some (.int .i64 p) ∧ W.cell? ⟨w1.heap.size, 0, none⟩ = some (.int .i64 s) ∧ W.cell? ⟨w1.heap.size, 1, none⟩ = some (.int .i64 q) ∧ W.cell? ⟨w1.heap.size, 2, none⟩ = some (.int .i64 r) ∧ w2.heap.size ≤ W.heap.size ∧ Below w2.heap.size w2 W)
    (first | (go_split_ands; exact ⟨(hk3 _ _ (by omega)).trans ‹_›, (hk3 _ _ (by omega)).trans ‹_›, (hk3 _ _ (by omega)).trans ‹_›, (hk3 _ _ (by omega)).trans ‹_›, (hk3 _ _ (by omega)).trans ‹_›, (hk3 _ _ (by omega)).trans ‹_›, Nat.le_trans ‹_› hb3.size, on ‹_› ‹_› hb3⟩) | go_keep)
    ((first
    | (go_at_call 51; refine (room_i _ _ _ _ (by omega) (by omega)).mono ?_; rintro e w3 ⟨rfl, hb3⟩; obtain ⟨hk3, hf3⟩ := kept hb3)
    | fail))
  obtain ⟨x0', x1', x2', _, _, _, _, bw⟩ := ‹_ ∧ _ ∧ _ ∧ _ ∧ _ ∧ _ ∧ _ ∧ Below w2.heap.size w2 w3›
  have B3 : Below w.heap.size w w3 := on B2 B2.size bw
  have H3 := h.kept B3
  clear x0 x1 x2 y0 y1 y2 hk3 hf3 bb
  have box3 := box2.below bw z2
  go_wp2_with fail
  refine (lay_any H3 i l k p hg hfit).mono ?_
  rintro e w4 ⟨rfl, H4, E4⟩
  have box4 := E4.lies box3 (by have := h.own.lt; omega) (by have := h.words.lt; omega) (by have := h.begins.lt; omega)
  have E04 := (Else.of_below (g := g) (gw := gw) (gb := gb) B3).trans E4
  clear x0' x1' x2' E4 H3 B3 bw
  have x0 : w4.cell? ⟨w.heap.size, 0, none⟩ = some (.int .i64 k) := box4.cell 0
  have x1 : w4.cell? ⟨w.heap.size, 1, none⟩ = some (.int .i64 l) := box4.cell 1
  have x2 : w4.cell? ⟨w.heap.size, 2, none⟩ = some (.int .i64 p) := box4.cell 2
  go_wp2_with fail
  refine (room_i _ _ _ _ l0 l1).mono ?_
  rintro e w5 ⟨rfl, hb5⟩
  have H5 := H4.kept hb5
  have E05 := E04.trans (Else.of_below hb5)
  have hm := h.most
  have hqq : q ≤ 4095 := q1
  have i9 : i ≤ 65536 := by have := h.fits; omega
  have hmm : lenOf n = l + 1 + m := by unfold lenOf; rw [hq1.out]; have := HF.out; omega
  have hq' := HF.out
  have gm : goodB 15 (m : Int) 0 = true := good_yes (by omega)
  have hll := laid_length zs i l (packW k l p) hfit
  have hfit2 : i + (1 + l) + (1 + m) ≤ (laid zs i l (packW k l p)).length := by rw [hll]; have := h.fits; omega
  have e1 : ((i : Int) + (1 + (l : Int))) = ((i + (1 + l) : Nat) : Int) := by omega
  have e2 : (1 + q - (1 + (l : Int)) - 1) = ((m : Nat) : Int) := by omega
  have L5 := lay_any H5 (i + (1 + l)) m 15 0 gm hfit2
  rw [← e1, ← e2] at L5
  have HL5 := Lib.hid L5
  have E1 := Lib.hid e1
  have E2 := Lib.hid e2
  clear hmm hq' hll e1 e2 L5
  go_wp2_with fail
  refine HL5.out.mono ?_
  rintro e w6 ⟨rfl, H6, E6⟩
  rw [E2.out] at H6
  have HH6 := Lib.hid H6
  clear H6
  go_wp2
  go_ret2
  exact ⟨by rw [← E1.out]; rfl, HH6.out, E05.trans E6⟩
end Go.Proofs.Ytibfhpbklnpknaa
