/- What Split, Read and Write do. What Split does where it goes. What Write and Read do. A heap as a row of objects and what stands behind them: plain facts on what its calls do to that row. The calls on a heap, as functions of a row of objects: what each answers, and what the row is then. The walk of HeapStays. -/
import Derived.Test.YtibfhpbklnpknaaGb
namespace Go.Proofs.Ytibfhpbklnpknaa
open Go.RowKit
set_option linter.unusedVariables false

theorem hasField_b (k l p f : Int) (w : World) (b : Bool) (hb : decide (0 ≤ f ∧ f < l) = b) :
    Calls Try.prog 42 #[.agg #[.int .i64 k, .int .i64 l, .int .i64 p], .int .i64 f] w fun e w' => e = .returned (.bool b) ∧ Below w.heap.size w w' :=
  (hasField_any k l p f w).mono fun e w' ⟨he, hw⟩ => ⟨by rw [he, hb], by rw [hw]; exact (Below.refl _ _).alloc (Nat.le_refl _) _⟩

set_option maxHeartbeats 1000000 in
theorem split_addr {w : World} {g gw gb : Nat} {zs : List Int} {top : Nat} {bs : List Bool} (h : HeapAt w g gw gb zs top bs) (a k l p : Int) (hn : startB top bs a = false) :
    Calls Try.prog 49 #[.pointer (some ⟨g, 0, none⟩), .int .i64 a, .agg #[.int .i64 k, .int .i64 l, .int .i64 p]] w fun e w' =>
      e = .returned (.tuple #[.int .i64 0, .int .i64 3]) ∧ Below w.heap.size w w' := by
  go_enter Try.func49, Try.ntmps49
  go_wp2_with fail
  refine (head_no (h.alloc _) a (start_not hn)).mono ?_
  rintro e w1 ⟨rfl, hb1⟩
  have B1 : Below w.heap.size w w1 := on ((Below.refl _ _).alloc (Nat.le_refl _) _) (by simp) hb1
  go_wp2
  go_ret2
  exact ⟨rfl, B1.alloc B1.size _⟩

set_option maxHeartbeats 1000000 in
theorem split_kind {w : World} {g gw gb : Nat} {zs : List Int} {top : Nat} {bs : List Bool} (h : HeapAt w g gw gb zs top bs) (i : Nat) (k l p : Int) (hi : i < top) (hb : bs.getD i false = true) (n : Int) (hn : zs.getD i 0 = n) (hh : headB n = true) (hk : n % 16 ≠ 15) :
    Calls Try.prog 49 #[.pointer (some ⟨g, 0, none⟩), .int .i64 i, .agg #[.int .i64 k, .int .i64 l, .int .i64 p]] w fun e w' =>
      e = .returned (.tuple #[.int .i64 0, .int .i64 2]) ∧ Below w.heap.size w w' := by
  have hk' : (n % 16 != 15) = true := by simp [hk]
  have HH : HeapAt (w.alloc (.cells #[.int .i64 k, .int .i64 l, .int .i64 p] 40)) g gw gb zs top bs := h.alloc _
  have HN := Lib.hid hn
  have HB := Lib.hid hb
  clear hn hb hk
  go_enter Try.func49, Try.ntmps49
  go_wp2_with fail
  refine (head_yes HH i hi HB.out n HN.out hh).mono ?_
  rintro e w1 ⟨rfl, hb1⟩
  have B1 : Below w.heap.size w w1 := on ((Below.refl _ _).alloc (Nat.le_refl _) _) (by simp) hb1
  go_wp2
  go_ret2
  exact ⟨rfl, B1.alloc B1.size _⟩

theorem room_i (k l p : Int) (w : World) (h0 : 0 ≤ l) (h1 : l ≤ 4095) :
    Calls Try.prog 51 #[.agg #[.int .i64 k, .int .i64 l, .int .i64 p]] w fun e w' => e = .returned (.int .i64 (1 + l)) ∧ Below w.heap.size w w' :=
  (room_any k l p w h0 h1).mono fun e w' ⟨he, hw⟩ => ⟨he, by rw [hw]; exact (Below.refl _ _).alloc (Nat.le_refl _) _⟩

set_option maxHeartbeats 1000000 in
theorem split_bad {w : World} {g gw gb : Nat} {zs : List Int} {top : Nat} {bs : List Bool} (h : HeapAt w g gw gb zs top bs) (i : Nat) (k l p : Int) (hi : i < top) (hb : bs.getD i false = true) (n : Int) (hn : zs.getD i 0 = n) (hh : headB n = true) (hk : n % 16 = 15) (hg : goodB k l p = false) :
    Calls Try.prog 49 #[.pointer (some ⟨g, 0, none⟩), .int .i64 i, .agg #[.int .i64 k, .int .i64 l, .int .i64 p]] w fun e w' =>
      e = .returned (.tuple #[.int .i64 0, .int .i64 1]) ∧ Below w.heap.size w w' := by
  have hk' : (n % 16 != 15) = false := by simp [hk]
  have HH : HeapAt (w.alloc (.cells #[.int .i64 k, .int .i64 l, .int .i64 p] 40)) g gw gb zs top bs := h.alloc _
  have HN := Lib.hid hn
  have HB := Lib.hid hb
  clear hn hb hk
  go_enter Try.func49, Try.ntmps49
  go_wp2_with fail
  refine (head_yes HH i hi HB.out n HN.out hh).mono ?_
  rintro e w1 ⟨rfl, hb1⟩
  have B1 : Below w.heap.size w w1 := on ((Below.refl _ _).alloc (Nat.le_refl _) _) (by simp) hb1
  have box1 := (Lies.new w 40 [.int .i64 k, .int .i64 l, .int .i64 p]).below hb1 (by simp)
  have x0 : w1.cell? ⟨w.heap.size, 0, none⟩ = some (.int .i64 k) := box1.cell 0
  have x1 : w1.cell? ⟨w.heap.size, 1, none⟩ = some (.int .i64 l) := box1.cell 1
  have x2 : w1.cell? ⟨w.heap.size, 2, none⟩ = some (.int .i64 p) := box1.cell 2
  have z1 := box1.lt
  go_wp2_with fail
  refine (mayBe_b k l p _ false hg).mono ?_
  rintro e w2 ⟨rfl, hb2⟩
  go_wp2
  go_ret2
  exact ⟨rfl, on (B1.alloc B1.size _) (by simp; omega) hb2⟩

set_option maxHeartbeats 2000000 in
theorem split_full {w : World} {g gw gb : Nat} {zs : List Int} {top : Nat} {bs : List Bool} (h : HeapAt w g gw gb zs top bs) (i : Nat) (k l p : Int) (hi : i < top) (hb : bs.getD i false = true) (n : Int) (hn : zs.getD i 0 = n) (hh : headB n = true) (hk : n % 16 = 15) (hg : goodB k l p = true) (hf : n / 65536 < l) :
    Calls Try.prog 49 #[.pointer (some ⟨g, 0, none⟩), .int .i64 i, .agg #[.int .i64 k, .int .i64 l, .int .i64 p]] w fun e w' =>
      e = .returned (.tuple #[.int .i64 0, .int .i64 6]) ∧ Below w.heap.size w w' := by
  have hk' : (n % 16 != 15) = false := by simp [hk]
  have HH : HeapAt (w.alloc (.cells #[.int .i64 k, .int .i64 l, .int .i64 p] 40)) g gw gb zs top bs := h.alloc _
  have HN := Lib.hid hn
  have HB := Lib.hid hb
  have l0 := ((good_iff k l p).1 hg).2.2.1
  have l1 := ((good_iff k l p).1 hg).2.2.2.1
  have q0 : 0 ≤ n / 65536 := by have := head_nn hh; omega
  have q1 : n / 65536 ≤ 4095 := by have := len_le hh; unfold lenOf at this; omega
  clear hn hb hk
  go_enter Try.func49, Try.ntmps49
  go_wp2_with fail
  refine (head_yes HH i hi HB.out n HN.out hh).mono ?_
  rintro e w1 ⟨rfl, hb1⟩
  have B1 : Below w.heap.size w w1 := on ((Below.refl _ _).alloc (Nat.le_refl _) _) (by simp) hb1
  have box1 := (Lies.new w 40 [.int .i64 k, .int .i64 l, .int .i64 p]).below hb1 (by simp)
  have x0 : w1.cell? ⟨w.heap.size, 0, none⟩ = some (.int .i64 k) := box1.cell 0
  have x1 : w1.cell? ⟨w.heap.size, 1, none⟩ = some (.int .i64 l) := box1.cell 1
  have x2 : w1.cell? ⟨w.heap.size, 2, none⟩ = some (.int .i64 p) := box1.cell 2
  have z1 := box1.lt
  generalize n / 65536 = q at *
  generalize n % 65536 / 16 = r at *
  generalize n % 16 = s at *
  go_wp2_with fail
  refine (mayBe_b k l p _ true hg).mono ?_
  rintro e w2 ⟨rfl, hb2⟩
  have B2 : Below w.heap.size w w2 := on (B1.alloc B1.size _) (by simp; omega) hb2
  have old2 := (Lies.new w1 40 [.int .i64 s, .int .i64 q, .int .i64 r]).below hb2 (by simp)
  have box2 := (box1.alloc (.cells #[.int .i64 s, .int .i64 q, .int .i64 r] 40)).below hb2 (by simp; omega)
  clear x0 x1 x2 hb1 hb2 B1 box1
  have x0 : w2.cell? ⟨w.heap.size, 0, none⟩ = some (.int .i64 k) := box2.cell 0
  have x1 : w2.cell? ⟨w.heap.size, 1, none⟩ = some (.int .i64 l) := box2.cell 1
  have x2 : w2.cell? ⟨w.heap.size, 2, none⟩ = some (.int .i64 p) := box2.cell 2
  have y0 : w2.cell? ⟨w1.heap.size, 0, none⟩ = some (.int .i64 s) := old2.cell 0
  have y1 : w2.cell? ⟨w1.heap.size, 1, none⟩ = some (.int .i64 q) := old2.cell 1
  have y2 : w2.cell? ⟨w1.heap.size, 2, none⟩ = some (.int .i64 r) := old2.cell 2
  have z2 := box2.lt
  have z3 := old2.lt
  have b0 : IntKind.i64.wrap (1 + q - (1 + l)) = 1 + q - (1 + l) := IntWalk.i64_in _ (by omega)
  have b1 : decide (1 + q - (1 + l) < 0) = true := by simp; omega
  have bb : Below w2.heap.size w2 w2.drew := (Below.refl _ _).drew
  go_wp2_with fail
  go_region_held3 (fun W => W.cell? ⟨w.heap.size, 0, none⟩ = some (.int .i64 k) ∧ W.cell? ⟨w.heap.size, 1, none⟩ = some (.int .i64 l) ∧ W.cell? ⟨w.heap.size, 2, none⟩ = some (.int .i64 p) ∧ W.cell? ⟨w1.heap.size, 0, none⟩ = some (.int .i64 s) ∧ W.cell? ⟨w1.heap.size, 1, none⟩ = some (.int .i64 q) ∧ W.cell? ⟨w1.heap.size, 2, none⟩ = some (.int .i64 r) ∧ w2.heap.size ≤ W.heap.size ∧ Below w2.heap.size w2 W)
    (first | (go_split_ands; exact ⟨(hk3 _ _ (by omega)).trans ‹_›, (hk3 _ _ (by omega)).trans ‹_›, (hk3 _ _ (by omega)).trans ‹_›, (hk3 _ _ (by omega)).trans ‹_›, (hk3 _ _ (by omega)).trans ‹_›, (hk3 _ _ (by omega)).trans ‹_›, Nat.le_trans ‹_› hb3.size, on ‹_› ‹_› hb3⟩) | go_keep)
    ((first
    | (go_at_call 51; refine (room_i _ _ _ _ (by omega) (by omega)).mono ?_; rintro e w3 ⟨rfl, hb3⟩; obtain ⟨hk3, hf3⟩ := kept hb3)
    | fail))
  obtain ⟨_, _, _, _, _, _, _, bw⟩ := ‹_ ∧ _ ∧ _ ∧ _ ∧ _ ∧ _ ∧ _ ∧ Below w2.heap.size w2 w3›
  go_wp2
  go_ret2
  exact ⟨rfl, on B2 B2.size bw⟩
end Go.Proofs.Ytibfhpbklnpknaa

namespace Go.Proofs.Ytibfhpbklnpknaa
open Go.RowKit
set_option linter.unusedVariables false

set_option maxHeartbeats 2000000 in
theorem split_even {w : World} {g gw gb : Nat} {zs : List Int} {top : Nat} {bs : List Bool} (h : HeapAt w g gw gb zs top bs) (i : Nat) (k p : Int) (l : Nat) (hi : i < top) (hb : bs.getD i false = true) (n : Int) (hn : zs.getD i 0 = n) (hh : headB n = true) (hk : n % 16 = 15) (hg : goodB k l p = true) (htop : i + 1 + lenOf n ≤ top) (hf : n / 65536 = l) :
    Calls Try.prog 49 #[.pointer (some ⟨g, 0, none⟩), .int .i64 i, .agg #[.int .i64 k, .int .i64 l, .int .i64 p]] w fun e w' =>
      e = .returned (.tuple #[.int .i64 0, .int .i64 0]) ∧ HeapAt w' g gw gb (laid zs i l (packW k l p)) top (bs.set i true) ∧ Else g gw gb w w' := by
  have hk' : (n % 16 != 15) = false := by simp [hk]
  have HH : HeapAt (w.alloc (.cells #[.int .i64 k, .int .i64 l, .int .i64 p] 40)) g gw gb zs top bs := h.alloc _
  have HN := Lib.hid hn
  have HB := Lib.hid hb
  have l0 : (0 : Int) ≤ (l : Int) := by omega
  have hfit : i + (1 + l) ≤ zs.length := by
    have := h.fits; unfold lenOf at htop; omega
  have l1 := ((good_iff k l p).1 hg).2.2.2.1
  have q0 : 0 ≤ n / 65536 := by have := head_nn hh; omega
  have q1 : n / 65536 ≤ 4095 := by have := len_le hh; unfold lenOf at this; omega
  have HF := Lib.hid hf
  clear hn hb hk hf
  go_enter Try.func49, Try.ntmps49
  go_wp2_with fail
  refine (head_yes HH i hi HB.out n HN.out hh).mono ?_
  rintro e w1 ⟨rfl, hb1⟩
  have B1 : Below w.heap.size w w1 := on ((Below.refl _ _).alloc (Nat.le_refl _) _) (by simp) hb1
  have box1 := (Lies.new w 40 [.int .i64 k, .int .i64 l, .int .i64 p]).below hb1 (by simp)
  have x0 : w1.cell? ⟨w.heap.size, 0, none⟩ = some (.int .i64 k) := box1.cell 0
  have x1 : w1.cell? ⟨w.heap.size, 1, none⟩ = some (.int .i64 l) := box1.cell 1
  have x2 : w1.cell? ⟨w.heap.size, 2, none⟩ = some (.int .i64 p) := box1.cell 2
  have z1 := box1.lt
  generalize n / 65536 = q at *
  generalize n % 65536 / 16 = r at *
  generalize n % 16 = s at *
  go_wp2_with fail
  refine (mayBe_b k l p _ true hg).mono ?_
  rintro e w2 ⟨rfl, hb2⟩
  have B2 : Below w.heap.size w w2 := on (B1.alloc B1.size _) (by simp; omega) hb2
  have old2 := (Lies.new w1 40 [.int .i64 s, .int .i64 q, .int .i64 r]).below hb2 (by simp)
  have box2 := (box1.alloc (.cells #[.int .i64 s, .int .i64 q, .int .i64 r] 40)).below hb2 (by simp; omega)
  clear x0 x1 x2 hb1 hb2 B1 box1
  have x0 : w2.cell? ⟨w.heap.size, 0, none⟩ = some (.int .i64 k) := box2.cell 0
  have x1 : w2.cell? ⟨w.heap.size, 1, none⟩ = some (.int .i64 l) := box2.cell 1
  have x2 : w2.cell? ⟨w.heap.size, 2, none⟩ = some (.int .i64 p) := box2.cell 2
  have y0 : w2.cell? ⟨w1.heap.size, 0, none⟩ = some (.int .i64 s) := old2.cell 0
  have y1 : w2.cell? ⟨w1.heap.size, 1, none⟩ = some (.int .i64 q) := old2.cell 1
  have y2 : w2.cell? ⟨w1.heap.size, 2, none⟩ = some (.int .i64 r) := old2.cell 2
  have z2 := box2.lt
  have z3 := old2.lt
  have b0 : IntKind.i64.wrap (1 + q - (1 + l)) = 1 + q - (1 + l) := IntWalk.i64_in _ (by omega)
  have b1 : decide (1 + q - (1 + (l : Int)) < 0) = false := by have := HF.out; simp; omega
  have b2 : (1 + q - (1 + (l : Int)) == 0) = true := by have := HF.out; rw [beq_iff_eq]; omega
  have bb : Below w2.heap.size w2 w2.drew := (Below.refl _ _).drew
  go_wp2_with fail
  go_region_held3 (fun W => W.cell? ⟨w.heap.size, 0, none⟩ = some (.int .i64 k) ∧ W.cell? ⟨w.heap.size, 1, none⟩ = some (.int .i64 l) ∧ W.cell? ⟨w.heap.size, 2, none⟩ = some (.int .i64 p) ∧ W.cell? ⟨w1.heap.size, 0, none⟩ = some (.int .i64 s) ∧ W.cell? ⟨w1.heap.size, 1, none⟩ = some (.int .i64 q) ∧ W.cell? ⟨w1.heap.size, 2, none⟩ = some (.int .i64 r) ∧ w2.heap.size ≤ W.heap.size ∧ Below w2.heap.size w2 W)
    (first | (go_split_ands; exact ⟨(hk3 _ _ (by omega)).trans ‹_›, (hk3 _ _ (by omega)).trans ‹_›, (hk3 _ _ (by omega)).trans ‹_›, (hk3 _ _ (by omega)).trans ‹_›, (hk3 _ _ (by omega)).trans ‹_›, (hk3 _ _ (by omega)).trans ‹_›, Nat.le_trans ‹_› hb3.size, on ‹_› ‹_› hb3⟩) | go_keep)
    ((first
    | (go_at_call 51; refine (room_i _ _ _ _ (by omega) (by omega)).mono ?_; rintro e w3 ⟨rfl, hb3⟩; obtain ⟨hk3, hf3⟩ := kept hb3)
    | fail))
  obtain ⟨x0', x1', x2', _, _, _, _, bw⟩ := ‹_ ∧ _ ∧ _ ∧ _ ∧ _ ∧ _ ∧ _ ∧ Below w2.heap.size w2 w3›
  have B3 : Below w.heap.size w w3 := on B2 B2.size bw
  have H3 := h.kept B3
  clear x0 x1 x2 y0 y1 y2 hk3 hf3 bb
  go_wp2_with fail
  refine (lay_any H3 i l k p hg hfit).mono ?_
  rintro e w4 ⟨rfl, H4, E4⟩
  go_wp2
  go_ret2
  exact ⟨rfl, H4, (Else.of_below B3).trans E4⟩

set_option maxHeartbeats 2000000 in
theorem split_rest {w : World} {g gw gb : Nat} {zs : List Int} {top : Nat} {bs : List Bool} (h : HeapAt w g gw gb zs top bs) (i : Nat) (k p : Int) (l : Nat) (hi : i < top) (hb : bs.getD i false = true) (n : Int) (hn : zs.getD i 0 = n) (hh : headB n = true) (hk : n % 16 = 15) (hg : goodB k l p = true) (htop : i + 1 + lenOf n ≤ top) (m : Nat) (hf : n / 65536 = l + 1 + m) :
    Calls Try.prog 49 #[.pointer (some ⟨g, 0, none⟩), .int .i64 i, .agg #[.int .i64 k, .int .i64 l, .int .i64 p]] w fun e w' =>
      e = .returned (.tuple #[.int .i64 ((i + (1 + l) : Nat) : Int), .int .i64 0]) ∧
        HeapAt w' g gw gb (laid (laid zs i l (packW k l p)) (i + (1 + l)) m (packW 15 m 0)) top ((bs.set i true).set (i + (1 + l)) true) ∧ Else g gw gb w w' := by
  have hk' : (n % 16 != 15) = false := by simp [hk]
  have HH : HeapAt (w.alloc (.cells #[.int .i64 k, .int .i64 l, .int .i64 p] 40)) g gw gb zs top bs := h.alloc _
  have HN := Lib.hid hn
  have HB := Lib.hid hb
  have l0 : (0 : Int) ≤ (l : Int) := by omega
  have hfit : i + (1 + l) ≤ zs.length := by
    have := h.fits; unfold lenOf at htop; omega
  have l1 := ((good_iff k l p).1 hg).2.2.2.1
  have q0 : 0 ≤ n / 65536 := by have := head_nn hh; omega
  have q1 : n / 65536 ≤ 4095 := by have := len_le hh; unfold lenOf at this; omega
  have HF := Lib.hid hf
  clear hn hb hk hf
  go_enter Try.func49, Try.ntmps49
  go_wp2_with fail
  refine (head_yes HH i hi HB.out n HN.out hh).mono ?_
  rintro e w1 ⟨rfl, hb1⟩
  have B1 : Below w.heap.size w w1 := on ((Below.refl _ _).alloc (Nat.le_refl _) _) (by simp) hb1
  have box1 := (Lies.new w 40 [.int .i64 k, .int .i64 l, .int .i64 p]).below hb1 (by simp)
  have x0 : w1.cell? ⟨w.heap.size, 0, none⟩ = some (.int .i64 k) := box1.cell 0
  have x1 : w1.cell? ⟨w.heap.size, 1, none⟩ = some (.int .i64 l) := box1.cell 1
  have x2 : w1.cell? ⟨w.heap.size, 2, none⟩ = some (.int .i64 p) := box1.cell 2
  have z1 := box1.lt
  generalize hq0 : n / 65536 = q at *
  have hq1 := Lib.hid hq0
  clear hq0
  generalize n % 65536 / 16 = r at *
  generalize n % 16 = s at *
  go_wp2_with fail
  refine (mayBe_b k l p _ true hg).mono ?_
  rintro e w2 ⟨rfl, hb2⟩
  have B2 : Below w.heap.size w w2 := on (B1.alloc B1.size _) (by simp; omega) hb2
  have old2 := (Lies.new w1 40 [.int .i64 s, .int .i64 q, .int .i64 r]).below hb2 (by simp)
  have box2 := (box1.alloc (.cells #[.int .i64 s, .int .i64 q, .int .i64 r] 40)).below hb2 (by simp; omega)
  clear x0 x1 x2 hb1 hb2 B1 box1
  have x0 : w2.cell? ⟨w.heap.size, 0, none⟩ = some (.int .i64 k) := box2.cell 0
  have x1 : w2.cell? ⟨w.heap.size, 1, none⟩ = some (.int .i64 l) := box2.cell 1
  have x2 : w2.cell? ⟨w.heap.size, 2, none⟩ = some (.int .i64 p) := box2.cell 2
  have y0 : w2.cell? ⟨w1.heap.size, 0, none⟩ = some (.int .i64 s) := old2.cell 0
  have y1 : w2.cell? ⟨w1.heap.size, 1, none⟩ = some (.int .i64 q) := old2.cell 1
  have y2 : w2.cell? ⟨w1.heap.size, 2, none⟩ = some (.int .i64 r) := old2.cell 2
  have z2 := box2.lt
  have z3 := old2.lt
  have b0 : IntKind.i64.wrap (1 + q - (1 + l)) = 1 + q - (1 + l) := IntWalk.i64_in _ (by omega)
  have b1 : decide (1 + q - (1 + (l : Int)) < 0) = false := by have := HF.out; simp; omega
  have b2 : (1 + q - (1 + (l : Int)) == 0) = false := by have := HF.out; rw [beq_eq_false_iff_ne]; omega
  have bb : Below w2.heap.size w2 w2.drew := (Below.refl _ _).drew
  go_wp2_with fail
  go_region_held3 (fun W => W.cell? ⟨w.heap.size, 0, none⟩ = some (.int .i64 k) ∧ W.cell? ⟨w.heap.size, 1, none⟩ = some (.int .i64 l) ∧ W.cell? ⟨w.heap.size, 2, none⟩ = some (.int .i64 p) ∧ W.cell? ⟨w1.heap.size, 0, none⟩ = some (.int .i64 s) ∧ W.cell? ⟨w1.heap.size, 1, none⟩ = some (.int .i64 q) ∧ W.cell? ⟨w1.heap.size, 2, none⟩ = some (.int .i64 r) ∧ w2.heap.size ≤ W.heap.size ∧ Below w2.heap.size w2 W)
    (first | (go_split_ands; exact ⟨(hk3 _ _ (by omega)).trans ‹_›, (hk3 _ _ (by omega)).trans ‹_›, (hk3 _ _ (by omega)).trans ‹_›, (hk3 _ _ (by omega)).trans ‹_›, (hk3 _ _ (by omega)).trans ‹_›, (hk3 _ _ (by omega)).trans ‹_›, Nat.le_trans ‹_› hb3.size, on ‹_› ‹_› hb3⟩) | go_keep)
    ((first
    | (go_at_call 51; refine (room_i _ _ _ _ (by omega) (by omega)).mono ?_; rintro e w3 ⟨rfl, hb3⟩; obtain ⟨hk3, hf3⟩ := kept hb3)
    | fail))
  obtain ⟨x0', x1', x2', _, _, _, _, bw⟩ := ‹_ ∧ _ ∧ _ ∧ _ ∧ _ ∧ _ ∧ _ ∧ Below w2.heap.size w2 w3›
  have B3 : Below w.heap.size w w3 := on B2 B2.size bw
  have H3 := h.kept B3
  clear x0 x1 x2 y0 y1 y2 hk3 hf3 bb
  have box3 := box2.below bw z2
  go_wp2_with fail
  refine (lay_any H3 i l k p hg hfit).mono ?_
  rintro e w4 ⟨rfl, H4, E4⟩
  have box4 := E4.lies box3 (by have := h.own.lt; omega) (by have := h.words.lt; omega) (by have := h.begins.lt; omega)
  have E04 := (Else.of_below (g := g) (gw := gw) (gb := gb) B3).trans E4
  clear x0' x1' x2' E4 H3 B3 bw
  have x0 : w4.cell? ⟨w.heap.size, 0, none⟩ = some (.int .i64 k) := box4.cell 0
  have x1 : w4.cell? ⟨w.heap.size, 1, none⟩ = some (.int .i64 l) := box4.cell 1
  have x2 : w4.cell? ⟨w.heap.size, 2, none⟩ = some (.int .i64 p) := box4.cell 2
  go_wp2_with fail
  refine (room_i _ _ _ _ l0 l1).mono ?_
  rintro e w5 ⟨rfl, hb5⟩
  have H5 := H4.kept hb5
  have E05 := E04.trans (Else.of_below hb5)
  have hm := h.most
  have hqq : q ≤ 4095 := q1
  have i9 : i ≤ 65536 := by have := h.fits; omega
  have hmm : lenOf n = l + 1 + m := by unfold lenOf; rw [hq1.out]; have := HF.out; omega
  have hq' := HF.out
  have gm : goodB 15 (m : Int) 0 = true := good_yes (by omega)
  have hll := laid_length zs i l (packW k l p) hfit
  have hfit2 : i + (1 + l) + (1 + m) ≤ (laid zs i l (packW k l p)).length := by rw [hll]; have := h.fits; omega
  have e1 : ((i : Int) + (1 + (l : Int))) = ((i + (1 + l) : Nat) : Int) := by omega
  have e2 : (1 + q - (1 + (l : Int)) - 1) = ((m : Nat) : Int) := by omega
  have L5 := lay_any H5 (i + (1 + l)) m 15 0 gm hfit2
  rw [← e1, ← e2] at L5
  have HL5 := Lib.hid L5
  have E1 := Lib.hid e1
  have E2 := Lib.hid e2
  clear hmm hq' hll e1 e2 L5
  go_wp2_with fail
  refine HL5.out.mono ?_
  rintro e w6 ⟨rfl, H6, E6⟩
  rw [E2.out] at H6
  have HH6 := Lib.hid H6
  clear H6
  go_wp2
  go_ret2
  exact ⟨by rw [← E1.out]; rfl, HH6.out, E05.trans E6⟩
end Go.Proofs.Ytibfhpbklnpknaa

namespace Go.Proofs.Ytibfhpbklnpknaa
open Go.RowKit
set_option linter.unusedVariables false

theorem HeapAt.put {w : World} {g gw gb : Nat} {zs : List Int} {top : Nat} {bs : List Bool} (h : HeapAt w g gw gb zs top bs) (j : Nat) (v : Int) : HeapAt (w.setCell ⟨gw, j, none⟩ (.int .i64 v)) g gw gb (zs.set j v) top bs := by
  refine ⟨?_, ?_, h.begins.far (h.begins.apart h.words (by decide)) _, by simpa using h.same, by simpa using h.some_, by simpa using h.most, by simpa using h.fits⟩
  · have := h.own.far (p := ⟨gw, j, none⟩) (h.own.apart h.words (by decide)) (.int .i64 v)
    simpa using this
  · have := h.words.set j (.int .i64 v)
    simpa [List.map_set] using this
theorem put_else {g gw gb : Nat} (w : World) (j : Nat) (u : Value) : Else g gw gb w (w.setCell ⟨gw, j, none⟩ u) :=
  ⟨rfl, rfl, rfl, by simp [World.setCell], fun k hk h1 h2 h3 => Below.heap_setCell _ _ _ _ h2⟩

end Go.Proofs.Ytibfhpbklnpknaa

namespace Go.Proofs.Ytibfhpbklnpknaa
open Go.RowKit
set_option linter.unusedVariables false
set_option linter.unusedSimpArgs false

theorem noted_length (obs : List Ob) (n : Nat) : (noted obs n).length = (flat obs).length + n := by simp [noted, marks_length]

theorem marks_at : ∀ (obs : List Ob) (a : Nat), (marks obs).getD a false = true → ∃ pre o post, obs = pre ++ o :: post ∧ a = (flat pre).length
  | [], a, h => by simp [marks] at h
  | o :: l, a, h => by
    rw [marks_cons] at h
    rcases Nat.eq_zero_or_pos a with h0 | h0
    · exact ⟨[], o, l, rfl, by simp [h0, flat_nil]⟩
    · obtain ⟨b, rfl⟩ : ∃ b, a = b + 1 := ⟨a - 1, by omega⟩
      rw [List.getD_cons_succ] at h
      by_cases hb : b < o.2.length
      · simp [List.getD, List.getElem?_append, hb] at h
      · have e : (List.replicate o.2.length false ++ marks l).getD b false = (marks l).getD (b - o.2.length) false := by
          simp [List.getD, List.getElem?_append, hb]
        rw [e] at h
        obtain ⟨pre, x, post, e1, e2⟩ := marks_at l _ h
        exact ⟨o :: pre, x, post, by rw [e1]; rfl, by rw [flat_cons]; simp; omega⟩

theorem marks_here (pre : List Ob) (o : Ob) (post : List Ob) : (marks (pre ++ o :: post)).getD (flat pre).length false = true := by
  rw [marks_append, marks_cons]
  simp [List.getD, List.getElem?_append, marks_length]

theorem noted_here (pre : List Ob) (o : Ob) (post : List Ob) (n : Nat) : (noted (pre ++ o :: post) n).getD (flat pre).length false = true := by
  have h := marks_here pre o post
  have hl : (flat pre).length < (marks (pre ++ o :: post)).length := by rw [marks_length, flat_append, flat_cons]; simp
  unfold noted
  rw [show (marks (pre ++ o :: post) ++ List.replicate n false).getD (flat pre).length false = (marks (pre ++ o :: post)).getD (flat pre).length false by
    simp [List.getD, List.getElem?_append, hl]]
  exact h

theorem noted_at {obs : List Ob} {n a : Nat} (ha : a < (flat obs).length) (h : (noted obs n).getD a false = true) : ∃ pre o post, obs = pre ++ o :: post ∧ a = (flat pre).length := by
  refine marks_at obs a ?_
  unfold noted at h
  rw [← marks_length] at ha
  simpa [List.getD, List.getElem?_append, ha] using h

/-- Where something begins: an object stands there. -/
theorem start_ob {obs : List Ob} {n : Nat} {a : Int} (h : startB (flat obs).length (noted obs n) a = true) : ∃ pre o post, obs = pre ++ o :: post ∧ a = ((flat pre).length : Nat) := by
  obtain ⟨i, rfl, hi, hb⟩ := start_nat h
  obtain ⟨pre, o, post, e1, e2⟩ := noted_at hi hb
  exact ⟨pre, o, post, e1, by rw [e2]⟩
theorem ob_start (pre : List Ob) (o : Ob) (post : List Ob) (n : Nat) : startB (flat (pre ++ o :: post)).length (noted (pre ++ o :: post) n) ((flat pre).length : Nat) = true := by
  unfold startB
  rw [Int.toNat_natCast, noted_here]
  simp [flat_append, flat_cons]
  omega

theorem word_here (pre : List Ob) (o : Ob) (post : List Ob) (tail : List Int) : (flat (pre ++ o :: post) ++ tail).getD (flat pre).length 0 = o.1 := by
  rw [flat_append, flat_cons]
  simp [List.getD, List.getElem?_append]
theorem fits_here {pre : List Ob} {o : Ob} {post : List Ob} (h : Fine (pre ++ o :: post)) : (flat pre).length + 1 + lenOf o.1 ≤ (flat (pre ++ o :: post)).length := by
  have := h.right.head.2
  rw [flat_append, flat_cons]; simp; omega

theorem sound_of {obs : List Ob} (h : Fine obs) (tail : List Int) (n : Nat) : Sound (flat obs ++ tail) (flat obs).length (noted obs n) := by
  intro i hi hb
  obtain ⟨pre, o, post, rfl, rfl⟩ := noted_at hi hb
  rw [word_here]
  exact ⟨h.right.head.1, fits_here h⟩

/-- An object laid in another one's place. -/
theorem lay_here (pre : List Ob) (o : Ob) (post : List Ob) (tail : List Int) (l : Nat) (v : Int) (hl : o.2.length = l) :
    laid (flat (pre ++ o :: post) ++ tail) (flat pre).length l v = flat (pre ++ (v, List.replicate l 0) :: post) ++ tail := by
  unfold laid cleared
  simp only [flat_append, flat_cons]
  subst hl
  have e1 : (flat pre ++ o.1 :: (o.2 ++ flat post) ++ tail).take (flat pre).length = flat pre := by simp
  have e2 : (flat pre ++ o.1 :: (o.2 ++ flat post) ++ tail).drop ((flat pre).length + (1 + o.2.length)) = flat post ++ tail := by
    rw [List.append_assoc, Nat.add_comm 1, List.drop_append, Nat.add_sub_cancel_left]
    simp [List.drop_append]
  rw [e1, e2, List.set_append_right _ _ (Nat.le_refl _), Nat.sub_self, Nat.add_comm 1, List.replicate_succ]
  simp

/-- An object laid in a longer one's place, and a second one behind it. -/
theorem lay_two (pre : List Ob) (o : Ob) (post : List Ob) (tail : List Int) (l m : Nat) (v u : Int) (hl : o.2.length = l + 1 + m) :
    laid (laid (flat (pre ++ o :: post) ++ tail) (flat pre).length l v) ((flat pre).length + (1 + l)) m u = flat (pre ++ (v, List.replicate l 0) :: (u, List.replicate m 0) :: post) ++ tail := by
  obtain ⟨n, ws⟩ := o
  simp only at hl
  have hs : ws = ws.take l ++ (ws.drop l).head?.toList ++ ws.drop (l + 1) := by
    have h1 : (ws.drop l) = (ws.drop l).head?.toList ++ ws.drop (l + 1) := by
      rw [List.head?_drop, List.getElem?_eq_getElem (by omega), Option.toList_some]
      exact List.drop_eq_getElem_cons (by omega)
    rw [List.append_assoc, ← h1, List.take_append_drop]
  obtain ⟨x, hx⟩ : ∃ x, (ws.drop l).head? = some x := ⟨ws[l]'(by omega), by rw [List.head?_drop, List.getElem?_eq_getElem (by omega)]⟩
  have e0 : flat (pre ++ (n, ws) :: post) = flat (pre ++ (n, ws.take l) :: (x, ws.drop (l + 1)) :: post) := by
    simp only [flat_append, flat_cons]
    rw [hx] at hs
    conv => lhs; rw [hs]
    simp
  rw [e0, lay_here _ _ _ _ _ _ (by simp; omega)]
  have e1 : (flat pre).length + (1 + l) = (flat (pre ++ [(v, List.replicate l 0)])).length := by simp [flat_append, flat_cons, flat_nil]; omega
  have e2 : pre ++ (v, List.replicate l 0) :: (x, ws.drop (l + 1)) :: post = (pre ++ [(v, List.replicate l 0)]) ++ (x, ws.drop (l + 1)) :: post := by simp
  rw [e1, e2, lay_here _ _ _ _ _ _ (by simp; omega)]
  simp

theorem set_here (pre : List Ob) (o : Ob) (post : List Ob) (tail : List Int) (f : Nat) (v : Int) (hf : f < o.2.length) :
    (flat (pre ++ o :: post) ++ tail).set ((flat pre).length + 1 + f) v = flat (pre ++ (o.1, o.2.set f v) :: post) ++ tail := by
  simp only [flat_append, flat_cons]
  rw [List.append_assoc, List.set_append_right _ _ (by omega)]
  have : (flat pre).length + 1 + f - (flat pre).length = f + 1 := by omega
  rw [this, List.cons_append, List.set_cons_succ, List.append_assoc, List.set_append_left _ _ hf]
  simp

/-- One object more, at the top. -/
theorem lay_top (obs : List Ob) (tail : List Int) (l : Nat) (v : Int) (hl : 1 + l ≤ tail.length) :
    laid (flat obs ++ tail) (flat obs).length l v = flat (obs ++ [(v, List.replicate l 0)]) ++ tail.drop (1 + l) := by
  unfold laid cleared
  have e1 : (flat obs ++ tail).take (flat obs).length = flat obs := by simp
  have e2 : (flat obs ++ tail).drop ((flat obs).length + (1 + l)) = tail.drop (1 + l) := by rw [List.drop_append]; simp
  rw [e1, e2, List.set_append_right _ _ (Nat.le_refl _), Nat.sub_self, Nat.add_comm 1, List.replicate_succ]
  simp [flat_append, flat_cons, flat_nil]

theorem set_true {bs : List Bool} {i : Nat} (h : bs.getD i false = true) : bs.set i true = bs := by
  refine List.ext_getElem (by simp) fun j h1 h2 => ?_
  rw [List.getElem_set]
  split
  · next e => subst e; simpa [List.getD, h2] using h.symm
  · rfl

theorem marks_swap (pre : List Ob) (o x : Ob) (post : List Ob) (n : Nat) (h : o.2.length = x.2.length) : noted (pre ++ o :: post) n = noted (pre ++ x :: post) n := by
  simp [noted, marks_append, marks_cons, h]
theorem marks_two (pre : List Ob) (o : Ob) (post : List Ob) (n l m : Nat) (v u : Int) (hl : o.2.length = l + 1 + m) :
    (noted (pre ++ o :: post) n).set ((flat pre).length + (1 + l)) true = noted (pre ++ (v, List.replicate l 0) :: (u, List.replicate m 0) :: post) n := by
  have hm : (marks pre).length = (flat pre).length := marks_length pre
  simp only [noted, marks_append, marks_cons, List.append_assoc, List.cons_append, List.length_replicate]
  rw [List.set_append_right _ _ (by omega), hm]
  have : (flat pre).length + (1 + l) - (flat pre).length = l + 1 := by omega
  rw [this, List.set_cons_succ, hl]
  have e : List.replicate (l + 1 + m) false = List.replicate l false ++ (false :: List.replicate m false) := by
    rw [Nat.add_assoc, ← List.replicate_append_replicate, Nat.add_comm 1 m, List.replicate_succ]
  rw [e, List.append_assoc, List.set_append_right _ _ (by simp)]
  simp
theorem marks_top (obs : List Ob) (n l : Nat) (v : Int) (hl : 1 + l ≤ n) : (noted obs n).set (flat obs).length true = noted (obs ++ [(v, List.replicate l 0)]) (n - (1 + l)) := by
  have := noted_next (pre := obs) (m := 0) (n := n) (o := (v, List.replicate l 0)) rfl (by simp; omega)
  simpa using this
end Go.Proofs.Ytibfhpbklnpknaa

namespace Go.Proofs.Ytibfhpbklnpknaa
open Go.RowKit
set_option linter.unusedVariables false
set_option linter.unusedSimpArgs false

/-- The object that begins at an address, what stands ahead of it, and behind it. -/
def look : List Ob → Int → Option (List Ob × Ob × List Ob)
  | [], _ => none
  | o :: l, a => if a = 0 then some ([], o, l) else (look l (a - (1 + o.2.length))).map fun x => (o :: x.1, x.2.1, x.2.2)

theorem look_here : ∀ (pre : List Ob) (o : Ob) (post : List Ob), look (pre ++ o :: post) ((flat pre).length : Nat) = some (pre, o, post)
  | [], o, post => by simp [look, flat_nil]
  | x :: pre, o, post => by
    have ih := look_here pre o post
    rw [List.cons_append, look, flat_cons, if_neg (by simp; omega)]
    have e : (((x.1 :: (x.2 ++ flat pre)).length : Nat) : Int) - (1 + (x.2.length : Int)) = ((flat pre).length : Nat) := by simp; omega
    rw [e, ih]
    rfl
theorem look_some : ∀ (obs : List Ob) (a : Int) (x : List Ob × Ob × List Ob), look obs a = some x → obs = x.1 ++ x.2.1 :: x.2.2 ∧ a = ((flat x.1).length : Nat)
  | [], a, x, h => by simp [look] at h
  | o :: l, a, x, h => by
    rw [look] at h
    split at h
    · next h0 =>
      simp at h
      subst h
      exact ⟨rfl, by simp [h0, flat_nil]⟩
    · rw [Option.map_eq_some_iff] at h
      obtain ⟨y, h1, rfl⟩ := h
      obtain ⟨e1, e2⟩ := look_some l _ _ h1
      refine ⟨by rw [List.cons_append, ← e1], ?_⟩
      simp only [flat_cons]
      simp
      omega
theorem look_none {obs : List Ob} {a : Int} (n : Nat) (h : look obs a = none) : startB (flat obs).length (noted obs n) a = false := by
  cases hs : startB (flat obs).length (noted obs n) a with
  | false => rfl
  | true =>
    obtain ⟨pre, o, post, rfl, rfl⟩ := start_ob hs
    rw [look_here] at h
    cases h

/-- Is a word neither 0 nor an object's? -/
def astrayO (obs : List Ob) (v : Int) : Bool := !(v == 0) && (match look obs (v - 1) with | none => true | some x => x.2.1.1 % 16 == 15)
theorem astray_eq (obs : List Ob) (tail : List Int) (n : Nat) (v : Int) : astrayB (flat obs ++ tail) (flat obs).length (noted obs n) v = astrayO obs v := by
  unfold astrayB astrayO
  congr 1
  cases hl : look obs (v - 1) with
  | none => rw [look_none n hl]; rfl
  | some x =>
    obtain ⟨pre, o, post⟩ := x
    obtain ⟨rfl, e⟩ := look_some _ _ _ hl
    simp only at e ⊢
    rw [e, ob_start, Int.toNat_natCast, word_here]
    rfl

/-- A heap of the program: objects one behind the other, and what stands from the top on. -/
structure St (w : World) (g gw gb : Nat) (obs : List Ob) (tail : List Int) : Prop where
  fine : Fine obs
  lies : HeapAt w g gw gb (flat obs ++ tail) (flat obs).length (noted obs tail.length)

theorem St.kept {w w' : World} {g gw gb : Nat} {obs : List Ob} {tail : List Int} (h : St w g gw gb obs tail) (hb : Below w.heap.size w w') : St w' g gw gb obs tail := ⟨h.fine, h.lies.kept hb⟩
theorem St.sound {w : World} {g gw gb : Nat} {obs : List Ob} {tail : List Int} (h : St w g gw gb obs tail) : Sound (flat obs ++ tail) (flat obs).length (noted obs tail.length) := sound_of h.fine _ _

def zeros (l : Int) : List Int := List.replicate l.toNat 0

def placeF (obs : List Ob) (tail : List Int) (k l p : Int) : Int × Int × List Ob × List Int :=
  if goodB k l p = false then (0, 1, obs, tail) else if tail.length < 1 + l.toNat then (0, 6, obs, tail)
  else (((flat obs).length : Nat), 0, obs ++ [(packW k l p, zeros l)], tail.drop (1 + l.toNat))

theorem place_st {w : World} {g gw gb : Nat} {obs : List Ob} {tail : List Int} (S : St w g gw gb obs tail) (k l p : Int) :
    Calls Try.prog 48 #[.pointer (some ⟨g, 0, none⟩), .agg #[.int .i64 k, .int .i64 l, .int .i64 p]] w fun e w' =>
      e = .returned (.tuple #[.int .i64 (placeF obs tail k l p).1, .int .i64 (placeF obs tail k l p).2.1]) ∧ St w' g gw gb (placeF obs tail k l p).2.2.1 (placeF obs tail k l p).2.2.2 ∧ Else g gw gb w w' := by
  unfold placeF
  cases hg : goodB k l p with
  | false =>
    rw [if_pos rfl]
    exact (place_bad S.lies k l p hg).mono fun e w' ⟨he, hb⟩ => ⟨he, S.kept hb, Else.of_below hb⟩
  | true =>
    rw [if_neg (by simp)]
    obtain ⟨l, rfl⟩ := Int.eq_ofNat_of_zero_le ((good_iff k l p).1 hg).2.2.1
    rw [Int.toNat_natCast]
    by_cases hf : tail.length < 1 + l
    · rw [if_pos hf]
      exact (place_full S.lies k p l hg (by simp; omega)).mono fun e w' ⟨he, hb⟩ => ⟨he, S.kept hb, Else.of_below hb⟩
    · rw [if_neg hf]
      refine (place_yes S.lies k p l hg (by simp; omega)).mono fun e w' ⟨he, H, E⟩ => ⟨he, ⟨S.fine.append (Fine.one (head_pack hg).1 ?_), ?_⟩, E⟩
      · simp only [zeros, lenOf, (head_pack hg).2.2.1]; simp
      · rw [lay_top _ _ _ _ (by omega), marks_top _ _ l (packW k l p) (by omega)] at H
        have e1 : (flat (obs ++ [(packW k l p, zeros l)])).length = (flat obs).length + (1 + l) := by simp [flat_append, flat_cons, flat_nil, zeros]; omega
        have e2 : (tail.drop (1 + l)).length = tail.length - (1 + l) := by simp
        rw [e1, e2]
        simpa [zeros] using H

def splitF (obs : List Ob) (a k l p : Int) : Int × Int × List Ob :=
  match look obs a with
  | none => (0, 3, obs)
  | some x =>
    if x.2.1.1 % 16 ≠ 15 then (0, 2, obs) else if goodB k l p = false then (0, 1, obs) else if x.2.1.1 / 65536 < l then (0, 6, obs)
    else if x.2.1.1 / 65536 = l then (0, 0, x.1 ++ (packW k l p, zeros l) :: x.2.2)
    else (a + (1 + l), 0, x.1 ++ (packW k l p, zeros l) :: (packW 15 (x.2.1.1 / 65536 - l - 1) 0, zeros (x.2.1.1 / 65536 - l - 1)) :: x.2.2)

theorem split_st {w : World} {g gw gb : Nat} {obs : List Ob} {tail : List Int} (S : St w g gw gb obs tail) (a k l p : Int) :
    Calls Try.prog 49 #[.pointer (some ⟨g, 0, none⟩), .int .i64 a, .agg #[.int .i64 k, .int .i64 l, .int .i64 p]] w fun e w' =>
      e = .returned (.tuple #[.int .i64 (splitF obs a k l p).1, .int .i64 (splitF obs a k l p).2.1]) ∧ St w' g gw gb (splitF obs a k l p).2.2 tail ∧ Else g gw gb w w' := by
  unfold splitF
  cases hl : look obs a with
  | none => exact (split_addr S.lies a k l p (look_none _ hl)).mono fun e w' ⟨he, hb⟩ => ⟨he, S.kept hb, Else.of_below hb⟩
  | some x =>
    obtain ⟨pre, o, post⟩ := x
    obtain ⟨e0, rfl⟩ := look_some _ _ _ hl
    simp only at e0 ⊢
    subst e0
    have hh := S.fine.right.head.1
    have hlen := S.fine.right.head.2
    have hi : (flat pre).length < (flat (pre ++ o :: post)).length := by simp [flat_append, flat_cons]
    have hb := noted_here pre o post tail.length
    have hn := word_here pre o post tail
    by_cases h1 : o.1 % 16 ≠ 15
    · rw [if_pos h1]
      exact (split_kind S.lies _ k l p hi hb o.1 hn hh h1).mono fun e w' ⟨he, hb⟩ => ⟨he, S.kept hb, Else.of_below hb⟩
    · rw [if_neg h1]
      have h1' : o.1 % 16 = 15 := by omega
      cases hg : goodB k l p with
      | false =>
        rw [if_pos rfl]
        exact (split_bad S.lies _ k l p hi hb o.1 hn hh h1' hg).mono fun e w' ⟨he, hb⟩ => ⟨he, S.kept hb, Else.of_below hb⟩
      | true =>
        rw [if_neg (by simp)]
        by_cases h2 : o.1 / 65536 < l
        · rw [if_pos h2]
          exact (split_full S.lies _ k l p hi hb o.1 hn hh h1' hg h2).mono fun e w' ⟨he, hb⟩ => ⟨he, S.kept hb, Else.of_below hb⟩
        · rw [if_neg h2]
          obtain ⟨l, rfl⟩ := Int.eq_ofNat_of_zero_le ((good_iff k l p).1 hg).2.2.1
          have hfine1 : headB (packW k l p) = true ∧ (zeros (l : Int)).length = lenOf (packW k l p) := ⟨(head_pack hg).1, by simp only [zeros, lenOf, (head_pack hg).2.2.1]; simp⟩
          have hp := fits_here S.fine
          by_cases h3 : o.1 / 65536 = l
          · rw [if_pos h3]
            have hll : o.2.length = l := by rw [hlen]; unfold lenOf; omega
            refine (split_even S.lies _ k p l hi hb o.1 hn hh h1' hg hp h3).mono fun e w' ⟨he, H, E⟩ => ⟨he, ⟨S.fine.left.append (fun y hy => ?_), ?_⟩, E⟩
            · rcases List.mem_cons.1 hy with rfl | hy
              · exact hfine1
              · exact S.fine.right.tail y hy
            · rw [lay_here _ _ _ _ _ _ hll, set_true hb, marks_swap pre o (packW k l p, zeros l) post _ (by simp [zeros, hll])] at H
              have e1 : (flat (pre ++ o :: post)).length = (flat (pre ++ (packW k l p, zeros l) :: post)).length := by simp [flat_append, flat_cons, zeros, hll]
              rw [e1] at H
              exact H
          · rw [if_neg h3]
            obtain ⟨m, hm⟩ : ∃ m : Nat, o.1 / 65536 = l + 1 + m := ⟨(o.1 / 65536 - l - 1).toNat, by omega⟩
            have em : o.1 / 65536 - l - 1 = m := by omega
            rw [em]
            have hll : o.2.length = l + 1 + m := by rw [hlen]; unfold lenOf; omega
            have h4 := len_le hh
            have gm : goodB 15 (m : Int) 0 = true := good_yes (by unfold lenOf at h4; omega)
            have hfine2 : headB (packW 15 m 0) = true ∧ (zeros (m : Int)).length = lenOf (packW 15 m 0) := ⟨(head_pack gm).1, by simp only [zeros, lenOf, (head_pack gm).2.2.1]; simp⟩
            refine (split_rest S.lies _ k p l hi hb o.1 hn hh h1' hg hp m hm).mono fun e w' ⟨he, H, E⟩ => ⟨?_, ⟨S.fine.left.append (fun y hy => ?_), ?_⟩, E⟩
            · rw [he]
              have : (((flat pre).length + (1 + l) : Nat) : Int) = ((flat pre).length : Nat) + (1 + (l : Int)) := by omega
              rw [this]
            · rcases List.mem_cons.1 hy with rfl | hy
              · exact hfine1
              · rcases List.mem_cons.1 hy with rfl | hy
                · exact hfine2
                · exact S.fine.right.tail y hy
            · rw [lay_two _ _ _ _ _ _ _ _ hll, set_true hb, marks_two pre o post _ l m (packW k l p) (packW 15 m 0) hll] at H
              have e1 : (flat (pre ++ o :: post)).length = (flat (pre ++ (packW k l p, zeros l) :: (packW 15 m 0, zeros m) :: post)).length := by simp [flat_append, flat_cons, zeros, hll]; omega
              rw [e1] at H
              simpa [zeros] using H

def writeF (obs : List Ob) (a f v : Int) : Int × List Ob :=
  match look obs a with
  | none => (3, obs)
  | some x =>
    if ¬ (0 ≤ f ∧ f < x.2.1.1 / 65536) ∨ x.2.1.1 % 16 = 15 then (4, obs) else if f < x.2.1.1 % 65536 / 16 ∧ astrayO obs v = true then (5, obs)
    else (0, x.1 ++ (x.2.1.1, x.2.1.2.set f.toNat v) :: x.2.2)

end Go.Proofs.Ytibfhpbklnpknaa

namespace Go.Proofs.Ytibfhpbklnpknaa
open Go.RowKit
set_option linter.unusedVariables false
set_option linter.unusedSimpArgs false

/-- What is done: its seven numbers. -/
structure Deed where
  kind : Int
  k : Int
  l : Int
  p : Int
  at_ : Int
  field : Int
  word : Int

def Deed.cells (d : Deed) : List Value := [.int .u8 d.kind, .int .i64 d.k, .int .i64 d.l, .int .i64 d.p, .int .i64 d.at_, .int .i64 d.field, .int .i64 d.word]

/-- A slice of deeds reads as a list. -/
def Deeds (w : World) (A : Option Addr) (ds : List Deed) : Prop :=
  ∀ i d, ds[i]? = some d → ∃ ad, A = some ad ∧ ad.block < w.heap.size ∧ ∀ j v, d.cells[j]? = some v → w.cell? (ad.add (i * 7 + j)) = some v

theorem Deeds.kept {w w' : World} {A : Option Addr} {ds : List Deed} (h : Deeds w A ds) (hb : Below w.heap.size w w') : Deeds w' A ds := fun i d hd => by
  obtain ⟨ad, e, hl, hc⟩ := h i d hd
  exact ⟨ad, e, Nat.lt_of_lt_of_le hl hb.size, fun j v hv => (hb.cell (by rw [block_add]; exact hl)).trans (hc j v hv)⟩

theorem add_next (a : Addr) (n j : Nat) (hj : 0 < j) : a.add (n + j) = ⟨(a.add n).block, (a.add n).off + j, none⟩ := by
  unfold Addr.add
  rw [if_neg (by omega)]
  split <;> simp_all [Nat.add_assoc]

theorem Deeds.at_ {w : World} {A : Option Addr} {ds : List Deed} (h : Deeds w A ds) {i : Nat} (hi : i < ds.length) (wr : World) (hb : Below w.heap.size w wr) :
    ∃ ad, A = some ad ∧ wr.cell? (ad.add (i * 7)) = some (.int .u8 ds[i].kind) ∧ wr.cell? ⟨(ad.add (i * 7)).block, (ad.add (i * 7)).off + 1, none⟩ = some (.int .i64 ds[i].k) ∧
      wr.cell? ⟨(ad.add (i * 7)).block, (ad.add (i * 7)).off + 2, none⟩ = some (.int .i64 ds[i].l) ∧ wr.cell? ⟨(ad.add (i * 7)).block, (ad.add (i * 7)).off + 3, none⟩ = some (.int .i64 ds[i].p) ∧
      wr.cell? ⟨(ad.add (i * 7)).block, (ad.add (i * 7)).off + 4, none⟩ = some (.int .i64 ds[i].at_) ∧ wr.cell? ⟨(ad.add (i * 7)).block, (ad.add (i * 7)).off + 5, none⟩ = some (.int .i64 ds[i].field) ∧
      wr.cell? ⟨(ad.add (i * 7)).block, (ad.add (i * 7)).off + 6, none⟩ = some (.int .i64 ds[i].word) := by
  obtain ⟨ad, e, hl, hc⟩ := (h.kept hb) i ds[i] (List.getElem?_eq_getElem hi)
  refine ⟨ad, e, hc 0 _ rfl, ?_, ?_, ?_, ?_, ?_, ?_⟩
  all_goals rw [← add_next _ _ _ (by omega)]
  · exact hc 1 _ rfl
  · exact hc 2 _ rfl
  · exact hc 3 _ rfl
  · exact hc 4 _ rfl
  · exact hc 5 _ rfl
  · exact hc 6 _ rfl

/-- Each number fits. -/
def Deed.fit (d : Deed) : Prop := (0 ≤ d.kind ∧ d.kind ≤ 255) ∧ (-9223372036854775808 ≤ d.word ∧ d.word ≤ 9223372036854775807)

theorem split_keep {obs : List Ob} {a k l p : Int} (h : (splitF obs a k l p).2.1 ≠ 0) : (splitF obs a k l p).2.2 = obs := by
  unfold splitF at h ⊢
  cases hl : look obs a with
  | none => rfl
  | some x =>
    rw [hl] at h
    simp only at h ⊢
    by_cases h1 : x.2.1.1 % 16 ≠ 15
    · rw [if_pos h1]
    · rw [if_neg h1] at h ⊢
      by_cases h2 : goodB k l p = false
      · rw [if_pos h2]
      · rw [if_neg h2] at h ⊢
        by_cases h3 : x.2.1.1 / 65536 < l
        · rw [if_pos h3]
        · rw [if_neg h3] at h ⊢
          by_cases h4 : x.2.1.1 / 65536 = l
          · rw [if_pos h4] at h; exact absurd rfl h
          · rw [if_neg h4] at h; exact absurd rfl h
theorem split_len {obs : List Ob} {a k l p : Int} (hf : Fine obs) : (flat (splitF obs a k l p).2.2).length = (flat obs).length := by
  unfold splitF
  cases hl : look obs a with
  | none => rfl
  | some x =>
    obtain ⟨pre, o, post⟩ := x
    obtain ⟨rfl, _⟩ := look_some _ _ _ hl
    have hlen := hf.right.head.2
    simp only
    split
    · rfl
    · split
      · rfl
      · next hg =>
        have hg' : goodB k l p = true := by simpa using hg
        have l0 := ((good_iff k l p).1 hg').2.2.1
        split
        · rfl
        · split
          · next h1 h2 => simp [flat_append, flat_cons, zeros, hlen, lenOf, h2]
          · next h1 h2 =>
            simp [flat_append, flat_cons, zeros, hlen, lenOf]
            omega
theorem write_keep {obs : List Ob} {a f v : Int} (h : (writeF obs a f v).1 ≠ 0) : (writeF obs a f v).2 = obs := by
  unfold writeF at h ⊢
  cases hl : look obs a with
  | none => rfl
  | some x =>
    rw [hl] at h
    simp only at h ⊢
    split
    · rfl
    · next h1 =>
      rw [if_neg h1] at h
      split
      · rfl
      · next h2 => rw [if_neg h2] at h; exact absurd rfl h
theorem write_len {obs : List Ob} {a f v : Int} : (flat (writeF obs a f v).2).length = (flat obs).length := by
  unfold writeF
  cases hl : look obs a with
  | none => rfl
  | some x =>
    obtain ⟨pre, o, post⟩ := x
    obtain ⟨rfl, _⟩ := look_some _ _ _ hl
    simp only
    split
    · rfl
    · split
      · rfl
      · simp [flat_append, flat_cons]
theorem place_nil {obs : List Ob} {k l p : Int} : ((placeF obs [] k l p).2.1 = 1 ∨ (placeF obs [] k l p).2.1 = 6) ∧ (placeF obs [] k l p).2.2.1 = obs ∧ (placeF obs [] k l p).2.2.2 = [] := by
  unfold placeF
  split
  · exact ⟨.inl rfl, rfl, rfl⟩
  · rw [if_pos (by simp; omega)]
    exact ⟨.inr rfl, rfl, rfl⟩

theorem words_n {w : World} {g gw gb : Nat} {obs : List Ob} (S : St w g gw gb obs []) (N : Nat) (hN : (flat obs).length = N) :
    Calls Try.prog 24 #[.pointer (some ⟨g, 0, none⟩)] w fun e w' => e = .returned (.slice (some ⟨w.heap.size, 0, none⟩) N N) ∧ Lies w' w.heap.size 3 ((flat obs).map (Value.int .i64)) ∧ Below w.heap.size w w' := by
  subst hN
  have := words_any S.lies
  simpa using this
theorem top_n {w : World} {g gw gb : Nat} {obs : List Ob} {tail : List Int} (S : St w g gw gb obs tail) (N : Nat) (hN : (flat obs).length = N) :
    Calls Try.prog 23 #[.pointer (some ⟨g, 0, none⟩)] w fun e w' => e = .returned (.int .i64 (N : Int)) ∧ w = w' := by
  subst hN
  exact top_any S.lies
theorem ints_n (A B : Option Addr) (c d n m : Nat) (xs ys : List Int) (w : World) (hx : Row w A xs) (hy : Row w B ys) (hn : xs.length = n) (hm : ys.length = m) (h1 : n ≤ 65536) (h2 : m ≤ 65536) (b : Bool) (hb : decide (xs = ys) = b) :
    Calls Try.prog 39 #[.slice A n c, .slice B m d] w fun e w' => e = .returned (.bool b) ∧ Below w.heap.size w w' := by
  subst hn hm hb
  exact ints_any A B c d xs ys w hx hy h1 h2

end Go.Proofs.Ytibfhpbklnpknaa
