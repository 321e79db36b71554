/- What Split, Read and Write do. -/
import Derived.Test.YtibfhpbklnpknaaOf
namespace Go.Proofs.Ytibfhpbklnpknaa
open Go.RowKit
set_option linter.unusedVariables false

theorem hasField_b (k l p f : Int) (w : World) (b : Bool) (hb : decide (0 ≤ f ∧ f < l) = b) :
    Calls Try.prog 42 #[.agg #[.int .i64 k, .int .i64 l, .int .i64 p], .int .i64 f] w fun e w' => e = .returned (.bool b) ∧ Below w.heap.size w w' :=
  (hasField_any k l p f w).mono fun e w' ⟨he, hw⟩ => ⟨by rw [he, hb], by rw [hw]; exact (Below.refl _ _).alloc (Nat.le_refl _) _⟩

set_option maxHeartbeats 1000000 in
theorem split_addr {w : World} {g gw gb : Nat} {zs : List Int} {top : Nat} {bs : List Bool} (h : HeapAt w g gw gb zs top bs) (a k l p : Int) (hn : startB top bs a = false) :
    Calls Try.prog 49 #[.pointer (some ⟨g, 0, none⟩), .int .i64 a, .agg #[.int .i64 k, .int .i64 l, .int .i64 p]] w fun e w' =>
      e = .returned (.tuple #[.int .i64 0, .int .i64 3]) ∧ Below w.heap.size w w' := by
  go_enter Try.func49, Try.ntmps49
  go_wp2_with fail
  refine (head_no (h.alloc _) a (start_not hn)).mono ?_
  rintro e w1 ⟨rfl, hb1⟩
  have B1 : Below w.heap.size w w1 := on ((Below.refl _ _).alloc (Nat.le_refl _) _) (by simp) hb1
  go_wp2
  go_ret2
  exact ⟨rfl, B1.alloc B1.size _⟩

set_option maxHeartbeats 1000000 in
theorem split_kind {w : World} {g gw gb : Nat} {zs : List Int} {top : Nat} {bs : List Bool} (h : HeapAt w g gw gb zs top bs) (i : Nat) (k l p : Int) (hi : i < top) (hb : bs.getD i false = true) (n : Int) (hn : zs.getD i 0 = n) (hh : headB n = true) (hk : n % 16 ≠ 15) :
    Calls Try.prog 49 #[.pointer (some ⟨g, 0, none⟩), .int .i64 i, .agg #[.int .i64 k, .int .i64 l, .int .i64 p]] w fun e w' =>
      e = .returned (.tuple #[.int .i64 0, .int .i64 2]) ∧ Below w.heap.size w w' := by
  have hk' : (n % 16 != 15) = true := by simp [hk]
  have HH : HeapAt (w.alloc (.cells #[.int .i64 k, .int .i64 l, .int .i64 p] 40)) g gw gb zs top bs := h.alloc _
  have HN := Lib.hid hn
  have HB := Lib.hid hb
  clear hn hb hk
  go_enter Try.func49, Try.ntmps49
  go_wp2_with fail
  refine (head_yes HH i hi HB.out n HN.out hh).mono ?_
  rintro e w1 ⟨rfl, hb1⟩
  have B1 : Below w.heap.size w w1 := on ((Below.refl _ _).alloc (Nat.le_refl _) _) (by simp) hb1
  go_wp2
  go_ret2
  exact ⟨rfl, B1.alloc B1.size _⟩

theorem room_i (k l p : Int) (w : World) (h0 : 0 ≤ l) (h1 : l ≤ 4095) :
    Calls Try.prog 51 #[.agg #[.int .i64 k, .int .i64 l, .int .i64 p]] w fun e w' => e = .returned (.int .i64 (1 + l)) ∧ Below w.heap.size w w' :=
  (room_any k l p w h0 h1).mono fun e w' ⟨he, hw⟩ => ⟨he, by rw [hw]; exact (Below.refl _ _).alloc (Nat.le_refl _) _⟩

set_option maxHeartbeats 1000000 in
theorem split_bad {w : World} {g gw gb : Nat} {zs : List Int} {top : Nat} {bs : List Bool} (h : HeapAt w g gw gb zs top bs) (i : Nat) (k l p : Int) (hi : i < top) (hb : bs.getD i false = true) (n : Int) (hn : zs.getD i 0 = n) (hh : headB n = true) (hk : n % 16 = 15) (hg : goodB k l p = false) :
    Calls Try.prog 49 #[.pointer (some ⟨g, 0, none⟩), .int .i64 i, .agg #[.int .i64 k, .int .i64 l, .int .i64 p]] w fun e w' =>
      e = .returned (.tuple #[.int .i64 0, .int .i64 1]) ∧ Below w.heap.size w w' := by
  have hk' : (n % 16 != 15) = false := by simp [hk]
  have HH : HeapAt (w.alloc (.cells #[.int .i64 k, .int .i64 l, .int .i64 p] 40)) g gw gb zs top bs := h.alloc _
  have HN := Lib.hid hn
  have HB := Lib.hid hb
  clear hn hb hk
  go_enter Try.func49, Try.ntmps49
  go_wp2_with fail
  refine (head_yes HH i hi HB.out n HN.out hh).mono ?_
  rintro e w1 ⟨rfl, hb1⟩
  have B1 : Below w.heap.size w w1 := on ((Below.refl _ _).alloc (Nat.le_refl _) _) (by simp) hb1
  have box1 := (Lies.new w 40 [.int .i64 k, .int .i64 l, .int .i64 p]).below hb1 (by simp)
  have x0 : w1.cell? ⟨w.heap.size, 0, none⟩ = some (.int .i64 k) := box1.cell 0
  have x1 : w1.cell? ⟨w.heap.size, 1, none⟩ = some (.int .i64 l) := box1.cell 1
  have x2 : w1.cell? ⟨w.heap.size, 2, none⟩ = some (.int .i64 p) := box1.cell 2
  have z1 := box1.lt
  go_wp2_with fail
  refine (mayBe_b k l p _ false hg).mono ?_
  rintro e w2 ⟨rfl, hb2⟩
  go_wp2
  go_ret2
  exact ⟨rfl, on (B1.alloc B1.size _) (by simp; omega) hb2⟩

set_option maxHeartbeats 2000000 in
theorem split_full {w : World} {g gw gb : Nat} {zs : List Int} {top : Nat} {bs : List Bool} (h : HeapAt w g gw gb zs top bs) (i : Nat) (k l p : Int) (hi : i < top) (hb : bs.getD i false = true) (n : Int) (hn : zs.getD i 0 = n) (hh : headB n = true) (hk : n % 16 = 15) (hg : goodB k l p = true) (hf : n / 65536 < l) :
    Calls Try.prog 49 #[.pointer (some ⟨g, 0, none⟩), .int .i64 i, .agg #[.int .i64 k, .int .i64 l, .int .i64 p]] w fun e w' =>
      e = .returned (.tuple #[.int .i64 0, .int .i64 6]) ∧ Below w.heap.size w w' := by
  have hk' : (n % 16 != 15) = false := by simp [hk]
  have HH : HeapAt (w.alloc (.cells #[.int .i64 k, .int .i64 l, .int .i64 p] 40)) g gw gb zs top bs := h.alloc _
  have HN := Lib.hid hn
  have HB := Lib.hid hb
  have l0 := ((good_iff k l p).1 hg).2.2.1
  have l1 := ((good_iff k l p).1 hg).2.2.2.1
  have q0 : 0 ≤ n / 65536 := by have := head_nn hh; omega
  have q1 : n / 65536 ≤ 4095 := by have := len_le hh; unfold lenOf at this; omega
  clear hn hb hk
  go_enter Try.func49, Try.ntmps49
  go_wp2_with fail
  refine (head_yes HH i hi HB.out n HN.out hh).mono ?_
  rintro e w1 ⟨rfl, hb1⟩
  have B1 : Below w.heap.size w w1 := on ((Below.refl _ _).alloc (Nat.le_refl _) _) (by simp) hb1
  have box1 := (Lies.new w 40 [.int .i64 k, .int .i64 l, .int .i64 p]).below hb1 (by simp)
  have x0 : w1.cell? ⟨w.heap.size, 0, none⟩ = some (.int .i64 k) := box1.cell 0
  have x1 : w1.cell? ⟨w.heap.size, 1, none⟩ = some (.int .i64 l) := box1.cell 1
  have x2 : w1.cell? ⟨w.heap.size, 2, none⟩ = some (.int .i64 p) := box1.cell 2
  have z1 := box1.lt
  generalize n / 65536 = q at *
  generalize n % 65536 / 16 = r at *
  generalize n % 16 = s at *
  go_wp2_with fail
  refine (mayBe_b k l p _ true hg).mono ?_
  rintro e w2 ⟨rfl, hb2⟩
  have B2 : Below w.heap.size w w2 := on (B1.alloc B1.size _) (by simp; omega) hb2
  have old2 := (Lies.new w1 40 [.int .i64 s, .int .i64 q, .int .i64 r]).below hb2 (by simp)
  have box2 := (box1.alloc (.cells #[.int .i64 s, .int .i64 q, .int .i64 r] 40)).below hb2 (by simp; omega)
  clear x0 x1 x2 hb1 hb2 B1 box1
  have x0 : w2.cell? ⟨w.heap.size, 0, none⟩ = some (.int .i64 k) := box2.cell 0
  have x1 : w2.cell? ⟨w.heap.size, 1, none⟩ = some (.int .i64 l) := box2.cell 1
  have x2 : w2.cell? ⟨w.heap.size, 2, none⟩ = some (.int .i64 p) := box2.cell 2
  have y0 : w2.cell? ⟨w1.heap.size, 0, none⟩ = some (.int .i64 s) := old2.cell 0
  have y1 : w2.cell? ⟨w1.heap.size, 1, none⟩ = some (.int .i64 q) := old2.cell 1
  have y2 : w2.cell? ⟨w1.heap.size, 2, none⟩ = some (.int .i64 r) := old2.cell 2
  have z2 := box2.lt
  have z3 := old2.lt
  have b0 : IntKind.i64.wrap (1 + q - (1 + l)) = 1 + q - (1 + l) := IntWalk.i64_in _ (by omega)
  have b1 : decide (1 + q - (1 + l) < 0) = true := by simp; omega
  have bb : Below w2.heap.size w2 w2.drew := (Below.refl _ _).drew
  go_wp2_with fail
  go_region_held3 (fun W => W.cell? ⟨w.heap.size, 0, none⟩ = some (.int .i64 k) ∧ W.cell? ⟨w.heap.size, 1, none⟩ = some (.int .i64 l) ∧ W.cell? ⟨w.heap.size, 2, none⟩ = some (.int .i64 p) ∧ W.cell? ⟨w1.heap.size, 0, none⟩ = some (.int .i64 s) ∧ W.cell? ⟨w1.heap.size, 1, none⟩ = some (.int .i64 q) ∧ W.cell? ⟨w1.heap.size, 2, none⟩ = some (.int .i64 r) ∧ w2.heap.size ≤ W.heap.size ∧ Below w2.heap.size w2 W)
    (first | (go_split_ands; exact ⟨(hk3 _ _ (by omega)).trans ‹_›, (hk3 _ _ (by omega)).trans ‹_›, (hk3 _ _ (by omega)).trans ‹_›, (hk3 _ _ (by omega)).trans ‹_›, (hk3 _ _ (by omega)).trans ‹_›, (hk3 _ _ (by omega)).trans ‹_›, Nat.le_trans ‹_› hb3.size, on ‹_› ‹_› hb3⟩) | go_keep)
    ((first
    | (go_at_call 51; refine (room_i _ _ _ _ (by omega) (by omega)).mono ?_; rintro e w3 ⟨rfl, hb3⟩; obtain ⟨hk3, hf3⟩ := kept hb3)
    | fail))
  obtain ⟨_, _, _, _, _, _, _, bw⟩ := ‹_ ∧ _ ∧ _ ∧ _ ∧ _ ∧ _ ∧ _ ∧ Below w2.heap.size w2 w3›
  go_wp2
  go_ret2
  exact ⟨rfl, on B2 B2.size bw⟩
end Go.Proofs.Ytibfhpbklnpknaa
