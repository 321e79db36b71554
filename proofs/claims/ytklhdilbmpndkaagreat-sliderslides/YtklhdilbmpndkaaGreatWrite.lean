/- What Write and Read do. -/
import Derived.Test.YtklhdilbmpndkaaGreatGb
namespace Go.Proofs.YtklhdilbmpndkaaGreat
set_option maxRecDepth 20000
open Go.RowKit
set_option linter.unusedVariables false

set_option maxHeartbeats 1000000 in
theorem write_addr {w : World} {g gw gb : Nat} {zs : List Int} {top : Nat} {bs : List Bool} (h : HeapAt w g gw gb zs top bs) (a f v : Int) (hn : startB top bs a = false) :
    Calls Tryz.prog 42 #[.pointer (some ⟨g, 0, none⟩), .int .i64 a, .int .i64 f, .int .i64 v] w fun e w' => e = .returned (.int .i64 3) ∧ Below w.heap.size w w' := by
  go_enter Tryz.func42, Tryz.ntmps42
  go_wp2_with fail
  refine (head_no h a (start_not hn)).mono ?_
  rintro e w1 ⟨rfl, hb1⟩
  go_wp2
  go_ret
  exact ⟨rfl, hb1.alloc hb1.size _⟩

set_option maxHeartbeats 1000000 in
theorem write_field {w : World} {g gw gb : Nat} {zs : List Int} {top : Nat} {bs : List Bool} (h : HeapAt w g gw gb zs top bs) (i : Nat) (f v : Int) (hi : i < top) (hb : bs.getD i false = true) (n : Int) (hn : zs.getD i 0 = n) (hh : headB n = true)
    (hf : ¬ (0 ≤ f ∧ f < n / 65536) ∨ n % 16 = 15) :
    Calls Tryz.prog 42 #[.pointer (some ⟨g, 0, none⟩), .int .i64 i, .int .i64 f, .int .i64 v] w fun e w' => e = .returned (.int .i64 4) ∧ Below w.heap.size w w' := by
  have HN := Lib.hid hn
  have HB := Lib.hid hb
  clear hn hb
  by_cases h1 : 0 ≤ f ∧ f < n / 65536
  · have hk : (n % 16 == 15) = true := by rw [beq_iff_eq]; omega
    have hd : decide (0 ≤ f ∧ f < n / 65536) = true := decide_eq_true h1
    clear hf h1
    go_enter Tryz.func42, Tryz.ntmps42
    go_wp2_with fail
    refine (head_yes h i hi HB.out n HN.out hh).mono ?_
    rintro e w1 ⟨rfl, hb1⟩
    generalize n / 65536 = q at *
    generalize n % 65536 / 16 = r at *
    generalize n % 16 = s at *
    go_wp2_with fail
    refine (hasField_b s q r f _ true hd).mono ?_
    rintro e w2 ⟨rfl, hb2⟩
    have old2 := (Lies.new w1 64 [.int .i64 s, .int .i64 q, .int .i64 r]).below hb2 (by simp)
    have x0 : w2.cell? ⟨w1.heap.size, 0, none⟩ = some (.int .i64 s) := old2.cell 0
    go_wp2
    go_ret
    exact ⟨rfl, on (hb1.alloc hb1.size _) (by have := hb1.size; simp; omega) hb2⟩
  · have hd : decide (0 ≤ f ∧ f < n / 65536) = false := decide_eq_false h1
    clear hf h1
    go_enter Tryz.func42, Tryz.ntmps42
    go_wp2_with fail
    refine (head_yes h i hi HB.out n HN.out hh).mono ?_
    rintro e w1 ⟨rfl, hb1⟩
    generalize n / 65536 = q at *
    generalize n % 65536 / 16 = r at *
    generalize n % 16 = s at *
    go_wp2_with fail
    refine (hasField_b s q r f _ false hd).mono ?_
    rintro e w2 ⟨rfl, hb2⟩
    go_wp2
    go_ret
    exact ⟨rfl, on (hb1.alloc hb1.size _) (by have := hb1.size; simp; omega) hb2⟩

set_option maxHeartbeats 1000000 in
theorem write_ref {w : World} {g gw gb : Nat} {zs : List Int} {top : Nat} {bs : List Bool} (h : HeapAt w g gw gb zs top bs) (hs : Sound zs top bs) (i : Nat) (f v : Int) (hi : i < top) (hb : bs.getD i false = true) (n : Int) (hn : zs.getD i 0 = n) (hh : headB n = true)
    (h0 : 0 ≤ f) (h1 : f < n / 65536) (hk : n % 16 ≠ 15) (hp : f < n % 65536 / 16) (hv : -9223372036854775808 ≤ v) (hv' : v ≤ 9223372036854775807) (ha : astrayB zs top bs v = true) :
    Calls Tryz.prog 42 #[.pointer (some ⟨g, 0, none⟩), .int .i64 i, .int .i64 f, .int .i64 v] w fun e w' => e = .returned (.int .i64 5) ∧ Below w.heap.size w w' := by
  have HN := Lib.hid hn
  have HB := Lib.hid hb
  have HS := Lib.hid hs
  clear hn hb hs
  have hk' : (n % 16 == 15) = false := by rw [beq_eq_false_iff_ne]; exact hk
  have hd : decide (0 ≤ f ∧ f < n / 65536) = true := decide_eq_true ⟨h0, h1⟩
  clear hk
  go_enter Tryz.func42, Tryz.ntmps42
  go_wp2_with fail
  refine (head_yes h i hi HB.out n HN.out hh).mono ?_
  rintro e w1 ⟨rfl, hb1⟩
  generalize n / 65536 = q at *
  generalize n % 65536 / 16 = r at *
  generalize n % 16 = s at *
  go_wp2_with fail
  refine (hasField_b s q r f _ true hd).mono ?_
  rintro e w2 ⟨rfl, hb2⟩
  have old2 := (Lies.new w1 64 [.int .i64 s, .int .i64 q, .int .i64 r]).below hb2 (by simp)
  have x0 : w2.cell? ⟨w1.heap.size, 0, none⟩ = some (.int .i64 s) := old2.cell 0
  have x2 : w2.cell? ⟨w1.heap.size, 2, none⟩ = some (.int .i64 r) := old2.cell 2
  have B2 : Below w.heap.size w w2 := on (hb1.alloc hb1.size _) (by have := hb1.size; simp; omega) hb2
  have H2 := h.kept B2
  go_wp2_with fail
  refine (astray_any H2 HS.out v hv hv').mono ?_
  rintro e w3 ⟨rfl, hb3⟩
  rw [ha]
  go_wp2
  go_ret
  exact ⟨rfl, on B2 B2.size hb3⟩

theorem HeapAt.put {w : World} {g gw gb : Nat} {zs : List Int} {top : Nat} {bs : List Bool} (h : HeapAt w g gw gb zs top bs) (j : Nat) (v : Int) : HeapAt (w.setCell ⟨gw, j, none⟩ (.int .i64 v)) g gw gb (zs.set j v) top bs := by
  refine ⟨?_, ?_, h.begins.far (h.begins.apart h.words (by decide)) _, by simpa using h.same, by simpa using h.some_, by simpa using h.most, by simpa using h.fits⟩
  · have := h.own.far (p := ⟨gw, j, none⟩) (h.own.apart h.words (by decide)) (.int .i64 v)
    simpa using this
  · have := h.words.set j (.int .i64 v)
    simpa [List.map_set] using this
theorem put_else {g gw gb : Nat} (w : World) (j : Nat) (u : Value) : Else g gw gb w (w.setCell ⟨gw, j, none⟩ u) :=
  ⟨rfl, rfl, rfl, by simp [World.setCell], fun k hk h1 h2 h3 => Below.heap_setCell _ _ _ _ h2⟩

set_option maxHeartbeats 1000000 in
theorem write_yes {w : World} {g gw gb : Nat} {zs : List Int} {top : Nat} {bs : List Bool} (h : HeapAt w g gw gb zs top bs) (hs : Sound zs top bs) (i f : Nat) (v : Int) (hi : i < top) (hb : bs.getD i false = true) (n : Int) (hn : zs.getD i 0 = n) (hh : headB n = true)
    (h1 : (f : Int) < n / 65536) (hk : n % 16 ≠ 15) (hv : -9223372036854775808 ≤ v) (hv' : v ≤ 9223372036854775807) (ha : (f : Int) < n % 65536 / 16 → astrayB zs top bs v = false) (htop : i + 1 + lenOf n ≤ top) :
    Calls Tryz.prog 42 #[.pointer (some ⟨g, 0, none⟩), .int .i64 i, .int .i64 f, .int .i64 v] w fun e w' => e = .returned (.int .i64 0) ∧ HeapAt w' g gw gb (zs.set (i + 1 + f) v) top bs ∧ Else g gw gb w w' := by
  have HN := Lib.hid hn
  have HB := Lib.hid hb
  have HS := Lib.hid hs
  have hm := h.most
  have hfit : i + 1 + f < zs.length := by have := h.fits; unfold lenOf at htop; omega
  clear hn hb hs
  have hk' : (n % 16 == 15) = false := by rw [beq_eq_false_iff_ne]; exact hk
  have hd : decide (0 ≤ (f : Int) ∧ (f : Int) < n / 65536) = true := decide_eq_true ⟨by omega, h1⟩
  have c1 : (i : Int) + 1 + (f : Int) < (zs.length : Int) := by omega
  have c2 : (0 : Int) ≤ (i : Int) + 1 + (f : Int) := by omega
  have c3 : ((i : Int) + 1 + (f : Int)).toNat = i + 1 + f := by omega
  clear hk
  by_cases hp : (f : Int) < n % 65536 / 16
  · have ha' := ha hp
    clear ha
    go_enter Tryz.func42, Tryz.ntmps42
    go_wp2_with fail
    refine (head_yes h i hi HB.out n HN.out hh).mono ?_
    rintro e w1 ⟨rfl, hb1⟩
    generalize n / 65536 = q at *
    generalize n % 65536 / 16 = r at *
    generalize n % 16 = s at *
    go_wp2_with fail
    refine (hasField_b s q r f _ true hd).mono ?_
    rintro e w2 ⟨rfl, hb2⟩
    have old2 := (Lies.new w1 64 [.int .i64 s, .int .i64 q, .int .i64 r]).below hb2 (by simp)
    have x0 : w2.cell? ⟨w1.heap.size, 0, none⟩ = some (.int .i64 s) := old2.cell 0
    have x2 : w2.cell? ⟨w1.heap.size, 2, none⟩ = some (.int .i64 r) := old2.cell 2
    have B2 : Below w.heap.size w w2 := on (hb1.alloc hb1.size _) (by have := hb1.size; simp; omega) hb2
    have H2 := h.kept B2
    go_wp2_with fail
    refine (astray_any H2 HS.out v hv hv').mono ?_
    rintro e w3 ⟨rfl, hb3⟩
    rw [ha']
    have B3 : Below w.heap.size w w3 := on B2 B2.size hb3
    have H3 := h.kept B3
    have y0 := H3.c0
    have y1 := H3.w_at hfit
    have y2 := H3.words.frozen (i + 1 + f)
    clear hb1 hb2 hb3 B2 H2 x0 x2 old2
    go_wp2
    go_ret
    exact ⟨rfl, H3.put _ _, (Else.of_below B3).trans (put_else _ _ _)⟩
  · clear ha
    go_enter Tryz.func42, Tryz.ntmps42
    go_wp2_with fail
    refine (head_yes h i hi HB.out n HN.out hh).mono ?_
    rintro e w1 ⟨rfl, hb1⟩
    generalize n / 65536 = q at *
    generalize n % 65536 / 16 = r at *
    generalize n % 16 = s at *
    go_wp2_with fail
    refine (hasField_b s q r f _ true hd).mono ?_
    rintro e w2 ⟨rfl, hb2⟩
    have old2 := (Lies.new w1 64 [.int .i64 s, .int .i64 q, .int .i64 r]).below hb2 (by simp)
    have x0 : w2.cell? ⟨w1.heap.size, 0, none⟩ = some (.int .i64 s) := old2.cell 0
    have x2 : w2.cell? ⟨w1.heap.size, 2, none⟩ = some (.int .i64 r) := old2.cell 2
    have B2 : Below w.heap.size w w2 := on (hb1.alloc hb1.size _) (by have := hb1.size; simp; omega) hb2
    have H2 := h.kept B2
    have y0 := H2.c0
    have y1 := H2.w_at hfit
    have y2 := H2.words.frozen (i + 1 + f)
    clear hb1 hb2
    go_wp2
    go_ret
    exact ⟨rfl, H2.put _ _, (Else.of_below B2).trans (put_else _ _ _)⟩
end Go.Proofs.YtklhdilbmpndkaaGreat
