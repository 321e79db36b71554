/- Alloc, as a function of the buffers and the row of objects. -/
import Derived.Test.YtibfhpbklnpknaaAlCut
namespace Go.Proofs.Ytibfhpbklnpknaa
open Go.RowKit
set_option linter.unusedVariables false
set_option linter.unusedSimpArgs false

/-- What Alloc answers; the buffers, the objects and what stands behind them then. -/
def allocF (size : Nat) (bs : List Int) (obs : List Ob) (tail : List Int) (t k l p : Int) : Int × Int × List Int × List Ob × List Int :=
  if ¬ (0 ≤ t ∧ t < (bs.length : Int)) ∨ objB k l p = false then (0, 1, bs, obs, tail)
  else if (size : Int) / 2 < 1 + l then ((placeA obs tail k l p).1, (placeA obs tail k l p).2.1, bs, (placeA obs tail k l p).2.2.1, (placeA obs tail k l p).2.2.2)
  else if leftF bs obs t.toNat < 1 + l then
    if (renewF size bs obs tail t.toNat).1 = false then
      ((placeA (renewF size bs obs tail t.toNat).2.2.1 (renewF size bs obs tail t.toNat).2.2.2 k l p).1, (placeA (renewF size bs obs tail t.toNat).2.2.1 (renewF size bs obs tail t.toNat).2.2.2 k l p).2.1, (renewF size bs obs tail t.toNat).2.1,
       (placeA (renewF size bs obs tail t.toNat).2.2.1 (renewF size bs obs tail t.toNat).2.2.2 k l p).2.2.1, (placeA (renewF size bs obs tail t.toNat).2.2.1 (renewF size bs obs tail t.toNat).2.2.2 k l p).2.2.2)
    else ((cutF (renewF size bs obs tail t.toNat).2.1 (renewF size bs obs tail t.toNat).2.2.1 t.toNat k l p).1, 0, (cutF (renewF size bs obs tail t.toNat).2.1 (renewF size bs obs tail t.toNat).2.2.1 t.toNat k l p).2.1, (cutF (renewF size bs obs tail t.toNat).2.1 (renewF size bs obs tail t.toNat).2.2.1 t.toNat k l p).2.2, (renewF size bs obs tail t.toNat).2.2.2)
  else ((cutF bs obs t.toNat k l p).1, 0, (cutF bs obs t.toNat k l p).2.1, (cutF bs obs t.toNat k l p).2.2, tail)

theorem isObject_b (k l p : Int) (w : World) (b : Bool) (h : objB k l p = b) :
    Calls Try.prog 27 #[.agg #[.int .i64 k, .int .i64 l, .int .i64 p]] w fun e w' => e = .returned (.bool b) ∧ Below w.heap.size w w' :=
  (isObject_any k l p w).mono fun e w' ⟨he, hw⟩ => ⟨by rw [he, h], hw⟩
theorem isLarge_b {w : World} {ga gf g gw gb size : Nat} {bs : List Int} {obs : List Ob} {tail : List Int} (h : Al w ga gf g gw gb size bs obs tail) (k l p : Int) (h0 : 0 ≤ l) (h1 : l ≤ 4095) (b : Bool) (hb : decide ((size : Int) / 2 < 1 + l) = b) :
    Calls Try.prog 28 #[.pointer (some ⟨ga, 0, none⟩), .agg #[.int .i64 k, .int .i64 l, .int .i64 p]] w fun e w' =>
      e = .returned (.bool b) ∧ Below w.heap.size w w' :=
  (isLarge_any h k l p h0 h1).mono fun e w' ⟨he, hw⟩ => ⟨by rw [he, hb], hw⟩
theorem renew_length (size : Nat) (bs : List Int) (obs : List Ob) (tail : List Int) (t : Nat) : (renewF size bs obs tail t).2.1.length = bs.length := by
  unfold renewF; split <;> simp

set_option maxHeartbeats 1000000 in
theorem Alloc_no {w : World} {ga gf g gw gb size : Nat} {bs : List Int} {obs : List Ob} {tail : List Int} (h : Al w ga gf g gw gb size bs obs tail) (t k l p : Int) (hn : ¬ (0 ≤ t ∧ t < (bs.length : Int)) ∨ objB k l p = false) :
    Calls Try.prog 13 #[.pointer (some ⟨ga, 0, none⟩), .int .i64 t, .agg #[.int .i64 k, .int .i64 l, .int .i64 p]] w fun e w' =>
      e = .returned (.tuple #[.int .i64 0, .int .i64 1]) ∧ Al w' ga gf g gw gb size bs obs tail ∧ Else4 g gw gb gf w w' := by
  have bX := below_one w (.cells #[.int .i64 k, .int .i64 l, .int .i64 p] 40)
  have y2 := (h.kept bX).c2
  have HH := Lib.hid h
  have LB := Lies.new w 40 [.int .i64 k, .int .i64 l, .int .i64 p]
  have z0 : (w.alloc (.cells #[.int .i64 k, .int .i64 l, .int .i64 p] 40)).cell? ⟨w.heap.size, 0, none⟩ = some (.int .i64 k) := LB.cell 0
  have z1 : (w.alloc (.cells #[.int .i64 k, .int .i64 l, .int .i64 p] 40)).cell? ⟨w.heap.size, 1, none⟩ = some (.int .i64 l) := LB.cell 1
  have z2 : (w.alloc (.cells #[.int .i64 k, .int .i64 l, .int .i64 p] 40)).cell? ⟨w.heap.size, 2, none⟩ = some (.int .i64 p) := LB.cell 2
  have HB := Lib.hid bX
  by_cases ht : 0 ≤ t ∧ t < (bs.length : Int)
  · have hk : objB k l p = false := hn.resolve_left (fun h1 => h1 ht)
    have HP := Lib.hid (fun W => hasPlace_b (some ⟨gf, 0, none⟩) bs.length bs.length t W true (decide_eq_true ht))
    have HO := Lib.hid (fun W => isObject_b k l p W false hk)
    generalize bs.length = n at y2 HP
    clear h ht hn hk bX LB
    go_enter Try.func13, Try.ntmps13
    go_wp2_with fail
    refine (HP.out _).mono ?_
    rintro e w1 ⟨rfl, rfl⟩
    go_wp2_with fail
    refine (HO.out _).mono ?_
    rintro e w1 ⟨rfl, hb1⟩
    go_wp2
    go_ret2
    have B := on HB.out (by simp) hb1
    exact ⟨rfl, HH.out.kept B, Else4.of_below B⟩
  · have HP := Lib.hid (fun W => hasPlace_b (some ⟨gf, 0, none⟩) bs.length bs.length t W false (decide_eq_false ht))
    generalize bs.length = n at y2 HP
    clear h ht hn bX LB
    go_enter Try.func13, Try.ntmps13
    go_wp2_with fail
    refine (HP.out _).mono ?_
    rintro e w1 ⟨rfl, rfl⟩
    go_wp2
    go_ret2
    exact ⟨rfl, HH.out.kept HB.out, Else4.of_below HB.out⟩

set_option maxHeartbeats 1000000 in
theorem Alloc_yes {w : World} {ga gf g gw gb size : Nat} {bs : List Int} {obs : List Ob} {tail : List Int} (h : Al w ga gf g gw gb size bs obs tail) (t : Nat) (k l p : Int) (ht : t < bs.length) (hk : objB k l p = true) :
    Calls Try.prog 13 #[.pointer (some ⟨ga, 0, none⟩), .int .i64 (t : Int), .agg #[.int .i64 k, .int .i64 l, .int .i64 p]] w fun e w' =>
      e = .returned (.tuple #[.int .i64 (allocF size bs obs tail t k l p).1, .int .i64 (allocF size bs obs tail t k l p).2.1]) ∧ Al w' ga gf g gw gb size (allocF size bs obs tail t k l p).2.2.1 (allocF size bs obs tail t k l p).2.2.2.1 (allocF size bs obs tail t k l p).2.2.2.2 ∧ Else4 g gw gb gf w w' := by
  have ht' : 0 ≤ (t : Int) ∧ (t : Int) < (bs.length : Int) := by omega
  unfold allocF
  rw [if_neg (fun h1 => h1.elim (fun h2 => h2 ht') (fun h2 => by rw [hk] at h2; cases h2)), Int.toNat_natCast]
  have hg : goodB k l p = true := by unfold objB at hk; simp at hk; exact hk.1
  have l0 := ((good_iff k l p).1 hg).2.2.1
  have l1 := ((good_iff k l p).1 hg).2.2.2.1
  have bX := below_one w (.cells #[.int .i64 k, .int .i64 l, .int .i64 p] 40)
  have y2 := (h.kept bX).c2
  have HH := Lib.hid (h.kept bX)
  have LB := Lies.new w 40 [.int .i64 k, .int .i64 l, .int .i64 p]
  have z0 : (w.alloc (.cells #[.int .i64 k, .int .i64 l, .int .i64 p] 40)).cell? ⟨w.heap.size, 0, none⟩ = some (.int .i64 k) := LB.cell 0
  have z1 : (w.alloc (.cells #[.int .i64 k, .int .i64 l, .int .i64 p] 40)).cell? ⟨w.heap.size, 1, none⟩ = some (.int .i64 l) := LB.cell 1
  have z2 : (w.alloc (.cells #[.int .i64 k, .int .i64 l, .int .i64 p] 40)).cell? ⟨w.heap.size, 2, none⟩ = some (.int .i64 p) := LB.cell 2
  have HB := Lib.hid bX
  have HLB := Lib.hid LB
  have HP := Lib.hid (fun W => hasPlace_b (some ⟨gf, 0, none⟩) bs.length bs.length (t : Int) W true (decide_eq_true ht'))
  have HO := Lib.hid (fun W => isObject_b k l p W true hk)
  have HT := Lib.hid ht
  have n1 : w.heap.size ≠ g := by have := h.st.lies.own.lt; omega
  have n2 : w.heap.size ≠ gw := by have := h.st.lies.words.lt; omega
  have n3 : w.heap.size ≠ gb := by have := h.st.lies.begins.lt; omega
  have n4 : w.heap.size ≠ gf := by have := h.row.lt; omega
  generalize bs.length = n at y2 HP
  clear h ht ht' hk bX LB hg
  by_cases h1 : (size : Int) / 2 < 1 + l
  · rw [if_pos h1]
    have HD := Lib.hid (decide_eq_true h1)
    clear h1
    have HPA := Lib.hid (fun W A => aplace_any (w := W) (ga := ga) (gf := gf) (g := g) (gw := gw) (gb := gb) (size := size) (bs := bs) (obs := obs) (tail := tail) A k l p)
    generalize placeA obs tail k l p = R at *
    obtain ⟨r, c, obs3, tail3⟩ := R
    simp only at HPA ⊢
    go_enter Try.func13, Try.ntmps13
    go_wp2_with fail
    refine (HP.out _).mono ?_
    rintro e w1 ⟨rfl, rfl⟩
    go_wp2_with fail
    refine (HO.out _).mono ?_
    rintro e w1 ⟨rfl, hb1⟩
    have A1 := HH.out.kept hb1
    have B1 := HLB.out.below hb1 HLB.out.lt
    have E1 := Lib.hid (on HB.out (by simp) hb1)
    clear hb1 z0 z1 z2 y2
    have z0 : w1.cell? ⟨w.heap.size, 0, none⟩ = some (.int .i64 k) := B1.cell 0
    have z1 : w1.cell? ⟨w.heap.size, 1, none⟩ = some (.int .i64 l) := B1.cell 1
    have z2 : w1.cell? ⟨w.heap.size, 2, none⟩ = some (.int .i64 p) := B1.cell 2
    have HA1 := Lib.hid A1
    have HB1 := Lib.hid B1
    clear A1 B1
    go_wp2_with fail
    refine (isLarge_b HA1.out k l p l0 l1 true HD.out).mono ?_
    rintro e w2 ⟨rfl, hb2⟩
    have A2 := HA1.out.kept hb2
    have B2 := HB1.out.below hb2 HB1.out.lt
    have E2 := Lib.hid (on E1.out E1.out.size hb2)
    clear hb2 z0 z1 z2
    have z0 : w2.cell? ⟨w.heap.size, 0, none⟩ = some (.int .i64 k) := B2.cell 0
    have z1 : w2.cell? ⟨w.heap.size, 1, none⟩ = some (.int .i64 l) := B2.cell 1
    have z2 : w2.cell? ⟨w.heap.size, 2, none⟩ = some (.int .i64 p) := B2.cell 2
    have HP2 := Lib.hid (HPA.out _ A2)
    clear A2 B2
    go_wp2_with fail
    refine HP2.out.mono ?_
    rintro e w3 ⟨rfl, A3, E3⟩
    have HA := Lib.hid A3
    have HE := Lib.hid ((Else4.of_below E2.out).trans E3)
    clear A3 E3
    go_wp2
    go_ret2
    exact ⟨rfl, HA.out, HE.out⟩
  · rw [if_neg h1]
    have HD := Lib.hid (decide_eq_false h1)
    clear h1
    by_cases h2 : leftF bs obs t < 1 + l
    · rw [if_pos h2]
      have h2' : decide (leftF bs obs t < 1 + l) = true := decide_eq_true h2
      have HRN := Lib.hid (fun W A => renew_any (w := W) (ga := ga) (gf := gf) (g := g) (gw := gw) (gb := gb) (size := size) (bs := bs) (obs := obs) (tail := tail) A t HT.out)
      have HRL := Lib.hid (renew_length size bs obs tail t)
      have HLF := Lib.hid (fun W A => left_any (w := W) (ga := ga) (gf := gf) (g := g) (gw := gw) (gb := gb) (size := size) (bs := bs) (obs := obs) (tail := tail) A t HT.out)
      generalize leftF bs obs t = q at *
      generalize renewF size bs obs tail t = R at *
      obtain ⟨ok, bs2, obs2, tail2⟩ := R
      simp only at HRN HRL ⊢
      cases ok with
      | false =>
        rw [if_pos rfl]
        have HPA := Lib.hid (fun W A => aplace_any (w := W) (ga := ga) (gf := gf) (g := g) (gw := gw) (gb := gb) (size := size) (bs := bs2) (obs := obs2) (tail := tail2) A k l p)
        generalize placeA obs2 tail2 k l p = R at *
        obtain ⟨r, c, obs3, tail3⟩ := R
        simp only at HPA ⊢
        go_enter Try.func13, Try.ntmps13
        go_wp2_with fail
        refine (HP.out _).mono ?_
        rintro e w1 ⟨rfl, rfl⟩
        go_wp2_with fail
        refine (HO.out _).mono ?_
        rintro e w1 ⟨rfl, hb1⟩
        have A1 := HH.out.kept hb1
        have B1 := HLB.out.below hb1 HLB.out.lt
        have E1 := Lib.hid (on HB.out (by simp) hb1)
        clear hb1 z0 z1 z2 y2
        have z0 : w1.cell? ⟨w.heap.size, 0, none⟩ = some (.int .i64 k) := B1.cell 0
        have z1 : w1.cell? ⟨w.heap.size, 1, none⟩ = some (.int .i64 l) := B1.cell 1
        have z2 : w1.cell? ⟨w.heap.size, 2, none⟩ = some (.int .i64 p) := B1.cell 2
        have HA1 := Lib.hid A1
        have HB1 := Lib.hid B1
        clear A1 B1
        go_wp2_with fail
        refine (isLarge_b HA1.out k l p l0 l1 false HD.out).mono ?_
        rintro e w2 ⟨rfl, hb2⟩
        have A2 := HA1.out.kept hb2
        have B2 := HB1.out.below hb2 HB1.out.lt
        have E2 := Lib.hid (on E1.out E1.out.size hb2)
        clear hb2 z0 z1 z2
        have z0 : w2.cell? ⟨w.heap.size, 0, none⟩ = some (.int .i64 k) := B2.cell 0
        have z1 : w2.cell? ⟨w.heap.size, 1, none⟩ = some (.int .i64 l) := B2.cell 1
        have z2 : w2.cell? ⟨w.heap.size, 2, none⟩ = some (.int .i64 p) := B2.cell 2
        have HA2 := Lib.hid A2
        have HB2 := Lib.hid B2
        clear A2 B2
        go_wp2_with fail
        refine (aroom_any k l p _ l0 l1).mono ?_
        rintro e w3 ⟨rfl, hb3⟩
        have A3 := HA2.out.kept hb3
        have B3 := HB2.out.below hb3 HB2.out.lt
        have E3 := Lib.hid (on E2.out E2.out.size hb3)
        have HL := Lib.hid (HLF.out _ A3)
        have HA3 := Lib.hid A3
        have HB3 := Lib.hid B3
        clear hb3 z0 z1 z2 A3 B3
        go_wp2_with fail
        refine HL.out.mono ?_
        rintro e w4 ⟨rfl, hb4⟩
        have A4 := HA3.out.kept hb4
        have B4 := HB3.out.below hb4 HB3.out.lt
        have E4 := Lib.hid (on E3.out E3.out.size hb4)
        have HA4 := Lib.hid A4
        have HB4 := Lib.hid B4
        clear hb4 A4 B4
        go_wp2_with fail
        refine (HRN.out _ HA4.out).mono ?_
        rintro e w5 ⟨rfl, A5, E5⟩
        have B5 := E5.lies HB4.out n1 n2 n3 n4
        have z0 : w5.cell? ⟨w.heap.size, 0, none⟩ = some (.int .i64 k) := B5.cell 0
        have z1 : w5.cell? ⟨w.heap.size, 1, none⟩ = some (.int .i64 l) := B5.cell 1
        have z2 : w5.cell? ⟨w.heap.size, 2, none⟩ = some (.int .i64 p) := B5.cell 2
        have HA5 := Lib.hid A5
        have HE5 := Lib.hid ((Else4.of_below E4.out).trans E5)
        clear A5 E5 B5
        go_wp2_with fail
        refine (HPA.out _ HA5.out).mono ?_
        rintro e w6 ⟨rfl, A6, E6⟩
        have HA := Lib.hid A6
        have HE := Lib.hid (HE5.out.trans E6)
        clear A6 E6
        go_wp2
        go_ret2
        exact ⟨rfl, HA.out, HE.out⟩
      | true =>
        rw [if_neg (by simp)]
        have HCA := Lib.hid (fun W A => cut_any (w := W) (ga := ga) (gf := gf) (g := g) (gw := gw) (gb := gb) (size := size) (bs := bs2) (obs := obs2) (tail := tail2) A t (by rw [HRL.out]; exact HT.out) k l p)
        generalize cutF bs2 obs2 t k l p = R at *
        obtain ⟨r, bs3, obs3⟩ := R
        simp only at HCA ⊢
        go_enter Try.func13, Try.ntmps13
        go_wp2_with fail
        refine (HP.out _).mono ?_
        rintro e w1 ⟨rfl, rfl⟩
        go_wp2_with fail
        refine (HO.out _).mono ?_
        rintro e w1 ⟨rfl, hb1⟩
        have A1 := HH.out.kept hb1
        have B1 := HLB.out.below hb1 HLB.out.lt
        have E1 := Lib.hid (on HB.out (by simp) hb1)
        clear hb1 z0 z1 z2 y2
        have z0 : w1.cell? ⟨w.heap.size, 0, none⟩ = some (.int .i64 k) := B1.cell 0
        have z1 : w1.cell? ⟨w.heap.size, 1, none⟩ = some (.int .i64 l) := B1.cell 1
        have z2 : w1.cell? ⟨w.heap.size, 2, none⟩ = some (.int .i64 p) := B1.cell 2
        have HA1 := Lib.hid A1
        have HB1 := Lib.hid B1
        clear A1 B1
        go_wp2_with fail
        refine (isLarge_b HA1.out k l p l0 l1 false HD.out).mono ?_
        rintro e w2 ⟨rfl, hb2⟩
        have A2 := HA1.out.kept hb2
        have B2 := HB1.out.below hb2 HB1.out.lt
        have E2 := Lib.hid (on E1.out E1.out.size hb2)
        clear hb2 z0 z1 z2
        have z0 : w2.cell? ⟨w.heap.size, 0, none⟩ = some (.int .i64 k) := B2.cell 0
        have z1 : w2.cell? ⟨w.heap.size, 1, none⟩ = some (.int .i64 l) := B2.cell 1
        have z2 : w2.cell? ⟨w.heap.size, 2, none⟩ = some (.int .i64 p) := B2.cell 2
        have HA2 := Lib.hid A2
        have HB2 := Lib.hid B2
        clear A2 B2
        go_wp2_with fail
        refine (aroom_any k l p _ l0 l1).mono ?_
        rintro e w3 ⟨rfl, hb3⟩
        have A3 := HA2.out.kept hb3
        have B3 := HB2.out.below hb3 HB2.out.lt
        have E3 := Lib.hid (on E2.out E2.out.size hb3)
        have HL := Lib.hid (HLF.out _ A3)
        have HA3 := Lib.hid A3
        have HB3 := Lib.hid B3
        clear hb3 z0 z1 z2 A3 B3
        go_wp2_with fail
        refine HL.out.mono ?_
        rintro e w4 ⟨rfl, hb4⟩
        have A4 := HA3.out.kept hb4
        have B4 := HB3.out.below hb4 HB3.out.lt
        have E4 := Lib.hid (on E3.out E3.out.size hb4)
        have HA4 := Lib.hid A4
        have HB4 := Lib.hid B4
        clear hb4 A4 B4
        go_wp2_with fail
        refine (HRN.out _ HA4.out).mono ?_
        rintro e w5 ⟨rfl, A5, E5⟩
        have B5 := E5.lies HB4.out n1 n2 n3 n4
        have z0 : w5.cell? ⟨w.heap.size, 0, none⟩ = some (.int .i64 k) := B5.cell 0
        have z1 : w5.cell? ⟨w.heap.size, 1, none⟩ = some (.int .i64 l) := B5.cell 1
        have z2 : w5.cell? ⟨w.heap.size, 2, none⟩ = some (.int .i64 p) := B5.cell 2
        have HA5 := Lib.hid A5
        have HE5 := Lib.hid ((Else4.of_below E4.out).trans E5)
        clear A5 E5 B5
        go_wp2_with fail
        refine (HCA.out _ HA5.out).mono ?_
        rintro e w6 ⟨rfl, A6, E6⟩
        have HA := Lib.hid A6
        have HE := Lib.hid (HE5.out.trans E6)
        clear A6 E6
        go_wp2
        go_ret2
        exact ⟨rfl, HA.out, HE.out⟩
    · rw [if_neg h2]
      have h2' : decide (leftF bs obs t < 1 + l) = false := decide_eq_false h2
      have HLF := Lib.hid (fun W A => left_any (w := W) (ga := ga) (gf := gf) (g := g) (gw := gw) (gb := gb) (size := size) (bs := bs) (obs := obs) (tail := tail) A t HT.out)
      have HCA := Lib.hid (fun W A => cut_any (w := W) (ga := ga) (gf := gf) (g := g) (gw := gw) (gb := gb) (size := size) (bs := bs) (obs := obs) (tail := tail) A t HT.out k l p)
      generalize leftF bs obs t = q at *
      generalize cutF bs obs t k l p = R at *
      obtain ⟨r, bs3, obs3⟩ := R
      simp only at HCA ⊢
      go_enter Try.func13, Try.ntmps13
      go_wp2_with fail
      refine (HP.out _).mono ?_
      rintro e w1 ⟨rfl, rfl⟩
      go_wp2_with fail
      refine (HO.out _).mono ?_
      rintro e w1 ⟨rfl, hb1⟩
      have A1 := HH.out.kept hb1
      have B1 := HLB.out.below hb1 HLB.out.lt
      have E1 := Lib.hid (on HB.out (by simp) hb1)
      clear hb1 z0 z1 z2 y2
      have z0 : w1.cell? ⟨w.heap.size, 0, none⟩ = some (.int .i64 k) := B1.cell 0
      have z1 : w1.cell? ⟨w.heap.size, 1, none⟩ = some (.int .i64 l) := B1.cell 1
      have z2 : w1.cell? ⟨w.heap.size, 2, none⟩ = some (.int .i64 p) := B1.cell 2
      have HA1 := Lib.hid A1
      have HB1 := Lib.hid B1
      clear A1 B1
      go_wp2_with fail
      refine (isLarge_b HA1.out k l p l0 l1 false HD.out).mono ?_
      rintro e w2 ⟨rfl, hb2⟩
      have A2 := HA1.out.kept hb2
      have B2 := HB1.out.below hb2 HB1.out.lt
      have E2 := Lib.hid (on E1.out E1.out.size hb2)
      clear hb2 z0 z1 z2
      have z0 : w2.cell? ⟨w.heap.size, 0, none⟩ = some (.int .i64 k) := B2.cell 0
      have z1 : w2.cell? ⟨w.heap.size, 1, none⟩ = some (.int .i64 l) := B2.cell 1
      have z2 : w2.cell? ⟨w.heap.size, 2, none⟩ = some (.int .i64 p) := B2.cell 2
      have HA2 := Lib.hid A2
      have HB2 := Lib.hid B2
      clear A2 B2
      go_wp2_with fail
      refine (aroom_any k l p _ l0 l1).mono ?_
      rintro e w3 ⟨rfl, hb3⟩
      have A3 := HA2.out.kept hb3
      have B3 := HB2.out.below hb3 HB2.out.lt
      have E3 := Lib.hid (on E2.out E2.out.size hb3)
      have HL := Lib.hid (HLF.out _ A3)
      have HA3 := Lib.hid A3
      have HB3 := Lib.hid B3
      clear hb3 z0 z1 z2 A3 B3
      go_wp2_with fail
      refine HL.out.mono ?_
      rintro e w4 ⟨rfl, hb4⟩
      have A4 := HA3.out.kept hb4
      have B4 := HB3.out.below hb4 HB3.out.lt
      have E4 := Lib.hid (on E3.out E3.out.size hb4)
      have HA4 := Lib.hid A4
      have HB4 := Lib.hid B4
      have z0 : w4.cell? ⟨w.heap.size, 0, none⟩ = some (.int .i64 k) := B4.cell 0
      have z1 : w4.cell? ⟨w.heap.size, 1, none⟩ = some (.int .i64 l) := B4.cell 1
      have z2 : w4.cell? ⟨w.heap.size, 2, none⟩ = some (.int .i64 p) := B4.cell 2
      clear hb4 A4 B4
      go_wp2_with fail
      refine (HCA.out _ HA4.out).mono ?_
      rintro e w6 ⟨rfl, A6, E6⟩
      have HA := Lib.hid A6
      have HE := Lib.hid ((Else4.of_below E4.out).trans E6)
      clear A6 E6
      go_wp2
      go_ret2
      exact ⟨rfl, HA.out, HE.out⟩

/-- Alloc. -/
theorem Alloc_any {w : World} {ga gf g gw gb size : Nat} {bs : List Int} {obs : List Ob} {tail : List Int} (h : Al w ga gf g gw gb size bs obs tail) (t k l p : Int) :
    Calls Try.prog 13 #[.pointer (some ⟨ga, 0, none⟩), .int .i64 t, .agg #[.int .i64 k, .int .i64 l, .int .i64 p]] w fun e w' =>
      e = .returned (.tuple #[.int .i64 (allocF size bs obs tail t k l p).1, .int .i64 (allocF size bs obs tail t k l p).2.1]) ∧ Al w' ga gf g gw gb size (allocF size bs obs tail t k l p).2.2.1 (allocF size bs obs tail t k l p).2.2.2.1 (allocF size bs obs tail t k l p).2.2.2.2 ∧ Else4 g gw gb gf w w' := by
  by_cases hn : ¬ (0 ≤ t ∧ t < (bs.length : Int)) ∨ objB k l p = false
  · unfold allocF
    rw [if_pos hn]
    exact Alloc_no h t k l p hn
  · have ht : 0 ≤ t ∧ t < (bs.length : Int) := Classical.byContradiction fun hc => hn (.inl hc)
    have hk : objB k l p = true := by
      cases hc : objB k l p with
      | false => exact absurd (.inr hc) hn
      | true => rfl
    obtain ⟨t, rfl⟩ := Int.eq_ofNat_of_zero_le ht.1
    exact Alloc_yes h t k l p (by omega) hk
end Go.Proofs.Ytibfhpbklnpknaa
