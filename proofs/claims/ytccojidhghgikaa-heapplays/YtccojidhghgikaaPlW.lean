/- HeapPlays, where it plays. -/
import Derived.Test.YtccojidhghgikaaRWr2
import Derived.Test.YtccojidhghgikaaRRd
namespace Go.Proofs.Ytccojidhghgikaa
open Go.RowKit
set_option linter.unusedVariables false
set_option linter.unusedSimpArgs false

set_option maxRecDepth 100000 in
set_option maxHeartbeats 1000000 in
theorem plays_yes (s : Nat) (B : Option Addr) (c : Nat) (ds : List Deed) (w : World) (hs : 1 ≤ s) (hs' : s ≤ 255) (h2 : ds.length ≤ 40) (hd : Deeds w B ds) (hfit : ∀ d ∈ ds, d.fit) :
    Calls Try.prog 5 #[.int .u8 (s : Int), .slice B ds.length c] w fun e w' => e = .returned (.bool true) ∧ Below w.heap.size w w' := by
  have d1 : decide ((40 : Int) < (ds.length : Int)) = false := by simp; omega
  have s0 : ((s : Int) == 0) = false := by rw [beq_eq_false_iff_ne]; omega
  have HD := Lib.hid hd
  have HF := Lib.hid hfit
  clear hd hfit
  have hnil := fun W g => nil_ne W g
  go_enter Try.func5, Try.ntmps5
  go_wp2_with fail
  refine (awake_any _).mono ?_
  rintro e w1 ⟨rfl, B1⟩
  go_wp2_with fail
  refine (new_st s w1 hs (by omega)).mono ?_
  rintro e w2 ⟨g, gw, gb, rfl, hb2, q1, q2, q3, S2⟩
  have B2 := on B1 B1.size hb2
  have sz1 := B1.size
  obtain ⟨X, hX⟩ : ∃ X : Obj, X = .cells #[.int .i64 (s : Int), .slice none 0 0] 41 := ⟨_, rfl⟩
  have bX := below_one w2 X
  have T0 : Twin w (w2.alloc X) g gw gb w2.heap.size w2.heap.size s [] (List.replicate s 0) none 0 0 [] :=
    ⟨S2.kept bX, clean_nil, by simp [flat_nil], by rw [hX]; exact Lies.new w2 41 [_, _], ⟨World.ownsRow_nil _ _ _ _, rfl⟩, rfl, on B2 B2.size bX, by simp⟩
  have hg1 : g < w2.heap.size := S2.lies.own.lt
  have hg2 : gw < w2.heap.size := S2.lies.words.lt
  have hg3 : gb < w2.heap.size := S2.lies.begins.lt
  have HT0 := Lib.hid T0
  rw [hX] at HT0
  have W1 : w.heap.size ≤ g := by omega
  have W2 : w.heap.size ≤ gw := by omega
  have W3 : w.heap.size ≤ gb := by omega
  have W4 : w.heap.size ≤ w2.heap.size := by omega
  clear T0 S2 B1 B2 hb2 bX hX q1 q2 q3 sz1
  go_wp2
  go_loopw [55] (fun i wr => ∃ (j : Nat) (obs : List Ob) (tail : List Int) (A : Option Addr) (n c' : Nat) (xs : List Value), j ≤ ds.length ∧ i = .int .i64 j ∧ Twin w wr g gw gb w2.heap.size w2.heap.size s obs tail A n c' xs) (fun i _ => ds.length - (intOf i).toNat)
  case atStart => exact ⟨0, _, _, _, _, _, _, Nat.zero_le _, rfl, HT0.out⟩
  case round =>
    obtain ⟨j, obs, tail, A, n, c', xs, hj, rfl, T⟩ := hrel
    have z0 : wr.cell? ⟨w2.heap.size, 0, none⟩ = some (.int .i64 (s : Int)) := T.box.cell 0
    have z1 : wr.cell? ⟨w2.heap.size, 1, none⟩ = some (.slice A n c') := T.box.cell 1
    have zl := T.box.lt
    by_cases hjl : j < ds.length
    · obtain ⟨ad, rfl, c0, c1, c2, c3, c4, c5, c6⟩ := HD.out.at_ hjl wr T.old
      have hft := HF.out ds[j] (List.getElem_mem hjl)
      generalize ds[j] = d at c0 c1 c2 c3 c4 c5 c6 hft
      obtain ⟨kd, k, l, p, a, f, v⟩ := d
      obtain ⟨⟨hk0, hk1⟩, hv0, hv1⟩ := hft
      simp only at c0 c1 c2 c3 c4 c5 c6 hv0 hv1 hk0 hk1
      have j0 : (0 : Int) ≤ (j : Int) := by omega
      have j1 : (j : Int) < (ds.length : Int) := by omega
      obtain ⟨X, hX⟩ : ∃ X : Obj, X = .cells #[.int .u8 kd, .int .i64 k, .int .i64 l, .int .i64 p, .int .i64 a, .int .i64 f, .int .i64 v] 43 := ⟨_, rfl⟩
      have TX := T.kept (below_one wr X)
      have LD : Lies (wr.alloc X) wr.heap.size 43 [.int .u8 kd, .int .i64 k, .int .i64 l, .int .i64 p, .int .i64 a, .int .i64 f, .int .i64 v] := by rw [hX]; exact Lies.new wr 43 [_, _, _, _, _, _, _]
      have HTX := Lib.hid TX
      have HLD := Lib.hid LD
      clear T TX LD HT0
      have hkd : kd % 4 = 0 ∨ kd % 4 = 1 ∨ kd % 4 = 2 ∨ kd % 4 = 3 := by omega
      rcases hkd with hkd | hkd | hkd | hkd
      · go_wp2_with fail
        rw [← hX]
        refine (rplace_any s A n c' obs tail HTX.out.st.fine HTX.out.own HTX.out.room HTX.out.count HTX.out.len (by omega) k l p).mono ?_
        rintro e w7 ⟨⟨A7, n7, c7, xs7, rfl, hn7, O7⟩, hb7⟩
        obtain ⟨Y, hY⟩ : ∃ Y : Obj, Y = .cells #[.int .i64 (s : Int), .slice A7 n7 c7] 41 := ⟨_, rfl⟩
        have bY := below_one w7 Y
        have T8 := (HTX.out.kept hb7).kept bY
        have LD8 := (HLD.out.below hb7 HLD.out.lt).alloc Y
        have LN8 : Lies (w7.alloc Y) w7.heap.size 41 [.int .i64 (s : Int), .slice A7 n7 c7] := by rw [hY]; exact Lies.new w7 41 [_, _]
        have O8 := O7.kept bY
        have C8 := clean_place (tail := tail) (k := k) (l := l) (p := p) T8.clean
        have SP := Lib.hid (place_st T8.st k l p)
        have len8 := (place_total obs tail k l p).trans T8.len
        have m2 : (w7.alloc Y).cell? ⟨wr.heap.size, 1, none⟩ = some (.int .i64 k) := LD8.cell 1
        have m3 : (w7.alloc Y).cell? ⟨wr.heap.size, 2, none⟩ = some (.int .i64 l) := LD8.cell 2
        have m4 : (w7.alloc Y).cell? ⟨wr.heap.size, 3, none⟩ = some (.int .i64 p) := LD8.cell 3
        have hsz : wr.heap.size < w7.heap.size := by have := hb7.size; simp at this; omega
        have HT8 := Lib.hid T8
        have HLN8 := Lib.hid LN8
        have HO8 := Lib.hid O8
        have HC8 := Lib.hid C8
        have HL8 := Lib.hid len8
        have Hn7 := Lib.hid hn7
        have hrm := HTX.out.room
        rw [hY] at m2 m3 m4
        clear T8 LD8 LN8 O8 C8 len8 hn7 O7 bY hb7 c0 c1 c2 c3 c4 c5 c6 z0 z1 HTX HLD hX
        generalize placeF obs tail k l p = R at *
        obtain ⟨r1, x1, obs2, tail2⟩ := R
        simp only at SP HO8 HC8 HL8 Hn7 ⊢
        go_wp2_with fail
        rw [← hY]
        refine SP.out.mono ?_
        rintro e w9 ⟨rfl, S9, E9⟩
        have hw7 : w2.heap.size ≤ w7.heap.size := by simp at hrm; omega
        have LN9 := E9.lies HLN8.out (by omega) (by omega) (by omega)
        have LM9 := E9.lies HT8.out.box (by omega) (by omega) (by omega)
        have O9 := HO8.out.else3 E9 hg1 hg2 hg3
        have B9 := HT8.out.old.trans (E9.below HT8.out.old.size W1 W2 W3)
        have R9 := Nat.le_trans HT8.out.room E9.size
        have n0 : w9.cell? ⟨w7.heap.size, 0, none⟩ = some (.int .i64 (s : Int)) := LN9.cell 0
        have n1 : w9.cell? ⟨w7.heap.size, 1, none⟩ = some (.slice A7 n7 c7) := LN9.cell 1
        have p2' : w9.cell? ⟨w2.heap.size, 0, none⟩ = some (.int .i64 (s : Int)) := LM9.cell 0
        have p3' : w9.cell? ⟨w2.heap.size, 1, none⟩ = some (.slice A n c') := LM9.cell 1
        have p4' := LM9.frozen 0
        have p5' := LM9.frozen 1
        have FIN := Lib.hid (Twin.put S9 HC8.out HL8.out LM9 O9 Hn7.out B9 R9 (by omega) (by omega) (by omega) W4)
        clear SP S9 E9 LN9 LM9 O9 B9 R9 HLN8 HT8 HO8 hY HC8 HL8 Hn7
        go_wp2_with fail
        refine FIN.out.is.mono ?_
        rintro e w10 ⟨rfl, hb10⟩
        have F2 := Lib.hid (FIN.out.kept hb10)
        clear FIN hb10 n0 n1 p2' p3' p4' p5'
        go_wp2
        exact ⟨⟨j + 1, _, _, _, _, _, _, by omega, by go_num, F2.out⟩, by simp [intOf]; omega⟩
      · go_wp2_with fail
        rw [← hX]
        refine (rplace_any s A n c' obs tail HTX.out.st.fine HTX.out.own HTX.out.room HTX.out.count HTX.out.len (by omega) k l p).mono ?_
        rintro e w7 ⟨⟨A7, n7, c7, xs7, rfl, hn7, O7⟩, hb7⟩
        obtain ⟨Y, hY⟩ : ∃ Y : Obj, Y = .cells #[.int .i64 (s : Int), .slice A7 n7 c7] 41 := ⟨_, rfl⟩
        have bY := below_one w7 Y
        have T8 := (HTX.out.kept hb7).kept bY
        have LD8 := (HLD.out.below hb7 HLD.out.lt).alloc Y
        have LN8 : Lies (w7.alloc Y) w7.heap.size 41 [.int .i64 (s : Int), .slice A7 n7 c7] := by rw [hY]; exact Lies.new w7 41 [_, _]
        have O8 := O7.kept bY
        have C8 := clean_place (tail := tail) (k := k) (l := l) (p := p) T8.clean
        have SP := Lib.hid (place_st T8.st k l p)
        have len8 := (place_total obs tail k l p).trans T8.len
        have m2 : (w7.alloc Y).cell? ⟨wr.heap.size, 1, none⟩ = some (.int .i64 k) := LD8.cell 1
        have m3 : (w7.alloc Y).cell? ⟨wr.heap.size, 2, none⟩ = some (.int .i64 l) := LD8.cell 2
        have m4 : (w7.alloc Y).cell? ⟨wr.heap.size, 3, none⟩ = some (.int .i64 p) := LD8.cell 3
        have hsz : wr.heap.size < w7.heap.size := by have := hb7.size; simp at this; omega
        have HT8 := Lib.hid T8
        have HLN8 := Lib.hid LN8
        have HO8 := Lib.hid O8
        have HC8 := Lib.hid C8
        have HL8 := Lib.hid len8
        have Hn7 := Lib.hid hn7
        have hrm := HTX.out.room
        rw [hY] at m2 m3 m4
        clear T8 LD8 LN8 O8 C8 len8 hn7 O7 bY hb7 c0 c1 c2 c3 c4 c5 c6 z0 z1 HTX HLD hX
        generalize placeF obs tail k l p = R at *
        obtain ⟨r1, x1, obs2, tail2⟩ := R
        simp only at SP HO8 HC8 HL8 Hn7 ⊢
        go_wp2_with fail
        rw [← hY]
        refine SP.out.mono ?_
        rintro e w9 ⟨rfl, S9, E9⟩
        have hw7 : w2.heap.size ≤ w7.heap.size := by simp at hrm; omega
        have LN9 := E9.lies HLN8.out (by omega) (by omega) (by omega)
        have LM9 := E9.lies HT8.out.box (by omega) (by omega) (by omega)
        have O9 := HO8.out.else3 E9 hg1 hg2 hg3
        have B9 := HT8.out.old.trans (E9.below HT8.out.old.size W1 W2 W3)
        have R9 := Nat.le_trans HT8.out.room E9.size
        have n0 : w9.cell? ⟨w7.heap.size, 0, none⟩ = some (.int .i64 (s : Int)) := LN9.cell 0
        have n1 : w9.cell? ⟨w7.heap.size, 1, none⟩ = some (.slice A7 n7 c7) := LN9.cell 1
        have p2' : w9.cell? ⟨w2.heap.size, 0, none⟩ = some (.int .i64 (s : Int)) := LM9.cell 0
        have p3' : w9.cell? ⟨w2.heap.size, 1, none⟩ = some (.slice A n c') := LM9.cell 1
        have p4' := LM9.frozen 0
        have p5' := LM9.frozen 1
        have FIN := Lib.hid (Twin.put S9 HC8.out HL8.out LM9 O9 Hn7.out B9 R9 (by omega) (by omega) (by omega) W4)
        clear SP S9 E9 LN9 LM9 O9 B9 R9 HLN8 HT8 HO8 hY HC8 HL8 Hn7
        go_wp2_with fail
        refine FIN.out.is.mono ?_
        rintro e w10 ⟨rfl, hb10⟩
        have F2 := Lib.hid (FIN.out.kept hb10)
        clear FIN hb10 n0 n1 p2' p3' p4' p5'
        go_wp2
        exact ⟨⟨j + 1, _, _, _, _, _, _, by omega, by go_num, F2.out⟩, by simp [intOf]; omega⟩
      · go_wp2_with fail
        rw [← hX]
        refine (rwrite_any s A n c' obs HTX.out.st.fine HTX.out.own HTX.out.room HTX.out.count (by have := HTX.out.len; simp at this; omega) a f v ⟨hv0, hv1⟩).mono ?_
        rintro e w7 ⟨⟨A7, n7, c7, xs7, rfl, hn7, O7⟩, hb7⟩
        obtain ⟨Y, hY⟩ : ∃ Y : Obj, Y = .cells #[.int .i64 (s : Int), .slice A7 n7 c7] 41 := ⟨_, rfl⟩
        have bY := below_one w7 Y
        have T8 := (HTX.out.kept hb7).kept bY
        have LD8 := (HLD.out.below hb7 HLD.out.lt).alloc Y
        have LN8 : Lies (w7.alloc Y) w7.heap.size 41 [.int .i64 (s : Int), .slice A7 n7 c7] := by rw [hY]; exact Lies.new w7 41 [_, _]
        have O8 := O7.kept bY
        have C8 := clean_write (a := a) (f := f) (v := v) T8.clean ⟨hv0, hv1⟩
        have SP := Lib.hid (write_st T8.st a f v hv0 hv1)
        have len8 : (flat (writeF obs a f v).2 ++ tail).length = s := by
          have h1 := write_len (obs := obs) (a := a) (f := f) (v := v)
          have h2 := T8.len
          simp only [List.length_append] at h2 ⊢
          omega
        have m2 : (w7.alloc Y).cell? ⟨wr.heap.size, 4, none⟩ = some (.int .i64 a) := LD8.cell 4
        have m3 : (w7.alloc Y).cell? ⟨wr.heap.size, 5, none⟩ = some (.int .i64 f) := LD8.cell 5
        have m4 : (w7.alloc Y).cell? ⟨wr.heap.size, 6, none⟩ = some (.int .i64 v) := LD8.cell 6
        have hsz : wr.heap.size < w7.heap.size := by have := hb7.size; simp at this; omega
        have HT8 := Lib.hid T8
        have HLN8 := Lib.hid LN8
        have HO8 := Lib.hid O8
        have HC8 := Lib.hid C8
        have HL8 := Lib.hid len8
        have Hn7 := Lib.hid hn7
        have hrm := HTX.out.room
        rw [hY] at m2 m3 m4
        clear T8 LD8 LN8 O8 C8 len8 hn7 O7 bY hb7 c0 c1 c2 c3 c4 c5 c6 z0 z1 HTX HLD hX
        generalize writeF obs a f v = R at *
        obtain ⟨x1, obs2⟩ := R
        simp only at SP HO8 HC8 HL8 Hn7 ⊢
        go_wp2_with fail
        rw [← hY]
        refine SP.out.mono ?_
        rintro e w9 ⟨rfl, S9, E9⟩
        have hw7 : w2.heap.size ≤ w7.heap.size := by simp at hrm; omega
        have LN9 := E9.lies HLN8.out (by omega) (by omega) (by omega)
        have LM9 := E9.lies HT8.out.box (by omega) (by omega) (by omega)
        have O9 := HO8.out.else3 E9 hg1 hg2 hg3
        have B9 := HT8.out.old.trans (E9.below HT8.out.old.size W1 W2 W3)
        have R9 := Nat.le_trans HT8.out.room E9.size
        have n0 : w9.cell? ⟨w7.heap.size, 0, none⟩ = some (.int .i64 (s : Int)) := LN9.cell 0
        have n1 : w9.cell? ⟨w7.heap.size, 1, none⟩ = some (.slice A7 n7 c7) := LN9.cell 1
        have p2' : w9.cell? ⟨w2.heap.size, 0, none⟩ = some (.int .i64 (s : Int)) := LM9.cell 0
        have p3' : w9.cell? ⟨w2.heap.size, 1, none⟩ = some (.slice A n c') := LM9.cell 1
        have p4' := LM9.frozen 0
        have p5' := LM9.frozen 1
        have FIN := Lib.hid (Twin.put S9 HC8.out HL8.out LM9 O9 Hn7.out B9 R9 (by omega) (by omega) (by omega) W4)
        clear SP S9 E9 LN9 LM9 O9 B9 R9 HLN8 HT8 HO8 hY HC8 HL8 Hn7
        go_wp2_with fail
        refine FIN.out.is.mono ?_
        rintro e w10 ⟨rfl, hb10⟩
        have F2 := Lib.hid (FIN.out.kept hb10)
        clear FIN hb10 n0 n1 p2' p3' p4' p5'
        go_wp2
        exact ⟨⟨j + 1, _, _, _, _, _, _, by omega, by go_num, F2.out⟩, by simp [intOf]; omega⟩
      · cases hl : look obs a with
        | none =>
          have hr : readF obs a f = (0, 3) := by unfold readF; rw [hl]
          have hh : headF obs a = ((0, 0, 0), 3) := by unfold headF; rw [hl]
          have hv : findV obs a = -1 := by unfold findV; rw [hl]
          clear hl
          have RD := Lib.hid (read_st HTX.out.st a f)
          have n6 : n ≤ 65536 := by have h1 := HTX.out.len; have h2 := HTX.out.count; have h3 := count_le obs; simp at h1; omega
          rw [hr] at RD
          go_wp2_with fail
          rw [← hX]
          refine RD.out.mono ?_
          rintro e w7 ⟨rfl, hb7⟩
          have T7 := HTX.out.kept hb7
          have LD7 := HLD.out.below hb7 HLD.out.lt
          have HED := Lib.hid (headF_st T7.st a)
          rw [hh] at HED
          have m4 : w7.cell? ⟨wr.heap.size, 4, none⟩ = some (.int .i64 a) := LD7.cell 4
          have HT7 := Lib.hid T7
          have HLD7 := Lib.hid LD7
          clear T7 LD7 hb7 HTX HLD RD c0 c1 c2 c3 c4 c5 c6 z0 z1 zl hX hr hh
          go_wp2_with fail
          refine HED.out.mono ?_
          rintro e w8 ⟨rfl, hb8⟩
          obtain ⟨X2, hX2⟩ : ∃ X2 : Obj, X2 = .cells #[.int .i64 (0), .int .i64 (0), .int .i64 (0)] 23 := ⟨_, rfl⟩
          have T8 := (HT7.out.kept hb8).kept (below_one w8 X2)
          have LD8 := (HLD7.out.below hb8 HLD7.out.lt).alloc X2
          have LX8 : Lies (w8.alloc X2) w8.heap.size 23 [.int .i64 (0), .int .i64 (0), .int .i64 (0)] := by rw [hX2]; exact Lies.new w8 23 [_, _, _]
          have m4 : (w8.alloc X2).cell? ⟨wr.heap.size, 4, none⟩ = some (.int .i64 a) := LD8.cell 4
          have z0 : (w8.alloc X2).cell? ⟨w2.heap.size, 0, none⟩ = some (.int .i64 (s : Int)) := T8.box.cell 0
          have z1 : (w8.alloc X2).cell? ⟨w2.heap.size, 1, none⟩ = some (.slice A n c') := T8.box.cell 1
          have HT8 := Lib.hid T8
          have HLD8 := Lib.hid LD8
          have HLX8 := Lib.hid LX8
          rw [hX2] at m4 z0 z1
          clear T8 LD8 LX8 hb8 HT7 HLD7 HED
          go_wp2_with fail
          rw [← hX2]
          refine (rfind_any (s : Int) a n c' HT8.out.own.things HT8.out.count n6).mono ?_
          rintro e w9 ⟨rfl, hb9⟩
          rw [hv]
          have T9 := HT8.out.kept hb9
          have LD9 := HLD8.out.below hb9 HLD8.out.lt
          have LX9 := HLX8.out.below hb9 HLX8.out.lt
          have z0 : w9.cell? ⟨w2.heap.size, 0, none⟩ = some (.int .i64 (s : Int)) := T9.box.cell 0
          have z1 : w9.cell? ⟨w2.heap.size, 1, none⟩ = some (.slice A n c') := T9.box.cell 1
          have x0 : w9.cell? ⟨w8.heap.size, 0, none⟩ = some (.int .i64 (0)) := LX9.cell 0
          have x1 : w9.cell? ⟨w8.heap.size, 1, none⟩ = some (.int .i64 (0)) := LX9.cell 1
          have x2 : w9.cell? ⟨w8.heap.size, 2, none⟩ = some (.int .i64 (0)) := LX9.cell 2
          have m5 : w9.cell? ⟨wr.heap.size, 5, none⟩ = some (.int .i64 f) := LD9.cell 5
          have HT9 := Lib.hid T9
          clear T9 LD9 LX9 hb9 HT8 HLD8 HLX8 hX2 hv
          go_wp2
          exact ⟨⟨j + 1, _, _, _, _, _, _, by omega, by go_num, HT9.out⟩, by simp [intOf]; omega⟩
        | some x =>
          obtain ⟨pre, o, post⟩ := x
          obtain ⟨hv, ho⟩ := find_look hl
          simp only at hv ho
          obtain ⟨e0, ea⟩ := look_some _ _ _ hl
          have hfo := HTX.out.st.fine o (by rw [e0]; simp)
          have hol := hfo.2
          have hz0 := head_nn hfo.1
          have hz1 := head_lt hfo.1
          have hr : readF obs a f = if 0 ≤ f ∧ f < o.1 / 65536 then (o.2.getD f.toNat 0, 0) else (0, 4) := by unfold readF; rw [hl]
          have hh : headF obs a = ((o.1 % 16, o.1 / 65536, o.1 % 65536 / 16), 0) := by unfold headF; rw [hl]
          have hi : pre.length < n := by
            have := (List.getElem?_eq_some_iff.1 ho).1
            rw [HTX.out.count] at this; exact this
          obtain ⟨i, hie⟩ : ∃ i, pre.length = i := ⟨_, rfl⟩
          rw [hie] at hv ho hi
          have HO := Lib.hid ho
          obtain ⟨z, hzo⟩ : ∃ z, o.1 = z := ⟨_, rfl⟩
          obtain ⟨q, hq⟩ : ∃ q, o.2.length = q := ⟨_, rfl⟩
          have hql : lenOf z = q := by rw [← hzo, ← hol, hq]
          have hqz : z / 65536 = (q : Int) := by rw [hzo] at hz0; unfold lenOf at hql; omega
          rw [hzo] at hr hh hz0 hz1
          have HZO := Lib.hid hzo
          have HOL := Lib.hid hq
          have HQZ := Lib.hid hqz
          clear hl e0 ea hie hzo ho hfo hol hq hql hqz
          by_cases h1 : 0 ≤ f ∧ f < z / 65536
          · rw [if_pos h1] at hr
            obtain ⟨f, rfl⟩ := Int.eq_ofNat_of_zero_le h1.1
            obtain ⟨h1a, h1b⟩ := h1
            have hfq : (f : Int) < (q : Int) := by rw [← HQZ.out]; exact h1b
            rw [Int.toNat_natCast] at hr
            obtain ⟨u, hu⟩ : ∃ u, o.2.getD f 0 = u := ⟨_, rfl⟩
            rw [hu] at hr
            have HU := Lib.hid hu
            clear hu
            have RD := Lib.hid (read_st HTX.out.st a f)
            have n6 : n ≤ 65536 := by have h1 := HTX.out.len; have h2 := HTX.out.count; have h3 := count_le obs; simp at h1; omega
            rw [hr] at RD
            go_wp2_with fail
            rw [← hX]
            refine RD.out.mono ?_
            rintro e w7 ⟨rfl, hb7⟩
            have T7 := HTX.out.kept hb7
            have LD7 := HLD.out.below hb7 HLD.out.lt
            have HED := Lib.hid (headF_st T7.st a)
            rw [hh] at HED
            have m4 : w7.cell? ⟨wr.heap.size, 4, none⟩ = some (.int .i64 a) := LD7.cell 4
            have HT7 := Lib.hid T7
            have HLD7 := Lib.hid LD7
            clear T7 LD7 hb7 HTX HLD RD c0 c1 c2 c3 c4 c5 c6 z0 z1 zl hX hr hh
            go_wp2_with fail
            refine HED.out.mono ?_
            rintro e w8 ⟨rfl, hb8⟩
            obtain ⟨X2, hX2⟩ : ∃ X2 : Obj, X2 = .cells #[.int .i64 (z % 16), .int .i64 (z / 65536), .int .i64 (z % 65536 / 16)] 23 := ⟨_, rfl⟩
            have T8 := (HT7.out.kept hb8).kept (below_one w8 X2)
            have LD8 := (HLD7.out.below hb8 HLD7.out.lt).alloc X2
            have LX8 : Lies (w8.alloc X2) w8.heap.size 23 [.int .i64 (z % 16), .int .i64 (z / 65536), .int .i64 (z % 65536 / 16)] := by rw [hX2]; exact Lies.new w8 23 [_, _, _]
            have m4 : (w8.alloc X2).cell? ⟨wr.heap.size, 4, none⟩ = some (.int .i64 a) := LD8.cell 4
            have z0 : (w8.alloc X2).cell? ⟨w2.heap.size, 0, none⟩ = some (.int .i64 (s : Int)) := T8.box.cell 0
            have z1 : (w8.alloc X2).cell? ⟨w2.heap.size, 1, none⟩ = some (.slice A n c') := T8.box.cell 1
            have HT8 := Lib.hid T8
            have HLD8 := Lib.hid LD8
            have HLX8 := Lib.hid LX8
            rw [hX2] at m4 z0 z1
            clear T8 LD8 LX8 hb8 HT7 HLD7 HED
            go_wp2_with fail
            rw [← hX2]
            refine (rfind_any (s : Int) a n c' HT8.out.own.things HT8.out.count n6).mono ?_
            rintro e w9 ⟨rfl, hb9⟩
            rw [hv]
            have T9 := HT8.out.kept hb9
            have LD9 := HLD8.out.below hb9 HLD8.out.lt
            have LX9 := HLX8.out.below hb9 HLX8.out.lt
            have z0 : w9.cell? ⟨w2.heap.size, 0, none⟩ = some (.int .i64 (s : Int)) := T9.box.cell 0
            have z1 : w9.cell? ⟨w2.heap.size, 1, none⟩ = some (.slice A n c') := T9.box.cell 1
            have x0 : w9.cell? ⟨w8.heap.size, 0, none⟩ = some (.int .i64 (z % 16)) := LX9.cell 0
            have x1 : w9.cell? ⟨w8.heap.size, 1, none⟩ = some (.int .i64 (z / 65536)) := LX9.cell 1
            have x2 : w9.cell? ⟨w8.heap.size, 2, none⟩ = some (.int .i64 (z % 65536 / 16)) := LX9.cell 2
            have m5 : w9.cell? ⟨wr.heap.size, 5, none⟩ = some (.int .i64 f) := LD9.cell 5
            have HT9 := Lib.hid T9
            clear T9 LD9 LX9 hb9 HT8 HLD8 HLX8 hX2 hv
            obtain ⟨ad2, bd, cc, rfl, k0, k1, k2, k3, k4, hR, hadl⟩ := (HT9.out.own.things.at2 HO.out (Below.refl _ _))
            rw [HZO.out] at k1 k2 k3
            rw [HOL.out] at k4
            have i0 : (0 : Int) ≤ (i : Int) := by omega
            have i1 : (i : Int) < (n : Int) := by omega
            have rw1 : w9.cell? (bd.add f) = some (.int .i64 u) := row_news hR f _ (by rw [List.getElem?_map, List.getElem?_eq_getElem (by have := HOL.out; omega)]; rw [← HU.out]; simp [List.getD, List.getElem?_eq_getElem (show f < o.2.length by have := HOL.out; omega)])
            clear k0 hadl hR
            go_wp2_with fail
            go_quiet (fail)
            go_wp2_with fail
            go_quiet (fail)
            go_wp2_with fail
            refine (HT9.out.kept (below_draws w9 _)).is.mono ?_
            rintro e w10 ⟨rfl, hb10⟩
            have F2 := Lib.hid ((HT9.out.kept (below_draws w9 _)).kept hb10)
            clear HT9 hb10 x0 x1 x2 m5 z0 z1 k1 k2 k3 k4
            go_wp2
            exact ⟨⟨j + 1, _, _, _, _, _, _, by omega, by go_num, F2.out⟩, by simp [intOf]; omega⟩
          · rw [if_neg h1] at hr
            have RD := Lib.hid (read_st HTX.out.st a f)
            have n6 : n ≤ 65536 := by have h1 := HTX.out.len; have h2 := HTX.out.count; have h3 := count_le obs; simp at h1; omega
            rw [hr] at RD
            go_wp2_with fail
            rw [← hX]
            refine RD.out.mono ?_
            rintro e w7 ⟨rfl, hb7⟩
            have T7 := HTX.out.kept hb7
            have LD7 := HLD.out.below hb7 HLD.out.lt
            have HED := Lib.hid (headF_st T7.st a)
            rw [hh] at HED
            have m4 : w7.cell? ⟨wr.heap.size, 4, none⟩ = some (.int .i64 a) := LD7.cell 4
            have HT7 := Lib.hid T7
            have HLD7 := Lib.hid LD7
            clear T7 LD7 hb7 HTX HLD RD c0 c1 c2 c3 c4 c5 c6 z0 z1 zl hX hr hh
            go_wp2_with fail
            refine HED.out.mono ?_
            rintro e w8 ⟨rfl, hb8⟩
            obtain ⟨X2, hX2⟩ : ∃ X2 : Obj, X2 = .cells #[.int .i64 (z % 16), .int .i64 (z / 65536), .int .i64 (z % 65536 / 16)] 23 := ⟨_, rfl⟩
            have T8 := (HT7.out.kept hb8).kept (below_one w8 X2)
            have LD8 := (HLD7.out.below hb8 HLD7.out.lt).alloc X2
            have LX8 : Lies (w8.alloc X2) w8.heap.size 23 [.int .i64 (z % 16), .int .i64 (z / 65536), .int .i64 (z % 65536 / 16)] := by rw [hX2]; exact Lies.new w8 23 [_, _, _]
            have m4 : (w8.alloc X2).cell? ⟨wr.heap.size, 4, none⟩ = some (.int .i64 a) := LD8.cell 4
            have z0 : (w8.alloc X2).cell? ⟨w2.heap.size, 0, none⟩ = some (.int .i64 (s : Int)) := T8.box.cell 0
            have z1 : (w8.alloc X2).cell? ⟨w2.heap.size, 1, none⟩ = some (.slice A n c') := T8.box.cell 1
            have HT8 := Lib.hid T8
            have HLD8 := Lib.hid LD8
            have HLX8 := Lib.hid LX8
            rw [hX2] at m4 z0 z1
            clear T8 LD8 LX8 hb8 HT7 HLD7 HED
            go_wp2_with fail
            rw [← hX2]
            refine (rfind_any (s : Int) a n c' HT8.out.own.things HT8.out.count n6).mono ?_
            rintro e w9 ⟨rfl, hb9⟩
            rw [hv]
            have T9 := HT8.out.kept hb9
            have LD9 := HLD8.out.below hb9 HLD8.out.lt
            have LX9 := HLX8.out.below hb9 HLX8.out.lt
            have z0 : w9.cell? ⟨w2.heap.size, 0, none⟩ = some (.int .i64 (s : Int)) := T9.box.cell 0
            have z1 : w9.cell? ⟨w2.heap.size, 1, none⟩ = some (.slice A n c') := T9.box.cell 1
            have x0 : w9.cell? ⟨w8.heap.size, 0, none⟩ = some (.int .i64 (z % 16)) := LX9.cell 0
            have x1 : w9.cell? ⟨w8.heap.size, 1, none⟩ = some (.int .i64 (z / 65536)) := LX9.cell 1
            have x2 : w9.cell? ⟨w8.heap.size, 2, none⟩ = some (.int .i64 (z % 65536 / 16)) := LX9.cell 2
            have m5 : w9.cell? ⟨wr.heap.size, 5, none⟩ = some (.int .i64 f) := LD9.cell 5
            have HT9 := Lib.hid T9
            clear T9 LD9 LX9 hb9 HT8 HLD8 HLX8 hX2 hv
            obtain ⟨ad2, bd, cc, rfl, k0, k1, k2, k3, k4, hR, hadl⟩ := (HT9.out.own.things.at2 HO.out (Below.refl _ _))
            rw [HZO.out] at k1 k2 k3
            rw [HOL.out] at k4
            have i0 : (0 : Int) ≤ (i : Int) := by omega
            have i1 : (i : Int) < (n : Int) := by omega
            clear k0 hadl hR
            have hf : f < 0 ∨ (0 ≤ f ∧ z / 65536 ≤ f) := by omega
            clear h1
            rcases hf with hf0 | ⟨hf0, hf1⟩
            · go_wp2_with fail
              go_quiet (fail)
              go_wp2_with fail
              refine (HT9.out.kept (below_draws w9 _)).is.mono ?_
              rintro e w10 ⟨rfl, hb10⟩
              have F2 := Lib.hid ((HT9.out.kept (below_draws w9 _)).kept hb10)
              clear HT9 hb10 x0 x1 x2 m5 z0 z1 k1 k2 k3 k4
              go_wp2
              exact ⟨⟨j + 1, _, _, _, _, _, _, by omega, by go_num, F2.out⟩, by simp [intOf]; omega⟩
            · go_wp2_with fail
              go_quiet (fail)
              go_wp2_with fail
              refine (HT9.out.kept (below_draws w9 _)).is.mono ?_
              rintro e w10 ⟨rfl, hb10⟩
              have F2 := Lib.hid ((HT9.out.kept (below_draws w9 _)).kept hb10)
              clear HT9 hb10 x0 x1 x2 m5 z0 z1 k1 k2 k3 k4
              go_wp2
              exact ⟨⟨j + 1, _, _, _, _, _, _, by omega, by go_num, F2.out⟩, by simp [intOf]; omega⟩
    · go_wp2
      go_ret
      exact ⟨rfl, T.old⟩
end Go.Proofs.Ytccojidhghgikaa
