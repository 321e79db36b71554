/- The walk of AllocApart. -/
import Derived.Test.YtibfhpbklnpknaaApW
import Derived.BigQuiet
import Derived.Deep.QuietTactic
namespace Go.Proofs.Ytibfhpbklnpknaa
open Go.RowKit
set_option linter.unusedVariables false
set_option linter.unusedSimpArgs false

theorem noBits_full (n : Nat) : noBits n = (full [] (List.replicate n 0)).map Value.bool := by simp [noBits, full, mask_nil]

theorem Lies.new1 (w : World) (o : Obj) (t : TypeId) (cs : List Value) : Lies ((w.alloc o).alloc (.cells cs.toArray t)) (w.heap.size + 1) t cs := by
  have := Lies.new (w.alloc o) t cs
  rwa [World.size_alloc] at this
theorem below_two (w : World) (a b : Obj) : Below w.heap.size w ((w.alloc a).alloc b) := (below_one w a).alloc (below_one w a).size b
theorem rep_zero (m i : Nat) : (List.replicate m (0 : Int)).getD i 0 = 0 := by
  by_cases h : i < m <;> simp [List.getD, List.getElem?_replicate, h]

set_option maxRecDepth 100000 in
set_option maxHeartbeats 4000000 in
theorem apart_yes (x0 x1 : Int) (B : Option Addr) (c : Nat) (ds : List Deal) (w : World) (hx : 0 ≤ x0) (hx' : x0 ≤ 65535) (h2 : ds.length ≤ 40) (hd : Deals w B ds) (hz : ∀ d ∈ ds, d.fit) (y0 : 0 ≤ x1) (y1 : x1 ≤ 255) :
    Calls Try.prog 4 #[.int .u16 x0, .int .u8 x1, .slice B ds.length c] w fun e w' => e = .returned (.bool true) ∧ Below w.heap.size w w' := by
  have d1 : decide ((40 : Int) < (ds.length : Int)) = false := by simp; omega
  have HD := Lib.hid hd
  have HZ := Lib.hid hz
  have hnil := fun W g => anil_ne W g
  obtain ⟨n, hn⟩ : ∃ n : Nat, 1 + x0 % 400 = (n : Int) := ⟨(1 + x0 % 400).toNat, by omega⟩
  have n1 : 1 ≤ n := by omega
  have n2 : n ≤ 400 := by omega
  have HN := Lib.hid hn
  have hmk := make75 n (by omega)
  clear hd hz hn
  go_enter Try.func4, Try.ntmps4
  go_wp2_with fail
  refine (awake_any _).mono ?_
  rintro e w1 ⟨rfl, hb1⟩
  have HB1 := Lib.hid hb1
  clear hb1
  go_wp2_with fail
  rw [HN.out]
  refine (new_st n _ n1 (by omega)).mono ?_
  rintro e w2 ⟨g, gw, gb, rfl, hb2, q1, q2, q3, S2⟩
  have sz1 := HB1.out.size
  have HB2 := Lib.hid (on HB1.out HB1.out.size hb2)
  have HS2 := Lib.hid S2
  have l1 := S2.lies.own.lt
  have l2 := S2.lies.words.lt
  have l3 := S2.lies.begins.lt
  clear hb2 S2
  go_wp2_with fail
  refine (anew_yes HS2.out 4 x1 (by omega) (by omega)).mono ?_
  rintro e w4 ⟨ga, gf, rfl, A4, hb4, q7, q8⟩
  have sz4 := hb4.size
  have HB4 := Lib.hid (on HB2.out HB2.out.size hb4)
  have l7 := A4.own.lt
  have l8 := A4.row.lt
  have sz2 := HB2.out.size
  have FR := Lib.hid (show Low w.heap.size ga gf g gw gb w4.heap.size (w4.heap.size + 1) from by
    refine ⟨?_, ?_, ?_, ?_, ?_, ?_, ?_, ?_, ?_, ?_, ?_⟩ <;> omega)
  have bX := below_one w4 (.cells (noBits n).toArray 4)
  have P5 : Ap w (w4.alloc (.cells (noBits n).toArray 4)) ga gf g gw gb w4.heap.size (w4.heap.size + 1) (sizeF x1) n (List.replicate 4 0) [] (List.replicate n 0) none 0 [] none 0 [] := by
    refine ⟨A4.kept bX, by simp [flat_nil], ⟨fun i hi => ?_, fun i j hij hi => ?_⟩, clean_nil, ?_, ⟨World.ownsRow_nil _ _ _ _, World.ownsRow_nil _ _ _ _, fun b hb => (by cases hb), by simp⟩, rfl, fun i hi => by simp at hi, on HB4.out HB4.out.size bX⟩
    · exact absurd (rep_zero 4 i) hi
    · exact absurd (rep_zero 4 i) hi
    · rw [← noBits_full]; exact Lies.new w4 4 (noBits n)
  have HP5 := Lib.hid P5
  clear hb4 A4 P5 HS2 HB4 HB2 HB1 q1 q2 q3 q7 q8 l1 l2 l3 l7 l8 sz1 sz2 sz4 bX
  generalize sizeF x1 = s at *
  generalize (w4.heap.size + 1) = N at FR HP5
  go_wp2
  go_loopw [65, 13, 14, 16, 17, 18, 19, 20, 21, 22] (fun i v13 v14 _ _ _ _ _ _ _ wr => ∃ (j : Nat) (bs : List Int) (obs : List Ob) (tail : List Int) (A1 : Option Addr) (c1 : Nat) (xs : List Int) (A2 : Option Addr) (c2 : Nat) (hs : List Hd), j ≤ ds.length ∧ xs.length ≤ j ∧ i = .int .i64 j ∧ v13 = .slice A1 xs.length c1 ∧ v14 = .slice A2 hs.length c2 ∧ Ap w wr ga gf g gw gb w4.heap.size N s n bs obs tail A1 c1 xs A2 c2 hs) (fun i _ _ _ _ _ _ _ _ _ _ => ds.length - (intOf i).toNat)
  case atStart => exact ⟨0, _, _, _, _, _, [], _, _, [], Nat.zero_le _, Nat.le_refl _, rfl, rfl, rfl, HP5.out⟩
  case round =>
    obtain ⟨j, bs, obs, tail, A1, c1, xs, A2, c2, hs, hj, hxj, rfl, rfl, rfl, P⟩ := hrel
    generalize w4.heap.size = bt at *
    by_cases hjl : j < ds.length
    · obtain ⟨ad, rfl, c0, c1', c2', c3, c4⟩ := HD.out.at_ hjl wr P.old
      have hfit := HZ.out ds[j] (List.getElem_mem hjl)
      generalize ds[j] = d at c0 c1' c2' c3 c4 hfit
      obtain ⟨kd, th, k, l, p⟩ := d
      simp only at c0 c1' c2' c3 c4
      have k0 : 0 ≤ kd := hfit.1.1
      have k1 : kd ≤ 255 := hfit.1.2
      have j0 : (0 : Int) ≤ (j : Int) := by omega
      have j1 : (j : Int) < (ds.length : Int) := by omega
      obtain ⟨X, hX⟩ : ∃ X : Obj, X = .cells #[.int .u8 kd, .int .i64 th, .int .i64 k, .int .i64 l, .int .i64 p] 45 := ⟨_, rfl⟩
      have PX := P.kept (below_one wr X)
      have LX : Lies (wr.alloc X) wr.heap.size 45 [.int .u8 kd, .int .i64 th, .int .i64 k, .int .i64 l, .int .i64 p] := by rw [hX]; exact Lies.new wr 45 [_, _, _, _, _]
      have HPX := Lib.hid PX
      have HLX := Lib.hid LX
      have ne1 : wr.heap.size ≠ g := by have := P.al.st.lies.own.lt; omega
      have ne2 : wr.heap.size ≠ gw := by have := P.al.st.lies.words.lt; omega
      have ne3 : wr.heap.size ≠ gb := by have := P.al.st.lies.begins.lt; omega
      have ne4 : wr.heap.size ≠ gf := by have := P.al.row.lt; omega
      have ne5 : wr.heap.size ≠ bt := by have := P.taken.lt; omega
      have ne6 : blk A1 ≠ some wr.heap.size := fun e => by have := (P.two.at1 e).2; omega
      have ne7 : blk A2 ≠ some wr.heap.size := fun e => by have := (P.two.at2 e).2; omega
      have HTt := Lib.hid (alloc_total s bs tail (kd % 4) k l p P.al.st.fine)
      have HCl := Lib.hid (clean_alloc (size := s) (bs := bs) (tail := tail) (t := kd % 4) (k := k) (l := l) (p := p) P.al.st.fine P.clean)
      have HTk := Lib.hid (fun h => alloc_took (tail := tail) (t := kd % 4) (k := k) (l := l) (p := p) P.al.lo P.al.hi P.al.st.fine P.bufs h)
      have HMs := Lib.hid (fun h => alloc_miss (size := s) (tail := tail) (t := kd % 4) (k := k) (l := l) (p := p) P.bufs h)
      have HA := Lib.hid (Alloc_any PX.al (kd % 4) k l p)
      generalize allocF s bs obs tail (kd % 4) k l p = R at *
      obtain ⟨r, cd, bs2, obs2, tail2⟩ := R
      simp only at HA HTt HCl HTk HMs
      have m2 : (wr.alloc X).cell? ⟨wr.heap.size, 2, none⟩ = some (.int .i64 k) := LX.cell 2
      have m3 : (wr.alloc X).cell? ⟨wr.heap.size, 3, none⟩ = some (.int .i64 l) := LX.cell 3
      have m4 : (wr.alloc X).cell? ⟨wr.heap.size, 4, none⟩ = some (.int .i64 p) := LX.cell 4
      have m0 : (wr.alloc X).cell? ⟨wr.heap.size, 0, none⟩ = some (.int .u8 kd) := LX.cell 0
      subst hX
      clear P PX LX HP5 hfit
      go_wp2_with fail
      refine HA.out.mono ?_
      rintro e w6 ⟨rfl, A6, E6⟩
      have HA6 := Lib.hid A6
      have HE6 := Lib.hid E6
      have HO6 := Lib.hid (HPX.out.old.trans (E6.below HPX.out.old.size FR.out.o1 FR.out.o2 FR.out.o3 FR.out.o4))
      have f1 := FR.out.l1
      have f2 := FR.out.l2
      have f3 := FR.out.l3
      have f4 := FR.out.l4
      have f5 := FR.out.l5
      have f6 := FR.out.l6
      have HLX6 := Lib.hid (E6.lies HLX.out ne1 ne2 ne3 ne4)
      have HTk6 := Lib.hid (E6.lies HPX.out.taken (by omega) (by omega) (by omega) (by omega))
      have HTw6 := Lib.hid (HPX.out.two.else4 E6 (by omega) (by omega) (by omega) (by omega))
      clear A6 E6 m0 m2 m3 m4 HA HLX
      generalize wr.heap.size = bx at *
      by_cases hcd : cd = 0
      · subst hcd
        obtain ⟨TK, hg, hk15⟩ := HTk.out rfl
        obtain ⟨A, C, pa, pc, pr⟩ := TK.parts
        obtain ⟨pre, post, pe, pr2⟩ := TK.here
        have l0 := ((good_iff k l p).1 hg).2.2.1
        have l9 := ((good_iff k l p).1 hg).2.2.2.1
        obtain ⟨ln, rfl⟩ := Int.eq_ofNat_of_zero_le l0
        obtain ⟨An, hAn⟩ : ∃ An, A.length = An := ⟨_, rfl⟩
        obtain rfl : r = (An : Int) := by rw [← pr, hAn]
        rw [Int.toNat_natCast] at pa pc
        have hfn : An + (1 + ln) ≤ n := by
          have e1 := congrArg List.length pa
          rw [full_length, HPX.out.len] at e1
          simp [hAn] at e1
          omega
        have HAn := Lib.hid hAn
        have HTK := Lib.hid TK
        have Hg := Lib.hid hg
        have H15 := Lib.hid hk15
        have Hpc := Lib.hid pc
        have Hpe := Lib.hid pe
        have Hpr := Lib.hid pr2
        have T0 : Lies w6 bt 4 ((A ++ (List.replicate (An - An) true ++ (List.replicate (An + (1 + ln) - An) false ++ C))).map Value.bool) := by
          have e1 : An - An = 0 := by omega
          have e2 : An + (1 + ln) - An = 1 + ln := by omega
          rw [e1, e2, List.replicate_zero, List.nil_append, ← pa]
          exact HTk6.out
        have HT0 := Lib.hid T0
        have m2 : w6.cell? ⟨bx, 2, none⟩ = some (.int .i64 k) := HLX6.out.cell 2
        have m3 : w6.cell? ⟨bx, 3, none⟩ = some (.int .i64 (ln : Int)) := HLX6.out.cell 3
        have m4 : w6.cell? ⟨bx, 4, none⟩ = some (.int .i64 p) := HLX6.out.cell 4
        have l9' : ln ≤ 4095 := by omega
        have a9 : An ≤ 400 := by omega
        clear TK pa pc pr pr2 pe hg hk15 hAn T0 HTk HMs l0 l9 HTk6
        have t1 : decide ((n : Int) < (An : Int) + 1 + (ln : Int)) = false := by simp; omega
        have t0 : decide ((An : Int) < 0) = false := by simp
        have t9 : (0 : Int) ≤ (An : Int) := by omega
        go_wp2_with fail
        go_loopw [19] (fun v19 ws => ∃ i : Nat, An ≤ i ∧ i ≤ An + (1 + ln) ∧ v19 = .int .i64 (i : Int) ∧ Lies ws bt 4 ((A ++ (List.replicate (i - An) true ++ (List.replicate (An + (1 + ln) - i) false ++ C))).map Value.bool) ∧ Else4 bt bt bt bt w6 ws) (fun v19 _ => An + (1 + ln) - (intOf v19).toNat)
        case atStart => exact ⟨An, Nat.le_refl _, by omega, rfl, HT0.out, Else4.refl _ _ _ _ _⟩
        case round =>
          obtain ⟨i, i0, i1, rfl, LT, EE⟩ := hrel
          have LX7 := EE.lies HLX6.out ne5 ne5 ne5 ne5
          have m3 : wr.cell? ⟨bx, 3, none⟩ = some (.int .i64 (ln : Int)) := LX7.cell 3
          by_cases hlt : i < An + (1 + ln)
          · obtain ⟨q, hq⟩ : ∃ q, i = An + q := ⟨i - An, by omega⟩
            obtain ⟨m, hm⟩ : ∃ m, An + (1 + ln) - i = m + 1 := ⟨An + (1 + ln) - i - 1, by omega⟩
            have e1 : i - An = q := by omega
            rw [e1, hm] at LT
            have cb : wr.cell? ⟨bt, i, none⟩ = some (.bool false) := by
              rw [LT.cell i, List.getElem?_map]
              have := fill_at A C q m
              rw [HAn.out, ← hq] at this
              rw [this]; rfl
            have cf := LT.frozen i
            have LN : Lies (wr.setCell ⟨bt, i, none⟩ (.bool true)) bt 4 ((A ++ (List.replicate (i + 1 - An) true ++ (List.replicate (An + (1 + ln) - (i + 1)) false ++ C))).map Value.bool) := by
              have := LT.set i (.bool true)
              rw [← List.map_set] at this
              have e2 := fill_set A C q m
              rw [HAn.out, ← hq] at e2
              rw [e2] at this
              have e3 : i + 1 - An = q + 1 := by omega
              have e4 : An + (1 + ln) - (i + 1) = m := by omega
              rw [e3, e4]
              exact this
            have HLN := Lib.hid LN
            have HEN := Lib.hid (EE.put i (.bool true))
            have j3 : (0 : Int) ≤ (i : Int) := by omega
            have j4 : (i : Int) < (n : Int) := by omega
            have t2 : decide ((i : Int) < (An : Int) + 1 + (ln : Int)) = true := by simp; omega
            clear LT EE LN hq hm e1 LX7
            go_wp2
            go_roundw
            case rel => exact ⟨i + 1, by omega, by omega, by go_num, HLN.out, HEN.out⟩
            case measure => simp [intOf]; omega
          · have hi : i = An + (1 + ln) := by omega
            have t2 : decide ((i : Int) < (An : Int) + 1 + (ln : Int)) = false := by simp; omega
            have LT2 : Lies wr bt 4 ((full obs2 tail2).map Value.bool) := by
              have e1 : i - An = 1 + ln := by omega
              have e2 : An + (1 + ln) - i = 0 := by omega
              rw [e1, e2, List.replicate_zero, List.nil_append, ← Hpc.out] at LT
              exact LT
            have HLT := Lib.hid LT2
            have HA7 := Lib.hid (HA6.out.else4 EE ⟨by omega, by omega, by omega, by omega⟩ ⟨by omega, by omega, by omega, by omega⟩ ⟨by omega, by omega, by omega, by omega⟩ ⟨by omega, by omega, by omega, by omega⟩ ⟨by omega, by omega, by omega, by omega⟩)
            have HO7 := Lib.hid (HO6.out.trans (EE.below HO6.out.size FR.out.o5 FR.out.o5 FR.out.o5 FR.out.o5))
            have HW7 := Lib.hid (HTw6.out.else4 EE (by omega) (by omega) (by omega) (by omega))
            have HX7 := Lib.hid LX7
            clear LT LT2 EE LX7 hi HT0 HA6 HO6 HTw6 HLX6
            obtain ⟨w7, hw7⟩ : ∃ w7, w7 = wr := ⟨_, rfl⟩
            subst hw7
            go_wp2_with fail
            go_loopw [115, 20, 21, 22] (fun i _ _ _ ws => ∃ q : Nat, q ≤ ln ∧ i = .int .i64 (q : Int) ∧ Below w7.heap.size w7 ws) (fun i _ _ _ _ => ln - (intOf i).toNat)
            case atStart => exact ⟨0, Nat.zero_le _, rfl, Below.refl _ _⟩
            case round =>
              obtain ⟨q, hq, rfl, hbr⟩ := hrel
              by_cases hql : q < ln
              · have HR := Lib.hid (read_st (HA7.out.kept hbr).st (An : Int) (q : Int))
                have er : readF obs2 (An : Int) (q : Int) = (0, 0) := by
                  rw [Hpe.out, Hpr.out]
                  exact read_here _ _ _ _ _ _ Hg.out (by omega)
                rw [er] at HR
                have HBr := Lib.hid hbr
                clear hbr er
                have i0 : (q : Int) < (ln : Int) := by omega
                go_wp2_with fail
                refine HR.out.mono ?_
                rintro e w8 ⟨rfl, hb8⟩
                have HB8 := Lib.hid (on HBr.out HBr.out.size hb8)
                clear hb8
                go_wp2
                exact ⟨⟨q + 1, by omega, by go_num, HB8.out⟩, by simp [intOf]; omega⟩
              · obtain ⟨Wg, hWg⟩ : ∃ Wg, Wg = wr := ⟨_, rfl⟩
                subst hWg
                have i0 : decide ((q : Int) < (ln : Int)) = false := by simp; omega
                have T0 := Lib.hid (HW7.out.kept hbr)
                have X0 := Lib.hid (HX7.out.below hbr HX7.out.lt)
                have HA8 := Lib.hid (HA7.out.kept hbr)
                have HT8 := Lib.hid (HLT.out.below hbr HLT.out.lt)
                have HO8 := Lib.hid (on HO7.out HO7.out.size hbr)
                have m2 : Wg.cell? ⟨bx, 2, none⟩ = some (.int .i64 k) := X0.out.cell 2
                have m3 : Wg.cell? ⟨bx, 3, none⟩ = some (.int .i64 (ln : Int)) := X0.out.cell 3
                have m4 : Wg.cell? ⟨bx, 4, none⟩ = some (.int .i64 p) := X0.out.cell 4
                have bxl := X0.out.lt
                have nw1 : ∀ b, Wg.heap.size ≤ b → blk A1 ≠ some b := fun b hb e => by have := (T0.out.at1 e).2; omega
                have nw2 : ∀ b, Wg.heap.size ≤ b → blk A2 ≠ some b := fun b hb e => by have := (T0.out.at2 e).2; omega
                have hxn : xs.length ≤ 1000 := by omega
                have hhn : hs.length ≤ 1000 := by rw [← HPX.out.same]; omega
                clear hbr HW7 HX7 HA7 HLT HO7 hq
                go_wp2_with fail
                go_region_held3 (fun W => W.cell? ⟨bx, 2, none⟩ = some (.int .i64 k) ∧ W.cell? ⟨bx, 3, none⟩ = some (.int .i64 (ln : Int)) ∧ W.cell? ⟨bx, 4, none⟩ = some (.int .i64 p))
                  (first | exact ⟨m2, m3, m4⟩ | exact ⟨X2.cell 2, X2.cell 3, X2.cell 4⟩ | exact ⟨X1.cell 2, X1.cell 3, X1.cell 4⟩ | exact ⟨(X1.alloc _).cell 2, (X1.alloc _).cell 3, (X1.alloc _).cell 4⟩ | exact ⟨(X0.out.alloc _).cell 2, (X0.out.alloc _).cell 3, (X0.out.alloc _).cell 4⟩ | exact ⟨((X0.out.alloc _).alloc _).cell 2, ((X0.out.alloc _).alloc _).cell 3, ((X0.out.alloc _).alloc _).cell 4⟩ | go_keep)
                  ((first
                  | (refine step_one (W := w2) (by rfl) (.tmp 132) (.tmp 134) (by rfl) N A1 c1 xs (some ⟨g1, 0, none⟩) cap1 (hs ++ [(k, (ln : Int), p)]) (by rfl) (Wg.heap.size) (An : Int) (by rfl) hxn ⟨(T1.kept (Below.refl w2.heap.size w2)), P3.out, ?_⟩; intro g2 cap2 w3 T2 G2 M2; have BL2 : Hid (Below N Wg w3) := Lib.hid (Below.trans (Below.trans BL1.out (Below.mono (Below.refl w2.heap.size w2) T1.room)) (grown_low G2 (fun k e => (T1.at1 e).1) (Nat.le_trans T1.room (Below.refl w2.heap.size w2).size))); have X2 := grown_lies G2 X1 ne6; clear G2 M2)
                  | (refine step_one (W := w2) (by rfl) (.tmp 132) (.tmp 134) (by rfl) N A1 c1 xs (some ⟨g1, 0, none⟩) cap1 (hs ++ [(k, (ln : Int), p)]) (by rfl) (Wg.heap.size + 1) (An : Int) (by rfl) hxn ⟨(T1.kept (Below.refl w2.heap.size w2)), P3.out, ?_⟩; intro g2 cap2 w3 T2 G2 M2; have BL2 : Hid (Below N Wg w3) := Lib.hid (Below.trans (Below.trans BL1.out (Below.mono (Below.refl w2.heap.size w2) T1.room)) (grown_low G2 (fun k e => (T1.at1 e).1) (Nat.le_trans T1.room (Below.refl w2.heap.size w2).size))); have X2 := grown_lies G2 X1 ne6; clear G2 M2)
                  | (refine step_one (W := w2.alloc (.cells #[.int .i64 (An : Int)] 3)) (by rfl) (.tmp 132) (.tmp 134) (by rfl) N A1 c1 xs (some ⟨g1, 0, none⟩) cap1 (hs ++ [(k, (ln : Int), p)]) (by rfl) (w2.heap.size) (An : Int) (by rfl) hxn ⟨(T1.kept (below_one w2 (.cells #[.int .i64 (An : Int)] 3))), Lies.new w2 3 [.int .i64 (An : Int)], ?_⟩; intro g2 cap2 w3 T2 G2 M2; have BL2 : Hid (Below N Wg w3) := Lib.hid (Below.trans (Below.trans BL1.out (Below.mono (below_one w2 (.cells #[.int .i64 (An : Int)] 3)) T1.room)) (grown_low G2 (fun k e => (T1.at1 e).1) (Nat.le_trans T1.room (below_one w2 (.cells #[.int .i64 (An : Int)] 3)).size))); have X2 := grown_lies G2 (X1.alloc _) ne6; clear G2 M2)
                  | (refine step_head (W := w2) (by rfl) (.tmp 136) (.tmp 139) (by rfl) N (some ⟨g1, 0, none⟩) cap1 (xs ++ [(An : Int)]) A2 c2 hs (by rfl) (Wg.heap.size) k (ln : Int) p (by rfl) hhn ⟨(T1.kept (Below.refl w2.heap.size w2)), P4.out, ?_⟩; intro g2 cap2 w3 T2 G2 M2; have BL2 : Hid (Below N Wg w3) := Lib.hid (Below.trans (Below.trans BL1.out (Below.mono (Below.refl w2.heap.size w2) T1.room)) (grown_low G2 (fun k e => (T1.at2 e).1) (Nat.le_trans T1.room (Below.refl w2.heap.size w2).size))); have X2 := grown_lies G2 X1 ne7; clear G2 M2)
                  | (refine step_head (W := w2) (by rfl) (.tmp 136) (.tmp 139) (by rfl) N (some ⟨g1, 0, none⟩) cap1 (xs ++ [(An : Int)]) A2 c2 hs (by rfl) (Wg.heap.size + 1) k (ln : Int) p (by rfl) hhn ⟨(T1.kept (Below.refl w2.heap.size w2)), P4.out, ?_⟩; intro g2 cap2 w3 T2 G2 M2; have BL2 : Hid (Below N Wg w3) := Lib.hid (Below.trans (Below.trans BL1.out (Below.mono (Below.refl w2.heap.size w2) T1.room)) (grown_low G2 (fun k e => (T1.at2 e).1) (Nat.le_trans T1.room (Below.refl w2.heap.size w2).size))); have X2 := grown_lies G2 X1 ne7; clear G2 M2)
                  | (refine step_head (W := w2.alloc (.cells #[.int .i64 k, .int .i64 (ln : Int), .int .i64 p] 40)) (by rfl) (.tmp 136) (.tmp 139) (by rfl) N (some ⟨g1, 0, none⟩) cap1 (xs ++ [(An : Int)]) A2 c2 hs (by rfl) (w2.heap.size) k (ln : Int) p (by rfl) hhn ⟨(T1.kept (below_one w2 (.cells #[.int .i64 k, .int .i64 (ln : Int), .int .i64 p] 40))), Lies.new w2 40 [.int .i64 k, .int .i64 (ln : Int), .int .i64 p], ?_⟩; intro g2 cap2 w3 T2 G2 M2; have BL2 : Hid (Below N Wg w3) := Lib.hid (Below.trans (Below.trans BL1.out (Below.mono (below_one w2 (.cells #[.int .i64 k, .int .i64 (ln : Int), .int .i64 p] 40)) T1.room)) (grown_low G2 (fun k e => (T1.at2 e).1) (Nat.le_trans T1.room (below_one w2 (.cells #[.int .i64 k, .int .i64 (ln : Int), .int .i64 p] 40)).size))); have X2 := grown_lies G2 (X1.alloc _) ne7; clear G2 M2)
                  | (refine step_one (W := (Wg.alloc (.cells #[.int .i64 (An : Int)] 3)).drew) (by rfl) (.tmp 132) (.tmp 134) (by rfl) N A1 c1 xs A2 c2 hs (by rfl) (Wg.heap.size) (An : Int) (by rfl) hxn ⟨T0.out.kept ((below_one Wg (.cells #[.int .i64 (An : Int)] 3)).drew), (Lies.new Wg 3 [.int .i64 (An : Int)]).drew, ?_⟩; intro g1 cap1 w2 T1 G1 M1; have BL1 : Hid (Below N Wg w2) := Lib.hid (Below.trans (Below.mono ((below_one Wg (.cells #[.int .i64 (An : Int)] 3)).drew) T0.out.room) (grown_low G1 (fun k e => (T0.out.at1 e).1) (Nat.le_trans T0.out.room ((below_one Wg (.cells #[.int .i64 (An : Int)] 3)).drew).size))); have X1 := grown_lies G1 (X0.out.alloc _).drew ne6; clear G1 M1)
                  | (refine step_one (W := ((Wg.alloc (.cells #[.int .i64 (An : Int)] 3)).alloc (.cells #[.int .i64 k, .int .i64 (ln : Int), .int .i64 p] 40)).drew) (by rfl) (.tmp 132) (.tmp 134) (by rfl) N A1 c1 xs A2 c2 hs (by rfl) (Wg.heap.size) (An : Int) (by rfl) hxn ⟨T0.out.kept ((below_two Wg (.cells #[.int .i64 (An : Int)] 3) (.cells #[.int .i64 k, .int .i64 (ln : Int), .int .i64 p] 40)).drew), ((Lies.new Wg 3 [.int .i64 (An : Int)]).alloc _).drew, ?_⟩; intro g1 cap1 w2 T1 G1 M1; have BL1 : Hid (Below N Wg w2) := Lib.hid (Below.trans (Below.mono ((below_two Wg (.cells #[.int .i64 (An : Int)] 3) (.cells #[.int .i64 k, .int .i64 (ln : Int), .int .i64 p] 40)).drew) T0.out.room) (grown_low G1 (fun k e => (T0.out.at1 e).1) (Nat.le_trans T0.out.room ((below_two Wg (.cells #[.int .i64 (An : Int)] 3) (.cells #[.int .i64 k, .int .i64 (ln : Int), .int .i64 p] 40)).drew).size))); have X1 := grown_lies G1 ((X0.out.alloc _).alloc _).drew ne6; have P4 := Lib.hid (grown_lies G1 (Lies.new1 Wg (.cells #[.int .i64 (An : Int)] 3) 40 [.int .i64 k, .int .i64 (ln : Int), .int .i64 p]).drew (nw1 _ (Nat.le_succ _))); clear G1 M1)
                  | (refine step_one (W := ((Wg.alloc (.cells #[.int .i64 k, .int .i64 (ln : Int), .int .i64 p] 40)).alloc (.cells #[.int .i64 (An : Int)] 3)).drew) (by rfl) (.tmp 132) (.tmp 134) (by rfl) N A1 c1 xs A2 c2 hs (by rfl) (Wg.heap.size + 1) (An : Int) (by rfl) hxn ⟨T0.out.kept ((below_two Wg (.cells #[.int .i64 k, .int .i64 (ln : Int), .int .i64 p] 40) (.cells #[.int .i64 (An : Int)] 3)).drew), (Lies.new1 Wg (.cells #[.int .i64 k, .int .i64 (ln : Int), .int .i64 p] 40) 3 [.int .i64 (An : Int)]).drew, ?_⟩; intro g1 cap1 w2 T1 G1 M1; have BL1 : Hid (Below N Wg w2) := Lib.hid (Below.trans (Below.mono ((below_two Wg (.cells #[.int .i64 k, .int .i64 (ln : Int), .int .i64 p] 40) (.cells #[.int .i64 (An : Int)] 3)).drew) T0.out.room) (grown_low G1 (fun k e => (T0.out.at1 e).1) (Nat.le_trans T0.out.room ((below_two Wg (.cells #[.int .i64 k, .int .i64 (ln : Int), .int .i64 p] 40) (.cells #[.int .i64 (An : Int)] 3)).drew).size))); have X1 := grown_lies G1 ((X0.out.alloc _).alloc _).drew ne6; have P4 := Lib.hid (grown_lies G1 ((Lies.new Wg 40 [.int .i64 k, .int .i64 (ln : Int), .int .i64 p]).alloc (.cells #[.int .i64 (An : Int)] 3)).drew (nw1 _ (Nat.le_refl _))); clear G1 M1)
                  | (refine step_head (W := (Wg.alloc (.cells #[.int .i64 k, .int .i64 (ln : Int), .int .i64 p] 40)).drew) (by rfl) (.tmp 136) (.tmp 139) (by rfl) N A1 c1 xs A2 c2 hs (by rfl) (Wg.heap.size) k (ln : Int) p (by rfl) hhn ⟨T0.out.kept ((below_one Wg (.cells #[.int .i64 k, .int .i64 (ln : Int), .int .i64 p] 40)).drew), (Lies.new Wg 40 [.int .i64 k, .int .i64 (ln : Int), .int .i64 p]).drew, ?_⟩; intro g1 cap1 w2 T1 G1 M1; have BL1 : Hid (Below N Wg w2) := Lib.hid (Below.trans (Below.mono ((below_one Wg (.cells #[.int .i64 k, .int .i64 (ln : Int), .int .i64 p] 40)).drew) T0.out.room) (grown_low G1 (fun k e => (T0.out.at2 e).1) (Nat.le_trans T0.out.room ((below_one Wg (.cells #[.int .i64 k, .int .i64 (ln : Int), .int .i64 p] 40)).drew).size))); have X1 := grown_lies G1 (X0.out.alloc _).drew ne7; clear G1 M1)
                  | (refine step_head (W := ((Wg.alloc (.cells #[.int .i64 k, .int .i64 (ln : Int), .int .i64 p] 40)).alloc (.cells #[.int .i64 (An : Int)] 3)).drew) (by rfl) (.tmp 136) (.tmp 139) (by rfl) N A1 c1 xs A2 c2 hs (by rfl) (Wg.heap.size) k (ln : Int) p (by rfl) hhn ⟨T0.out.kept ((below_two Wg (.cells #[.int .i64 k, .int .i64 (ln : Int), .int .i64 p] 40) (.cells #[.int .i64 (An : Int)] 3)).drew), ((Lies.new Wg 40 [.int .i64 k, .int .i64 (ln : Int), .int .i64 p]).alloc _).drew, ?_⟩; intro g1 cap1 w2 T1 G1 M1; have BL1 : Hid (Below N Wg w2) := Lib.hid (Below.trans (Below.mono ((below_two Wg (.cells #[.int .i64 k, .int .i64 (ln : Int), .int .i64 p] 40) (.cells #[.int .i64 (An : Int)] 3)).drew) T0.out.room) (grown_low G1 (fun k e => (T0.out.at2 e).1) (Nat.le_trans T0.out.room ((below_two Wg (.cells #[.int .i64 k, .int .i64 (ln : Int), .int .i64 p] 40) (.cells #[.int .i64 (An : Int)] 3)).drew).size))); have X1 := grown_lies G1 ((X0.out.alloc _).alloc _).drew ne7; have P3 := Lib.hid (grown_lies G1 (Lies.new1 Wg (.cells #[.int .i64 k, .int .i64 (ln : Int), .int .i64 p] 40) 3 [.int .i64 (An : Int)]).drew (nw2 _ (Nat.le_succ _))); clear G1 M1)
                  | (refine step_head (W := ((Wg.alloc (.cells #[.int .i64 (An : Int)] 3)).alloc (.cells #[.int .i64 k, .int .i64 (ln : Int), .int .i64 p] 40)).drew) (by rfl) (.tmp 136) (.tmp 139) (by rfl) N A1 c1 xs A2 c2 hs (by rfl) (Wg.heap.size + 1) k (ln : Int) p (by rfl) hhn ⟨T0.out.kept ((below_two Wg (.cells #[.int .i64 (An : Int)] 3) (.cells #[.int .i64 k, .int .i64 (ln : Int), .int .i64 p] 40)).drew), (Lies.new1 Wg (.cells #[.int .i64 (An : Int)] 3) 40 [.int .i64 k, .int .i64 (ln : Int), .int .i64 p]).drew, ?_⟩; intro g1 cap1 w2 T1 G1 M1; have BL1 : Hid (Below N Wg w2) := Lib.hid (Below.trans (Below.mono ((below_two Wg (.cells #[.int .i64 (An : Int)] 3) (.cells #[.int .i64 k, .int .i64 (ln : Int), .int .i64 p] 40)).drew) T0.out.room) (grown_low G1 (fun k e => (T0.out.at2 e).1) (Nat.le_trans T0.out.room ((below_two Wg (.cells #[.int .i64 (An : Int)] 3) (.cells #[.int .i64 k, .int .i64 (ln : Int), .int .i64 p] 40)).drew).size))); have X1 := grown_lies G1 ((X0.out.alloc _).alloc _).drew ne7; have P3 := Lib.hid (grown_lies G1 ((Lies.new Wg 3 [.int .i64 (An : Int)]).alloc (.cells #[.int .i64 k, .int .i64 (ln : Int), .int .i64 p] 40)).drew (nw2 _ (Nat.le_refl _))); clear G1 M1)
                  | fail))
                all_goals
                  have FIN := Lib.hid (Ap.next (n := n) HPX.out.same HPX.out.rec_ HTK.out Hg.out H15.out HA8.out (HTt.out.trans HPX.out.len) HCl.out HT8.out HO8.out FR.out T2 BL2.out)
                  clear T1 T2 X1 X2
                  go_wp2
                  refine ⟨⟨j + 1, bs2, obs2, tail2, _, _, xs ++ [(An : Int)], _, _, hs ++ [(k, (ln : Int), p)], ?_, ?_, ?_, ?_, ?_, FIN.out⟩, ?_⟩
                  · omega
                  · simp; omega
                  · go_num
                  · simp
                  · simp
                  · simp [intOf]; omega
      · have hcd' : (cd != 0) = true := by simp [hcd]
        obtain ⟨hB, rfl, rfl⟩ := HMs.out hcd
        have FIN := Lib.hid (show Ap w w6 ga gf g gw gb bt N s n bs2 obs2 tail2 A1 c1 xs A2 c2 hs from ⟨HA6.out, HPX.out.len, hB, HPX.out.clean, HTk6.out, HTw6.out, HPX.out.same, HPX.out.rec_, HO6.out⟩)
        clear hB hcd
        go_wp2
        exact ⟨⟨j + 1, _, _, _, _, _, _, _, _, _, by omega, by omega, by go_num, rfl, rfl, FIN.out⟩, by simp [intOf]; omega⟩
    · have HS := Lib.hid P.al
      have HW := Lib.hid P.clean.within
      have HC := Lib.hid P.clean.check
      have HO := Lib.hid P.old
      have HR := Lib.hid P.rec_
      have HT := Lib.hid P.two
      have Hsm := Lib.hid P.same
      clear P HP5
      obtain ⟨Wa, hWa⟩ : ∃ Wa, Wa = wr := ⟨_, rfl⟩
      subst hWa
      go_wp2_with fail
      go_loopw [144, 23, 24, 25, 26] (fun i _ _ _ _ ws => ∃ q : Nat, q ≤ xs.length ∧ i = .int .i64 (q : Int) ∧ Below Wa.heap.size Wa ws) (fun i _ _ _ _ _ => xs.length - (intOf i).toNat)
      case atStart => exact ⟨0, Nat.zero_le _, rfl, Below.refl _ _⟩
      case round =>
        obtain ⟨q, hq, rfl, hbr⟩ := hrel
        by_cases hql : q < xs.length
        · obtain ⟨r1, r2, r3⟩ := HR.out q hql
          have TT := HT.out.kept hbr
          obtain ⟨b1, e1, hc1⟩ := owns_read TT.o1 (by omega)
          obtain ⟨b2, e2, hc2⟩ := owns_read TT.o2 (by rw [← Hsm.out]; omega)
          subst e1 e2
          have v1 : wr.cell? ⟨b1, q, none⟩ = some (.int .i64 (xs.getD q 0)) := hc1 q _ (by simp [List.getD, hql])
          have hq2 : q < hs.length := by rw [← Hsm.out]; exact hql
          have v2 : wr.cell? ⟨b2, q * 3, none⟩ = some (.int .i64 (hs.getD q (0, 0, 0)).1) := hc2 _ _ (hcells_at hs q 0 hq2 (by omega))
          have v3 : wr.cell? ⟨b2, q * 3 + 1, none⟩ = some (.int .i64 (hs.getD q (0, 0, 0)).2.1) := hc2 _ _ (hcells_at hs q 1 hq2 (by omega))
          have v4 : wr.cell? ⟨b2, q * 3 + 2, none⟩ = some (.int .i64 (hs.getD q (0, 0, 0)).2.2) := hc2 _ _ (hcells_at hs q 2 hq2 (by omega))
          have lb2 := (TT.at2 (k := b2) rfl).2
          have HH := Lib.hid (headF_st (HS.out.kept hbr).st (xs.getD q 0))
          rw [head_here r1 r2] at HH
          generalize hs.getD q (0, 0, 0) = hd at *
          obtain ⟨k, l, p⟩ := hd
          generalize xs.getD q 0 = a at *
          simp only at HH v2 v3 v4
          have HBr := Lib.hid hbr
          have i0 : (0 : Int) ≤ (q : Int) := by omega
          have i1 : (q : Int) < (xs.length : Int) := by omega
          have i2 : (q : Int) < (hs.length : Int) := by omega
          clear hbr TT hc1 hc2 r1 r2 r3 hq
          go_wp2_with fail
          refine HH.out.mono ?_
          rintro e w8 ⟨rfl, hb8⟩
          have u2 := (hb8.cell (p := ⟨b2, q * 3, none⟩) lb2).trans v2
          have u3 := (hb8.cell (p := ⟨b2, q * 3 + 1, none⟩) lb2).trans v3
          have u4 := (hb8.cell (p := ⟨b2, q * 3 + 2, none⟩) lb2).trans v4
          have lb8 : b2 < w8.heap.size := Nat.lt_of_lt_of_le lb2 hb8.size
          have HB8 := Lib.hid (on HBr.out HBr.out.size hb8)
          have s1 := Lib.hid (on HB8.out HB8.out.size (below_one w8 (.cells #[.int .i64 k, .int .i64 l, .int .i64 p] 40)))
          clear hb8 v1 v2 v3 v4 lb2
          go_wp2_with fail
          go_quiet (fail)
          go_wp2
          exact ⟨⟨q + 1, by omega, by go_num, ⟨s1.out.os, s1.out.tape, s1.out.output, s1.out.size, s1.out.block⟩⟩, by simp [intOf]; omega⟩
        · have HB := Lib.hid hbr
          have HK := Lib.hid (check_any (HS.out.kept hbr).st HW.out)
          rw [HC.out] at HK
          clear hbr hq
          go_wp2_with fail
          refine HK.out.mono ?_
          rintro e w8 ⟨rfl, hb8⟩
          have B8 := on HB.out HB.out.size hb8
          go_wp2
          go_ret
          exact ⟨rfl, on HO.out HO.out.size B8⟩
end Go.Proofs.Ytibfhpbklnpknaa
