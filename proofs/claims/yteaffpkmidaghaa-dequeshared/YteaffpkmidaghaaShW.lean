/- DequeShared. -/
import Derived.Test.YteaffpkmidaghaaShC
import Derived.Deep.CutBlock
namespace Go.Proofs.Yteaffpkmidaghaa
open Go.RowKit Go.Maps
set_option linter.unusedVariables false
set_option linter.unusedSimpArgs false

theorem pick_int {w0 w : World} {x : Bx} {cs : List (Option (Nat × Cl))} {nx : Int} {k mm kk : Nat} {z : Int} (h : Sta w0 w x cs nx k mm) (hk4 : kk < 4) (hz : z = kk) (hk : k ≤ 900) (hm : mm ≤ 10000) (hnx : nx ≤ 1000) :
    Calls Try.prog 18 #[.int .i64 z, .pointer (some ⟨x.bc, 0, none⟩), .pointer (some ⟨x.bt, 0, none⟩)] w fun e w' => e = .returned (.bool true) ∧ ∃ cs', Sta w0 w' x cs' nx (k + 1) (mm + 1) ∧ Moved1 cs cs' kk := by
  rw [hz]; exact pick_any h hk4 hk hm hnx

set_option maxRecDepth 100000 in
set_option maxHeartbeats 4000000 in
theorem shared_near (A1 A2 : Option Addr) (c1 c2 : Nat) (xs ys : List Int) (w : World) (hl1 : xs.length ≤ 60) (hl2 : ys.length ≤ 400) (hr1 : Row .u8 w A1 xs) (hz1 : ∀ z ∈ xs, 0 ≤ z ∧ z ≤ 255) (hr2 : Row .u8 w A2 ys) (hz2 : ∀ z ∈ ys, 0 ≤ z ∧ z ≤ 255) :
    Calls Try.prog 4 #[.slice A1 xs.length c1, .slice A2 ys.length c2] w fun e w' => e = .returned (.bool true) ∧ Below w.heap.size w w' := by
  have d1 : decide ((60 : Int) < (xs.length : Int)) = false := by simp; omega
  have d2 : decide ((400 : Int) < (ys.length : Int)) = false := by simp; omega
  have n1 := nil31
  have n2 := nil24
  have hmf := run_mf
  have hmm := @run_makeMap Try.prog
  have hen := enter18
  have HR1 := Lib.hid hr1
  have HZ1 := Lib.hid hz1
  have HR2 := Lib.hid hr2
  have HZ2 := Lib.hid hz2
  clear hr1 hz1 hr2 hz2
  go_enter Try.func4, Try.ntmps4
  go_wp2_with fail
  refine (awake_any _).mono ?_
  rintro e w1 ⟨rfl, B1⟩
  have HB1 := Lib.hid B1
  clear B1
  go_wp2_with fail
  refine (sq_new 40 40 rfl w w1 HB1.out (by omega) (by omega)).mono ?_
  rintro e w2 ⟨gd, g, gw, rfl, S2⟩
  have T0 : Hid (Sta w _ ⟨gd, g, gw, w2.heap.size, w2.heap.size + 1, w2.heap.size + 1 + 1 + 1, w2.heap.size + 1 + 1, w2.heap.size + 1 + 1 + 1 + 1, w2.heap.size + 1 + 1 + 1 + 1 + 1⟩ (List.replicate 4 none) 1 0 0) := Lib.hid (sta_start S2)
  clear S2
  go_wp2_with fail
  clear hmm hmf
  generalize w2.heap.size + 1 + 1 + 1 + 1 + 1 = bt at *
  generalize w2.heap.size + 1 + 1 + 1 + 1 = bn at *
  generalize w2.heap.size + 1 + 1 + 1 = bw at *
  generalize w2.heap.size + 1 + 1 = bm at *
  generalize w2.heap.size + 1 = bp at *
  generalize w2.heap.size = bc at *
  generalize World.alloc (World.alloc (World.alloc (World.alloc (World.alloc (World.alloc w2 _) _) _) _) _) _ = w3 at *
  go_loopw [52, 13] (fun i v13 wr => ∃ (j aa : Nat) (cs : List (Option (Nat × Cl))) (nx : Nat), j ≤ ys.length ∧ i = .int .i64 j ∧ v13 = .int .i64 aa ∧ aa ≤ xs.length ∧ 1 ≤ nx ∧ nx ≤ aa + 1 ∧ Sta w wr ⟨gd, g, gw, bc, bp, bw, bm, bn, bt⟩ cs nx j j) (fun i _ _ => ys.length - (intOf i).toNat)
  case atStart => exact ⟨0, 0, _, 1, Nat.zero_le _, rfl, rfl, Nat.zero_le _, Nat.le_refl _, Nat.le_refl _, T0.out⟩
  case round =>
    obtain ⟨j, aa, cs, nx, hj, rfl, rfl, haa, hnx1, hnx2, T⟩ := hrel
    have HT := Lib.hid T
    clear T T0
    by_cases hjl : j < ys.length
    · obtain ⟨ad, rfl, c0⟩ := (HR2.out.kept HT.out.below).at_ hjl
      have hb := HZ2.out ys[j] (List.getElem_mem hjl)
      generalize ys[j] = p at c0 hb
      obtain ⟨hb0, hb1⟩ := hb
      have j0 : (0 : Int) ≤ (j : Int) := by omega
      have j1 : (j : Int) < (ys.length : Int) := by omega
      obtain ⟨kk, hkp⟩ : ∃ kk : Nat, p % 4 = kk := ⟨(p % 4).toNat, by omega⟩
      have hkk : kk < 4 := by omega
      have HKP := Lib.hid hkp
      clear hkp
      have hk6 : (kk : Int) < 4 := by omega
      have hk0 : (0 : Int) ≤ (kk : Int) := by omega
      go_upto_region 17 with fail
      rw [HKP.out]
      clear HKP hb0 hb1 c0
      obtain ⟨o, ho⟩ : ∃ o, cs[kk]? = some o := ⟨cs[kk]'(by rw [HT.out.clen]; exact hkk), List.getElem?_eq_getElem _⟩
      cases o with
      | none =>
        have a0 : wr.cell? ⟨bc, kk, none⟩ = some (.pointer none) := HT.out.cell ho
        have fz : wr.frozen? ⟨bc, kk, none⟩ = false := HT.out.frozen kk
        have q31 : ∀ W : World, (binOp .eql 31 (.pointer none) (.pointer none)).run Try.prog W = .ok (.bool true) W := fun _ => by kernel_rfl
        by_cases hal : aa < xs.length
        · have hde : ((aa : Int) == (xs.length : Int)) = false := by simp; omega
          obtain ⟨ad1, rfl, c1'⟩ := (HR1.out.kept HT.out.below).at_ hal
          have hb := HZ1.out xs[aa] (List.getElem_mem hal)
          generalize xs[aa] = a at c1' hb
          obtain ⟨hb0, hb1⟩ := hb
          have aa0 : (0 : Int) ≤ (aa : Int) := by omega
          have aa1 : (aa : Int) < (xs.length : Int) := by omega
          by_cases hkz : 0 < kk
          · have hd0 : decide ((0 : Int) < (kk : Int)) = true := by simp; omega
            go_wp2_with fail
            refine (steal_yes HT.out.own (kk : Int) (by omega) (by omega)).mono ?_
            rintro e w4 ⟨rfl, L4, B4⟩
            have HT4 := Lib.hid (HT.out.thief hkk hkz L4 B4)
            have f4 : w4.frozen? ⟨bc, kk, none⟩ = false := (HT.out.kept B4).frozen kk
            have a4 : w4.cell? ⟨bc, kk, none⟩ = some (.pointer none) := (HT.out.kept B4).cell ho
            clear L4 B4 a0 fz c1'
            go_upto_region 28 with fail
            generalize wr.heap.size = gc at *
            generalize w4.setCell ⟨bc, kk, none⟩ (.pointer (some ⟨gc, 0, none⟩)) = w4' at *
            clear a4 f4
            go_wp2_with fail
            refine (pick_int (z := (kk : Int)) HT4.out hkk rfl (by omega) (by omega) (by omega)).mono ?_
            rintro e w9 ⟨rfl, cs9, S9, M9⟩
            have HS9 := Lib.hid S9
            clear S9 M9
            go_wp2
            exact ⟨⟨j + 1, aa + 1, cs9, nx, by omega, by go_num, by go_num, by omega, by omega, by omega, HS9.out⟩, by simp [intOf]; omega⟩
          · have hkz' : kk = 0 := by omega
            subst hkz'
            have hd0 : decide ((0 : Int) < ((0 : Nat) : Int)) = false := by simp
            by_cases ha3 : 0 < a % 3
            · have hd3 : decide (0 < a % 3) = true := by simp; omega
              obtain ⟨pu, Lp⟩ := HT.out.bp
              have cp : wr.cell? ⟨bp, 0, none⟩ = some (.int .i64 pu) := Lp.cell 0
              have fp : wr.frozen? ⟨bp, 0, none⟩ = false := Lp.frozen 0
              have cn : wr.cell? ⟨bn, 0, none⟩ = some (.int .i64 (nx : Int)) := HT.out.bn.cell 0
              go_upto_region 26 with fail
              obtain ⟨w5, hw5⟩ : ∃ w5, wr.setCell ⟨bp, 0, none⟩ (.int .i64 (nx : Int)) = w5 := ⟨_, rfl⟩
              rw [hw5]
              obtain ⟨o5, n5, r5⟩ := HT.out.mid (nx : Int) hw5
              have cn5 : w5.cell? ⟨bn, 0, none⟩ = some (.int .i64 (nx : Int)) := n5.cell 0
              have HO5 := Lib.hid o5
              have HN5 := Lib.hid n5
              have HR5 := Lib.hid r5
              have HW5 := Lib.hid hw5
              clear o5 n5 r5 hw5 cp fp cn a0 fz c1' Lp
              go_wp2_with fail
              refine (push_any HO5.out (nx : Int)).mono ?_
              rintro e w6 ⟨rfl, L6, B6⟩
              have HT6 := Lib.hid (HT.out.push ho (by omega) HW5.out L6 B6)
              have f6 : w6.frozen? ⟨bc, 0, none⟩ = false := (HR5.out.kept B6).frozen 0
              have a6 : w6.cell? ⟨bc, 0, none⟩ = some (.pointer none) := by
                have := (HR5.out.kept B6).cell 0
                rw [this]; simp [ho, cellOf]
              have cn6 : w6.cell? ⟨bn, 0, none⟩ = some (.int .i64 (nx : Int)) := (HN5.out.kept B6).cell 0
              have fn6 : w6.frozen? ⟨bn, 0, none⟩ = false := (HN5.out.kept B6).frozen 0
              have hne6 : Hid (bn ≠ bc) := Lib.hid (HN5.out.apart HR5.out (by decide))
              have hne7 : bn ≠ bc := hne6.out
              have hne8 : bc ≠ bn := hne7.symm
              clear L6 B6 cn5 HO5 HN5 HR5 HW5
              go_upto_region 28 with fail
              generalize w5.heap.size = gc at *
              generalize (w6.setCell ⟨bc, 0, none⟩ (.pointer (some ⟨gc, 0, none⟩))).setCell ⟨bn, 0, none⟩ (.int .i64 ((nx : Int) + 1)) = w6' at *
              clear a6 f6 cn6 fn6
              go_wp2_with fail
              refine (pick_int (z := 0) (kk := 0) HT6.out (by omega) rfl (by omega) (by omega) (by omega)).mono ?_
              rintro e w9 ⟨rfl, cs9, S9, M9⟩
              have HS9 := Lib.hid S9
              clear S9 M9
              go_wp2
              exact ⟨⟨j + 1, aa + 1, cs9, (nx + 1), by omega, by go_num, by go_num, by omega, by omega, by omega, HS9.out⟩, by simp [intOf]; omega⟩
            · have hd3 : decide (0 < a % 3) = false := by simp; omega
              go_wp2_with fail
              refine (pop_any HT.out.own).mono ?_
              rintro e w4 ⟨rfl, L4, B4⟩
              have HT4 := Lib.hid (HT.out.pop ho L4 B4)
              have f4 : w4.frozen? ⟨bc, 0, none⟩ = false := (HT.out.kept B4).frozen 0
              have a4 : w4.cell? ⟨bc, 0, none⟩ = some (.pointer none) := (HT.out.kept B4).cell ho
              clear L4 B4 a0 fz c1'
              go_upto_region 28 with fail
              generalize wr.heap.size = gc at *
              generalize w4.setCell ⟨bc, 0, none⟩ (.pointer (some ⟨gc, 0, none⟩)) = w4' at *
              clear a4 f4
              go_wp2_with fail
              refine (pick_int (z := 0) (kk := 0) HT4.out (by omega) rfl (by omega) (by omega) (by omega)).mono ?_
              rintro e w9 ⟨rfl, cs9, S9, M9⟩
              have HS9 := Lib.hid S9
              clear S9 M9
              go_wp2
              exact ⟨⟨j + 1, aa + 1, cs9, nx, by omega, by go_num, by go_num, by omega, by omega, by omega, HS9.out⟩, by simp [intOf]; omega⟩
        · have hde : ((aa : Int) == (xs.length : Int)) = true := by simp; omega
          go_wp2
          exact ⟨⟨j + 1, aa, cs, nx, by omega, by go_num, rfl, haa, hnx1, hnx2, HT.out.more (by omega) (by omega)⟩, by simp [intOf]; omega⟩
      | some q =>
        obtain ⟨gc, cl⟩ := q
        have a0 : wr.cell? ⟨bc, kk, none⟩ = some (.pointer (some ⟨gc, 0, none⟩)) := HT.out.cell ho
        go_wp2_with fail
        refine (pick_int (z := (kk : Int)) HT.out hkk rfl (by omega) (by omega) (by omega)).mono ?_
        rintro e w9 ⟨rfl, cs9, S9, M9⟩
        have HS9 := Lib.hid S9
        clear S9 M9
        go_wp2
        exact ⟨⟨j + 1, aa, cs9, nx, by omega, by go_num, by go_num, by omega, by omega, by omega, HS9.out⟩, by simp [intOf]; omega⟩
    · have hj' : j = ys.length := by omega
      subst hj'
      go_wp2_with fail
      go_loopw [103] (fun i wi => ∃ (r : Nat) (cs : List (Option (Nat × Cl))), r ≤ 20 ∧ i = .int .i64 r ∧ Sta w wi ⟨gd, g, gw, bc, bp, bw, bm, bn, bt⟩ cs nx (ys.length + 4 * r) (ys.length + 4 * r) ∧ ∀ (i gc : Nat) (cl : Cl), cs[i]? = some (some (gc, cl)) → rank cl.nx + r ≤ 7) (fun i _ => 20 - (intOf i).toNat)
      case atStart => exact ⟨0, cs, by omega, rfl, HT.out, fun i gc cl _ => rank_le _⟩
      case round =>
        obtain ⟨r, cs1, hr, rfl, T1, K1⟩ := hrel
        have HT1 := Lib.hid T1
        have HK1 := Lib.hid K1
        clear T1 K1 HT
        by_cases hr20 : r < 20
        · have hr20' : (r : Int) < 20 := by omega
          go_wp2_with fail
          go_loopw [105] (fun i wi => ∃ (kk : Nat) (cs : List (Option (Nat × Cl))), kk ≤ 4 ∧ i = .int .i64 kk ∧ Sta w wi ⟨gd, g, gw, bc, bp, bw, bm, bn, bt⟩ cs nx (ys.length + 4 * r + kk) (ys.length + 4 * r + kk) ∧ ∀ (i gc : Nat) (cl : Cl), cs[i]? = some (some (gc, cl)) → (i < kk → rank cl.nx + (r + 1) ≤ 7) ∧ rank cl.nx + r ≤ 7) (fun i _ => 4 - (intOf i).toNat)
          case atStart => exact ⟨0, cs1, by omega, rfl, HT1.out, fun i gc cl h => ⟨fun h => by omega, HK1.out i gc cl h⟩⟩
          case round =>
            obtain ⟨kk, cs2, hkk, rfl, T2, K2⟩ := hrel
            have HT2 := Lib.hid T2
            have HK2 := Lib.hid K2
            clear T2 K2 HT1 HK1
            by_cases hk4 : kk < 4
            · have hk4' : (kk : Int) < 4 := by omega
              go_wp2_with fail
              refine (pick_int (z := (kk : Int)) HT2.out hk4 rfl (by omega) (by omega) (by omega)).mono ?_
              rintro e w9 ⟨rfl, cs9, S9, M9⟩
              have HS9 := Lib.hid S9
              have HK9 := Lib.hid (rank_on HK2.out M9)
              clear S9 M9
              go_wp2
              exact ⟨⟨kk + 1, cs9, by omega, by go_num, HS9.out, HK9.out⟩, by simp [intOf]; omega⟩
            · have hk5 : kk = 4 := by omega
              subst hk5
              have HK3 : Hid (∀ (i gc : Nat) (cl : Cl), cs2[i]? = some (some (gc, cl)) → rank cl.nx + (r + 1) ≤ 7) := Lib.hid (fun i gc cl h => (HK2.out i gc cl h).1 (by
                have h1 := (List.getElem?_eq_some_iff.1 h).1
                rw [HT2.out.clen] at h1; exact h1))
              go_wp2
              exact ⟨⟨r + 1, cs2, by omega, by go_num, HT2.out.more (by omega) (by omega), HK3.out⟩, by simp [intOf]; omega⟩
        · have hr21 : r = 20 := by omega
          subst hr21
          obtain ⟨t5, tag5, hi5, row, pu5, C5, nd5, rg5⟩ := HT1.out.over (fun i gc cl h => by have := HK1.out i gc cl h; omega)
          rw [toGo_start] at C5
          have HC5 := Lib.hid C5
          have HND := Lib.hid nd5
          have HRG := Lib.hid rg5
          clear C5 nd5 rg5 HT1 HK1
          go_wp2_with fail
          refine (conc_words HC5.out.conc).mono ?_
          rintro e w5 ⟨a5, rfl, R5, hab, B5⟩
          have HC6 := Lib.hid (HC5.out.kept B5)
          have HR5 := Lib.hid R5
          have hne : Hid (a5.block ≠ bm) := Lib.hid (by have : bm < wr.heap.size := HC5.out.bm_lt; omega)
          have hrow : row.length ≤ 40 := by
            obtain ⟨zs, A, c, ts, H, _⟩ := HC5.out.conc
            have := H.sh.rlen; have := H.sh.hin; omega
          clear R5 hab B5 HC5
          go_wp2_with fail
          go_loopw [117] (fun i wi => ∃ m : Nat, m ≤ row.length ∧ i = .int .i64 m ∧ Core w wi ⟨gd, g, gw, bc, bp, bw, bm, bn, bt⟩ cs1 none row t5 tag5 hi5 nx pu5 (toGo row m) (ys.length + 4 * 20) (ys.length + 4 * 20 + m) ∧ Row .i64 wi (some a5) row) (fun i _ => row.length - (intOf i).toNat)
          case atStart => exact ⟨0, Nat.zero_le _, rfl, HC6.out, HR5.out⟩
          case round =>
            obtain ⟨m, hm, rfl, C7, R7⟩ := hrel
            by_cases hmr : m < row.length
            · obtain ⟨ad7, e7, c7⟩ := R7.at_ hmr
              injection e7 with e7
              subst e7
              have hy := HRG.out row[m] (List.getElem_mem hmr)
              have hnext := Lib.hid (toGo_next HND.out hmr)
              have l7 := C7.look row[m] (by omega)
              rw [toGo_at hmr] at l7
              obtain ⟨w8, u8, C8, O8⟩ := C7.store2 row[m] 0 (by omega) (by omega) (by omega)
              rw [hnext.out] at C8
              have HC8 := Lib.hid C8
              have HR8 := Lib.hid (R7.only O8 hne.out)
              have cw : wr.cell? ⟨bw, 0, none⟩ = some (.map (some bm)) := C7.wh.cell 0
              have m0 : (0 : Int) ≤ (m : Int) := by omega
              have m1 : (m : Int) < (row.length : Int) := by omega
              clear C8 O8 C7 R7 HC6 HR5 hnext
              simp only at l7 u8
              generalize row[m] = y at *
              obtain ⟨hy0, hy1⟩ := hy
              go_wp2
              exact ⟨⟨m + 1, by omega, by go_num, HC8.out, HR8.out⟩, by simp [intOf]; omega⟩
            · have hm' : m = row.length := by omega
              subst hm'
              rw [toGo_end] at C7
              obtain ⟨D, hD, hT⟩ := C7.mp
              have cw : wr.cell? ⟨bw, 0, none⟩ = some (.map (some bm)) := C7.wh.cell 0
              have HBel := Lib.hid C7.conc.below
              have HTells := Lib.hid hT
              clear C7 R7 HC6 HR5 hT
              simp only at hD
              have hbl := Lib.hid HBel.out.size
              go_wp2_with (first
                | (at_range; refine wpList_range_own _ rfl _ 39 rfl 3 3 law3 Try.underlying39 _ bm _ _ rfl hD ?_; intro w8 hrg0 hg0 hs0)
                | go_in)
              go_frame
              have HB8 := Lib.hid (on HBel.out HBel.out.size (⟨hg0.os, hg0.tape, hg0.output, hg0.size, fun i hi => hg0.block i hi (by simp)⟩ : Below wr.heap.size wr w8))
              have HRG0 := Lib.hid hrg0
              clear hg0 hs0 hD HBel cw hrg0
              generalize wr.heap.size = R at *
              generalize ys.length + 4 * 20 + row.length = mE at *
              go_loopw [22] (fun _ wi => ∃ (left : Lit → Bool) (cnt : Nat), wi.ranges Try.prog 3 (plainElem Try.prog 3) bm R mE D left cnt ∧ Below w.heap.size w wi) (fun _ wi => wi.rangeLeft bm R)
              case atStart => exact ⟨_, _, HRG0.out, HB8.out⟩
              case round =>
                obtain ⟨left, cnt, hrg, hbw⟩ := hrel
                have HBW := Lib.hid hbw
                clear hbw HB8 HRG0
                go_wp2_with (first
                  | (at_next; refine wpList_next_ranges_ii _ rfl _ rfl 3 3 .i64 .i64 law3 Try.underlying3 Try.underlying3 bm R mE _ _ _ rfl hrg ?_ ?_)
                  | go_in)
                · intro _ hl0
                  go_wp2
                  go_ret
                  exact ⟨rfl, HBW.out⟩
                · intro y c w9 cnt1 hwx hwc hlx hat hrg1 hlt hg1 hs1 hen
                  have hc0 : c = 0 := by
                    have h1 := hat (.lit (.int .i64 0))
                    rw [HTells.out.2 y] at h1
                    injection h1 with h1
                    injection h1 with _ h1
                    exact h1.symm
                  subst hc0
                  have HB9 := Lib.hid (HBW.out.trans (⟨hg1.os, hg1.tape, hg1.output, hg1.size, fun i hi => hg1.block i (Nat.lt_of_lt_of_le hi HBW.out.size) (fun e => by injection e with e; have := hbl.out; omega)⟩ : Below w.heap.size _ w9))
                  have HRG1 := Lib.hid hrg1
                  have hle := hrg.left_eq
                  have hle1 := hrg1.left_eq
                  clear hg1 hs1 hat hrg1
                  go_wp2
                  go_roundw
                  case rel => exact ⟨_, cnt1, HRG1.out, HB9.out⟩
                  case measure => rw [hle, hle1]; exact hlt

set_option maxRecDepth 100000 in
set_option maxHeartbeats 1000000 in
theorem shared_far (A1 A2 : Option Addr) (c1 c2 : Nat) (l1 l2 : Nat) (w : World) (h : 60 < l1 ∨ 400 < l2) : Calls Try.prog 4 #[.slice A1 l1 c1, .slice A2 l2 c2] w fun e w' => e = .returned (.bool true) ∧ Below w.heap.size w w' := by
  by_cases h1 : 60 < l1
  · have d1 : decide ((60 : Int) < (l1 : Int)) = true := by simp; omega
    go_enter Try.func4, Try.ntmps4
    go_wp2_with fail
    refine (awake_any _).mono ?_
    rintro e w1 ⟨rfl, B1⟩
    go_wp2_with fail
    refine (awake_any _).mono ?_
    rintro e w2 ⟨rfl, B2⟩
    have HB := Lib.hid (on B1 B1.size B2)
    clear B1 B2
    go_wp2
    go_ret
    exact ⟨rfl, HB.out⟩
  · have d1 : decide ((60 : Int) < (l1 : Int)) = false := by simp; omega
    have d2 : decide ((400 : Int) < (l2 : Int)) = true := by simp; omega
    go_enter Try.func4, Try.ntmps4
    go_wp2_with fail
    refine (awake_any _).mono ?_
    rintro e w1 ⟨rfl, B1⟩
    go_wp2_with fail
    refine (awake_any _).mono ?_
    rintro e w2 ⟨rfl, B2⟩
    have HB := Lib.hid (on B1 B1.size B2)
    clear B1 B2
    go_wp2
    go_ret
    exact ⟨rfl, HB.out⟩

theorem shared_walk (A1 : Option Addr) (l1 c1 : Nat) (A2 : Option Addr) (l2 c2 : Nat) (w : World) (h1 : ∃ xs, Came .u8 w A1 l1 xs) (h2 : ∃ ys, Came .u8 w A2 l2 ys) : Calls Try.prog 4 #[.slice A1 l1 c1, .slice A2 l2 c2] w fun e w' => e = .returned (.bool true) ∧ Below w.heap.size w w' := by
  obtain ⟨xs, rfl, hr1, hz1⟩ := h1
  obtain ⟨ys, rfl, hr2, hz2⟩ := h2
  by_cases hl : 60 < xs.length ∨ 400 < ys.length
  · exact shared_far A1 A2 c1 c2 _ _ w hl
  · exact shared_near A1 A2 c1 c2 xs ys w (by omega) (by omega) hr1 hz1 hr2 hz2
end Go.Proofs.Yteaffpkmidaghaa
