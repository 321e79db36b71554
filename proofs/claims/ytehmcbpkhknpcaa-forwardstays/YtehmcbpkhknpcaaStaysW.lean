/- ForwardStays: where it plays, and where not. -/
import Derived.Test.YtehmcbpkhknpcaaStaysL
import Derived.Deep.CutRange
import Derived.Deep.CutBlock
namespace Go.Proofs.Ytehmcbpkhknpcaa
open Go.RowKit
set_option maxRecDepth 20000
set_option linter.unusedVariables false
set_option linter.unusedSimpArgs false

set_option maxRecDepth 100000 in
set_option maxHeartbeats 1000000 in
theorem stays_far (A0 B0 : Option Addr) (n cN m cR : Nat) (wd : Int) (ds : List Nd) (w : World) (hd : CameN w A0 n ds) (hm : m ≤ maxLen) (h : fewB ds m = false) :
    Calls Try.prog 6 #[.agg #[.slice A0 n cN, .slice B0 m cR], .int .u8 wd] w fun e w' => e = .returned (.bool true) ∧ Below w.heap.size w w' := by
  have HD := Lib.hid hd
  have bX := below_one w (.cells #[.slice A0 n cN, .slice B0 m cR] 25)
  have LX : Lies (w.alloc (.cells #[.slice A0 n cN, .slice B0 m cR] 25)) w.heap.size 25 [.slice A0 n cN, .slice B0 m cR] := Lies.new w 25 [_, _]
  have HBX := Lib.hid bX
  have HLX := Lib.hid LX
  unfold maxLen at hm
  clear hd bX LX
  go_enter Try.func6, Try.ntmps6
  go_wp2_with fail
  refine (awake_any _).mono ?_
  rintro e w1 ⟨rfl, hb1⟩
  have L1 := HLX.out.kept hb1
  have x0 : w1.cell? ⟨w.heap.size, 0, none⟩ = some (.slice A0 n cN) := L1.cell 0
  have x1 : w1.cell? ⟨w.heap.size, 1, none⟩ = some (.slice B0 m cR) := L1.cell 1
  have HB1 := Lib.hid (on HBX.out HBX.out.size hb1)
  clear hb1 L1
  go_wp2_with fail
  refine (few_any A0 B0 n cN m cR ds ⟨HD.out.1, HD.out.2.1.kept HB1.out, HD.out.2.2⟩ (by unfold maxLen; exact hm)).mono ?_
  rintro e w2 ⟨rfl, hb2⟩
  have HB2 := Lib.hid (on HB1.out HB1.out.size hb2)
  clear hb2 x0 x1
  rw [h]
  go_wp2_with fail
  refine (awake_any _).mono ?_
  rintro e w3 ⟨rfl, hb3⟩
  have HB3 := Lib.hid (on HB2.out HB2.out.size hb3)
  clear hb3
  go_wp2
  go_ret
  exact ⟨rfl, HB3.out⟩

set_option maxRecDepth 1000000 in
set_option maxHeartbeats 1500000 in
theorem stays_near (A0 B0 : Option Addr) (n cN m cR : Nat) (wd : Int) (W : Nat) (ds : List Nd) (rs : List Int) (w : World) (hd : CameN w A0 n ds) (hr : Mk.Came .u8 w B0 m rs) (hf : fewB ds m = true) (hwd0 : 0 ≤ wd) (hwd1 : wd ≤ 255) (hW : 1 + wd = (W : Int)) (hW1 : 1 ≤ W) (hW2 : W ≤ 256) :
    Calls Try.prog 6 #[.agg #[.slice A0 n cN, .slice B0 m cR], .int .u8 wd] w fun e w' => e = .returned (.bool true) ∧ Below w.heap.size w w' := by
  have HD := Lib.hid hd
  have HR := Lib.hid hr
  have HF := Lib.hid hf
  have hfew := hf
  unfold fewB at hfew
  simp only [Bool.and_eq_true, List.all_eq_true, decide_eq_true_eq] at hfew
  obtain ⟨he, hn14, hm14⟩ := hfew
  rw [hd.1] at hn14
  have HE := Lib.hid he
  have bX := below_one w (.cells #[.slice A0 n cN, .slice B0 m cR] 25)
  have LX : Lies (w.alloc (.cells #[.slice A0 n cN, .slice B0 m cR] 25)) w.heap.size 25 [.slice A0 n cN, .slice B0 m cR] := Lies.new w 25 [_, _]
  have HBX := Lib.hid bX
  have HLX := Lib.hid LX
  clear hd hr hf he bX LX
  go_enter Try.func6, Try.ntmps6
  go_wp2_with fail
  refine (awake_any _).mono ?_
  rintro e w1 ⟨rfl, hb1⟩
  have L1 := HLX.out.kept hb1
  have x0 : w1.cell? ⟨w.heap.size, 0, none⟩ = some (.slice A0 n cN) := L1.cell 0
  have x1 : w1.cell? ⟨w.heap.size, 1, none⟩ = some (.slice B0 m cR) := L1.cell 1
  have HL1 := Lib.hid L1
  have HB1 := Lib.hid (on HBX.out HBX.out.size hb1)
  clear hb1 L1
  go_wp2_with fail
  refine (few_any A0 B0 n cN m cR ds ⟨HD.out.1, HD.out.2.1.kept HB1.out, HD.out.2.2⟩ (by unfold maxLen; omega)).mono ?_
  rintro e w2 ⟨rfl, hb2⟩
  rw [HF.out]
  have L2 := HL1.out.kept hb2
  have x2 : w2.cell? ⟨w.heap.size, 0, none⟩ = some (.slice A0 n cN) := L2.cell 0
  have x3 : w2.cell? ⟨w.heap.size, 1, none⟩ = some (.slice B0 m cR) := L2.cell 1
  have HB2 := Lib.hid (on HB1.out HB1.out.size hb2)
  clear hb2 L2 x0 x1 HL1
  go_wp2_with fail
  have hz0 : Mk.Came .u8 w2 none 0 [] := ⟨rfl, fun h => by simp at h, fun z hz => by simp at hz⟩
  refine (marked_two A0 B0 none n cN m cR 0 0 ds rs [] ⟨HD.out.1, HD.out.2.1.kept HB2.out, HD.out.2.2⟩ ⟨HR.out.1, HR.out.2.1.kept HB2.out, HR.out.2.2⟩ hz0 hn14 hm14 (by omega) HE.out).mono ?_
  rintro e w3 ⟨g, gw, gb, base, obs, tail, A, n', c, xs, mg, mw, ws, rfl, MK, AH⟩
  obtain ⟨Z, hZ⟩ : ∃ Z, sizeG ds 2 n = Z := ⟨_, rfl⟩
  rw [hZ] at MK AH ⊢
  have HB3 := Lib.hid (on HB2.out HB2.out.size MK.old)
  have bY := below_one w3 (.cells #[.int .i64 (Z : Int), .slice A n' c] 33)
  have HB4 := Lib.hid (on HB3.out HB3.out.size bY)
  have HMK := Lib.hid (MK.kept bY)
  have HLB := Lib.hid (show Lies (w3.alloc (.cells #[.int .i64 (Z : Int), .slice A n' c] 33)) w3.heap.size 33 [.int .i64 (Z : Int), .slice A n' c] from Lies.new w3 33 [_, _])
  obtain ⟨top, htop⟩ : ∃ top, (flat obs).length = top := ⟨_, rfl⟩
  have HTOP := Lib.hid htop
  have htop6 : top ≤ 65536 := by
    obtain ⟨B, cap, rts, hB⟩ := MK.heap
    have h1 := hB.st.lies.most
    have h2 := hB.st.lies.fits
    omega
  have HST : Hid (St (w3.alloc (.cells #[.int .i64 (Z : Int), .slice A n' c] 33)) g gw gb obs tail) := Lib.hid (by obtain ⟨B, cap, rts, hB⟩ := HMK.out.heap; exact hB.st)
  obtain ⟨wb, ⟨B, cap, rts, BT⟩, hb0, hm1, hm2⟩ := AH
  have HBT := Lib.hid BT
  have htopZ : top ≤ Z := by have h1 := BT.len; rw [List.length_append, HTOP.out] at h1; omega
  have hmg : mg < w3.heap.size ∧ mw < w3.heap.size := ⟨MK.map.own.lt, MK.map.words.lt⟩
  have hmlo := MK.lo
  have hs2 := HB2.out.size
  have HCNT : Hid (obs.length = n') := Lib.hid BT.count
  have hn6 : n' ≤ top := by rw [← HCNT.out]; exact many_le HTOP.out
  have hpl := BT.own.plain
  have HPL := Lib.hid hpl.1
  have hnc : n' ≤ c := hpl.2
  have HSV : Hid (Sv w wb w3.heap.size g gw gb mg mw Z obs A n' c 0 (w3.alloc (.cells #[.int .i64 (Z : Int), .slice A n' c] 33))) := Lib.hid ⟨on hb0 hb0.size bY, HB4.out, HLB.out, ws, HMK.out.map, fun p => by rw [HMK.out.bits]; simp [markB, firstB]⟩
  have hmbx : mg ≠ w3.heap.size ∧ mw ≠ w3.heap.size ∧ w.heap.size ≤ mg ∧ w.heap.size ≤ mw := by omega
  have HMB := Lib.hid hmbx
  have HM12 := Lib.hid (show wb.heap.size ≤ mg ∧ wb.heap.size ≤ mw from ⟨hm1, hm2⟩)
  have y1 : (w3.alloc (.cells #[.int .i64 (Z : Int), .slice A n' c] 33)).cell? ⟨w3.heap.size, 1, none⟩ = some (.slice A n' c) := HLB.out.cell 1
  clear hz0 MK BT bY hZ htop x2 x3 HLX HBX HB1 HB2 HD HR HE HF hb0 hm1 hm2 hmg hmlo hs2 hpl hmbx HST HLB HMK
  obtain ⟨w4, hw4⟩ : ∃ w4, w3.alloc (.cells #[.int .i64 (Z : Int), .slice A n' c] 33) = w4 := ⟨_, rfl⟩
  rw [hw4] at HSV y1 HB4
  go_upto_block 0 with fail
  clear hw4
  go_cut [8, 9, 10] from 36 to 56 (fun v8 _ _ wx => ∃ L : Nat, L ≤ n' ∧ v8 = .int .i64 L ∧ Sv w wb w3.heap.size g gw gb mg mw Z obs A n' c L wx)
  case first =>
    go_wp2_with fail
    go_loopw [36, 8, 9, 10] (fun i l _ _ wr => ∃ j : Nat, j ≤ n' ∧ i = .int .i64 j ∧ l = .int .i64 j ∧ Sv w wb w3.heap.size g gw gb mg mw Z obs A n' c j wr) (fun i _ _ _ _ => n' - (intOf i).toNat)
    case atStart => exact ⟨0, Nat.zero_le _, rfl, rfl, HSV.out⟩
    case round =>
      obtain ⟨j, hj, rfl, rfl, SV⟩ := hrel
      have HS := Lib.hid SV
      clear SV y1
      by_cases hlt : j < n'
      · obtain ⟨ad, Bx, cx, p, nl, s0, r0, o, rfl, hat, hnl, hl4, hpt, hs0, hs1, c0, c1, c2, c3, c4, -⟩ := obj_at (j := j) (HBT.out.own.things.kept HS.out.b1) HBT.out.st.fine HTOP.out (by rw [HCNT.out]; exact hlt)
        have HFM := Lib.hid (first_more hat)
        have j0 : (0 : Int) ≤ (j : Int) := by omega
        have j1 : (j : Int) < (n' : Int) := by omega
        have bY := below_one wr (.cells #[.int .i64 (p : Nat), .int .i64 s0, .int .i64 (nl : Nat), .int .i64 r0, .slice Bx nl cx] 43)
        have LY : Lies (wr.alloc (.cells #[.int .i64 (p : Nat), .int .i64 s0, .int .i64 (nl : Nat), .int .i64 r0, .slice Bx nl cx] 43)) wr.heap.size 43 [.int .i64 (p : Nat), .int .i64 s0, .int .i64 (nl : Nat), .int .i64 r0, .slice Bx nl cx] := Lies.new wr 43 [_, _, _, _, _]
        have HLY := Lib.hid LY
        have HSY := Lib.hid (HS.out.kept bY)
        obtain ⟨r, hr, hr3⟩ : ∃ r : Nat, (j : Int).tmod 3 = (r : Int) ∧ r < 3 := ⟨j % 3, by rw [Int.tmod_eq_emod_of_nonneg j0]; omega, by omega⟩
        have x0 : (wr.alloc (.cells #[.int .i64 (p : Nat), .int .i64 s0, .int .i64 (nl : Nat), .int .i64 r0, .slice Bx nl cx] 43)).cell? ⟨wr.heap.size, 0, none⟩ = some (.int .i64 (p : Nat)) := LY.cell 0
        have x1 : (wr.alloc (.cells #[.int .i64 (p : Nat), .int .i64 s0, .int .i64 (nl : Nat), .int .i64 r0, .slice Bx nl cx] 43)).cell? ⟨wr.heap.size, 1, none⟩ = some (.int .i64 s0) := LY.cell 1
        clear hat hnl hs0 bY LY
        by_cases h2 : r = 2
        · subst h2
          have d1 : ((2 : Nat) : Int) = 2 := rfl
          by_cases h3 : s0 = 15
          · subst h3
            go_wp2_with fail
            go_meet
            exact ⟨j, hj, rfl, HSY.out⟩
          · have d2 : (s0 == 15) = false := by simp [h3]
            clear h3
            go_wp2_with fail
            obtain ⟨ws', M, hbits⟩ := HSY.out.map
            have HM := Lib.hid M
            have HBI := Lib.hid hbits
            clear M hbits
            refine (Mk.set_yes HM.out p (by omega)).mono ?_
            rintro e w7 ⟨rfl, M7, E7⟩
            have hm := HMB.out
            have hm2 := HM12.out
            have HS7 : Hid (Sv w wb w3.heap.size g gw gb mg mw Z obs (some ad) n' c (j + 1) w7) := Lib.hid ⟨HSY.out.b1.trans (E7.below HSY.out.b1.size hm2.1 hm2.2), HSY.out.b2.trans (E7.below HSY.out.b2.size hm.2.2.1 hm.2.2.2), HSY.out.box.of_block (E7.block _ HSY.out.box.lt (Ne.symm hm.1) (Ne.symm hm.2.1)), _, M7, fun x => by rw [Mk.bit_set _ _ _ (HM.out.place (by omega)), HBI.out, HFM.out]⟩
            clear M7 E7 hm hm2 x0 x1
            go_wp2
            refine ⟨⟨j + 1, by omega, by go_num, by go_num, HS7.out⟩, by simp [intOf]; omega⟩
        · have d1 : ((r : Int) == 2) = false := by simp; omega
          have d2 : ¬ (r : Int) = 2 := by omega
          clear h2
          go_wp2_with fail
          obtain ⟨ws', M, hbits⟩ := HSY.out.map
          have HM := Lib.hid M
          have HBI := Lib.hid hbits
          clear M hbits
          refine (Mk.set_yes HM.out p (by omega)).mono ?_
          rintro e w7 ⟨rfl, M7, E7⟩
          have hm := HMB.out
          have hm2 := HM12.out
          have HS7 : Hid (Sv w wb w3.heap.size g gw gb mg mw Z obs (some ad) n' c (j + 1) w7) := Lib.hid ⟨HSY.out.b1.trans (E7.below HSY.out.b1.size hm2.1 hm2.2), HSY.out.b2.trans (E7.below HSY.out.b2.size hm.2.2.1 hm.2.2.2), HSY.out.box.of_block (E7.block _ HSY.out.box.lt (Ne.symm hm.1) (Ne.symm hm.2.1)), _, M7, fun x => by rw [Mk.bit_set _ _ _ (HM.out.place (by omega)), HBI.out, HFM.out]⟩
          clear M7 E7 hm hm2 x0 x1
          go_wp2
          refine ⟨⟨j + 1, by omega, by go_num, by go_num, HS7.out⟩, by simp [intOf]; omega⟩
      · obtain rfl : j = n' := by omega
        go_wp2_with fail
        go_meet
        exact ⟨j, Nat.le_refl _, rfl, HS.out⟩
  case rest =>
  obtain ⟨L, hL, rfl, SV⟩ := hcut
  obtain ⟨w5, rfl⟩ : ∃ w5, w5 = wc := ⟨_, rfl⟩
  obtain ⟨ws2, M2, hbits⟩ := SV.map
  have hWn : (W : Int) = if (W : Int) < 1 then 1 else if (65536 : Int) < (W : Int) then 65536 else (W : Int) := by rw [if_neg (by omega), if_neg (by omega)]
  obtain ⟨K, hK⟩ : ∃ K, (top + W - 1) / W = K := ⟨_, rfl⟩
  have HO := Lib.hid (new_any (HBT.out.st.kept SV.b1) M2 (W : Int) W K top hWn HTOP.out hK.symm (by unfold InR; omega))
  have HKE := Lib.hid hK
  have HS5 := Lib.hid SV
  have HBI := Lib.hid hbits
  clear hWn hK SV M2 hbits y1 HSV
  go_wp2_with fail
  refine HO.out.mono ?_
  rintro e w6 ⟨b, qq, a0, b5, l, T, rfl, F6, hT, hb6⟩
  have HFO := Lib.hid (show Fo w6 b W K T top (Mk.bit ws2) obs from ⟨⟨qq, a0, b5, l, F6⟩, hT, by omega, by omega, HKE.out.symm, HTOP.out, htop6⟩)
  have HTOT : Hid (T = endS (Mk.bit ws2) obs L) := Lib.hid (by rw [HFO.out.total]; exact first_out HBI.out)
  have HS6 := Lib.hid (HS5.out.kept hb6)
  have y1 : w6.cell? ⟨w3.heap.size, 1, none⟩ = some (.slice A n' c) := HS6.out.box.cell 1
  have hcr := cut_row HPL.out hL hnc
  clear F6 hT hb6 HO
  go_wp2_with fail
  clear hcr y1
  go_loopw [68, 12, 14, 15, 16, 17, 18] (fun i s _ _ _ _ _ wr => ∃ j : Nat, j ≤ L ∧ i = .int .i64 j ∧ s = .int .i64 (atI obs j : Nat) ∧ endS (Mk.bit ws2) obs j = atI obs j ∧ Below w6.heap.size w6 wr) (fun i _ _ _ _ _ _ _ => L - (intOf i).toNat)
  case atStart => exact ⟨0, Nat.zero_le _, rfl, by rw [atI_zero]; rfl, by rw [end_zero, atI_zero], Below.refl _ _⟩
  case round =>
    obtain ⟨j, hj, rfl, rfl, hend, BB⟩ := hrel
    have HBB := Lib.hid BB
    have HS := Lib.hid (HS6.out.kept BB)
    have HEND := Lib.hid hend
    clear BB hend
    by_cases hlt : j < L
    · obtain ⟨ad, Bx, cx, p, nl, s0, r0, o, rfl, hat, hnl, hl4, hpt, hs0, hs1, c0, c1, c2, c3, c4, -⟩ := obj_at (j := j) (HBT.out.own.things.kept HS.out.b1) HBT.out.st.fine HTOP.out (by rw [HCNT.out]; omega)
      have hp := (adr_get hat).2
      have ho := (adr_get hat).1
      have hp1 := atI_succ ho
      simp only [Nat.zero_add] at hp
      obtain ⟨g1, g2, -, g4⟩ := obj_go (Mk.bit ws2) hat
      have hbp : Mk.bit ws2 p = true := by rw [HBI.out]; exact first_in hat hlt
      have HP := Lib.hid hp
      have HP1 := Lib.hid hp1
      rw [HEND.out] at g2 g4
      rw [← hp] at g2 g4 hp1 ⊢
      rw [hnl] at g4 hp1
      have HG1 := Lib.hid g1
      have HG2 := Lib.hid g2
      have HG4 := Lib.hid g4
      have HPN := Lib.hid hp1
      have j0 : (0 : Int) ≤ (j : Int) := by omega
      have j1 : (j : Int) < (L : Int) := by omega
      have bY := below_one wr (.cells #[.int .i64 (p : Nat), .int .i64 s0, .int .i64 (nl : Nat), .int .i64 r0, .slice Bx nl cx] 43)
      have LY : Lies (wr.alloc (.cells #[.int .i64 (p : Nat), .int .i64 s0, .int .i64 (nl : Nat), .int .i64 r0, .slice Bx nl cx] 43)) wr.heap.size 43 [.int .i64 (p : Nat), .int .i64 s0, .int .i64 (nl : Nat), .int .i64 r0, .slice Bx nl cx] := Lies.new wr 43 [_, _, _, _, _]
      have HLY := Lib.hid LY
      have HBY := Lib.hid (on HBB.out HBB.out.size bY)
      have HKP : Hid (s0 ≠ 15 → keepB (Mk.bit ws2) (p, o) = true) := Lib.hid fun h => by unfold keepB; rw [hs0, hbp]; simp [h]
      have HW : Hid (Below w.heap.size w (wr.alloc (.cells #[.int .i64 (p : Nat), .int .i64 s0, .int .i64 (nl : Nat), .int .i64 r0, .slice Bx nl cx] 43))) := Lib.hid (on HS.out.b2 HS.out.b2.size bY)
      have x1 : (wr.alloc (.cells #[.int .i64 (p : Nat), .int .i64 s0, .int .i64 (nl : Nat), .int .i64 r0, .slice Bx nl cx] 43)).cell? ⟨wr.heap.size, 1, none⟩ = some (.int .i64 s0) := LY.cell 1
      clear hat hnl hs0 bY LY g1 g2 g4 hp ho hp1 hbp
      by_cases h15 : s0 = 15
      · subst h15
        go_wp2_with fail
        go_ret
        exact ⟨rfl, HW.out⟩
      · have hk := HKP.out h15
        have d1 : (s0 == 15) = false := by simp [h15]
        have HKK := Lib.hid hk
        have HTRUE : Hid (isK (Mk.bit ws2) (adr 0 obs) p = true) := Lib.hid (by rw [HG1.out]; exact hk)
        clear hk h15
        go_wp2_with fail
        refine (to_yes (HFO.out.kept HBY.out) p p HTRUE.out HG2.out).mono ?_
        rintro e w7 ⟨rfl, hb7⟩
        have LY7 := HLY.out.kept hb7
        have z0 : w7.cell? ⟨wr.heap.size, 0, none⟩ = some (.int .i64 (p : Nat)) := LY7.cell 0
        have HLY7 := Lib.hid LY7
        have HB7 := Lib.hid (on HBY.out HBY.out.size hb7)
        have d2 : ((p : Int) != (p : Int)) = false := by simp
        have w0 : IntKind.i64.wrap (1 + (p : Int)) = 1 + (p : Int) := IntWalk.i64_in _ (by omega)
        clear c0 c1 c2 c3 c4 x1 hb7 LY7
        go_wp2_with fail
        refine (word_yes (HFO.out.kept HB7.out) (1 + (p : Int)) p p (by omega) HTRUE.out HG2.out).mono ?_
        rintro e w8 ⟨rfl, hb8⟩
        have LY8 := HLY7.out.kept hb8
        have z0 : w8.cell? ⟨wr.heap.size, 0, none⟩ = some (.int .i64 (p : Nat)) := LY8.cell 0
        have z2 : w8.cell? ⟨wr.heap.size, 2, none⟩ = some (.int .i64 (nl : Nat)) := LY8.cell 2
        have HB8 := Lib.hid (on HB7.out HB7.out.size hb8)
        have d3 : ((p : Int) + 1 != 1 + (p : Int)) = false := by simp; omega
        have d4 : (p : Int) + 1 = 1 + (p : Int) := by omega
        clear hb8 LY8
        go_wp2
        refine ⟨⟨j + 1, by omega, by go_num, ?_, ?_, HB8.out⟩, by simp [intOf]; omega⟩
        · rw [HPN.out]; go_num
        · rw [HG4.out, HPN.out, HKK.out, if_pos rfl]; omega
    · obtain rfl : j = L := by omega
      have hT2 := HTOT.out
      rw [HEND.out] at hT2
      rw [← hT2]
      have d1 : ((T : Int) == (T : Int)) = true := by simp
      clear hT2
      go_wp2_with fail
      refine (ftop_any (HFO.out.kept HBB.out)).mono ?_
      rintro e w7 ⟨rfl, hb7⟩
      have HB7 := Lib.hid (on HS.out.b2 HS.out.b2.size hb7)
      clear hb7
      go_wp2
      go_ret
      exact ⟨rfl, HB7.out⟩

end Go.Proofs.Ytehmcbpkhknpcaa
