/- ForwardGoes: where it plays, and where not. -/
import Derived.Test.YtehmcbpkhknpcaaGoesL
import Derived.Deep.CutRange
import Derived.Deep.CutBlock
import Derived.BigQuiet
import Derived.Lib.QuietBelow
namespace Go.Proofs.Ytehmcbpkhknpcaa
open Go.RowKit Go.Sort
set_option maxRecDepth 20000
set_option linter.unusedVariables false
set_option linter.unusedSimpArgs false

set_option maxRecDepth 100000 in
set_option maxHeartbeats 1000000 in
theorem goes_far (A0 B0 C0 : Option Addr) (n cN m cR q cZ : Nat) (x0 x1 x2 : Int) (ds : List Nd) (w : World) (hd : CameN w A0 n ds) (hm : m ≤ maxLen) (hq : q ≤ maxLen) (h : fewB ds m = false ∨ 40 < q) :
    Calls Try.prog 3 #[.agg #[.slice A0 n cN, .slice B0 m cR], .slice C0 q cZ, .agg #[.int .i64 x0, .int .i64 x1, .int .i64 x2]] w fun e w' => e = .returned (.bool true) ∧ Below w.heap.size w w' := by
  have HD := Lib.hid hd
  have bX : Below w.heap.size w ((w.alloc (.cells #[.slice A0 n cN, .slice B0 m cR] 25)).alloc (.cells #[.int .i64 x0, .int .i64 x1, .int .i64 x2] 26)) := ((Below.refl _ w).alloc (Nat.le_refl _) _).alloc (by simp) _
  have LX : Lies ((w.alloc (.cells #[.slice A0 n cN, .slice B0 m cR] 25)).alloc (.cells #[.int .i64 x0, .int .i64 x1, .int .i64 x2] 26)) w.heap.size 25 [.slice A0 n cN, .slice B0 m cR] := (Lies.new w 25 [_, _]).kept (below_one _ _)
  have HBX := Lib.hid bX
  have HLX := Lib.hid LX
  unfold maxLen at hm hq
  clear hd bX LX
  go_enter Try.func3, Try.ntmps3
  go_wp2_with fail
  refine (awake_any _).mono ?_
  rintro e w1 ⟨rfl, hb1⟩
  have L1 := HLX.out.kept hb1
  have g0 : w1.cell? ⟨w.heap.size, 0, none⟩ = some (.slice A0 n cN) := L1.cell 0
  have g1 : w1.cell? ⟨w.heap.size, 1, none⟩ = some (.slice B0 m cR) := L1.cell 1
  have HB1 := Lib.hid (on HBX.out HBX.out.size hb1)
  clear hb1 L1
  go_wp2_with fail
  refine (few_any A0 B0 n cN m cR ds ⟨HD.out.1, HD.out.2.1.kept HB1.out, HD.out.2.2⟩ (by unfold maxLen; exact hm)).mono ?_
  rintro e w2 ⟨rfl, hb2⟩
  have HB2 := Lib.hid (on HB1.out HB1.out.size hb2)
  clear hb2 g0 g1
  cases hf : fewB ds m with
  | false =>
    clear hf h
    go_wp2_with fail
    refine (awake_any _).mono ?_
    rintro e w3 ⟨rfl, hb3⟩
    have HB3 := Lib.hid (on HB2.out HB2.out.size hb3)
    clear hb3
    go_wp2
    go_ret
    exact ⟨rfl, HB3.out⟩
  | true =>
    have hq40 : 40 < q := by rcases h with h | h; · rw [hf] at h; cases h
                             · exact h
    have d1 : decide ((40 : Int) < (q : Int)) = true := by simp; omega
    clear hf h
    go_wp2_with fail
    refine (awake_any _).mono ?_
    rintro e w3 ⟨rfl, hb3⟩
    have HB3 := Lib.hid (on HB2.out HB2.out.size hb3)
    clear hb3
    go_wp2
    go_ret
    exact ⟨rfl, HB3.out⟩

set_option maxRecDepth 1000000 in
set_option maxHeartbeats 1500000 in
theorem goes_near (A0 B0 C0 : Option Addr) (n cN m cR q cZ : Nat) (x0 x1 x2 : Int) (W : Nat) (ds : List Nd) (rs zs : List Int) (w : World) (hd : CameN w A0 n ds) (hr : Mk.Came .u8 w B0 m rs) (hz : Mk.Came .u8 w C0 q zs) (hf : fewB ds m = true) (hq : q ≤ 40) (hx0 : InR x0) (hx1 : InR x1) (hx2 : InR x2) (hW : (W : Int) = if x0 < 1 then 1 else if 65536 < x0 then 65536 else x0) (hW1 : 1 ≤ W) (hW2 : W ≤ 65536) :
    Calls Try.prog 3 #[.agg #[.slice A0 n cN, .slice B0 m cR], .slice C0 q cZ, .agg #[.int .i64 x0, .int .i64 x1, .int .i64 x2]] w fun e w' => e = .returned (.bool true) ∧ Below w.heap.size w w' := by
  have HD := Lib.hid hd
  have HR := Lib.hid hr
  have HZ := Lib.hid hz
  have HF := Lib.hid hf
  have hfew := hf
  unfold fewB at hfew
  simp only [Bool.and_eq_true, List.all_eq_true, decide_eq_true_eq] at hfew
  obtain ⟨he, hn14, hm14⟩ := hfew
  rw [hd.1] at hn14
  have HE := Lib.hid he
  have bX : Below w.heap.size w ((w.alloc (.cells #[.slice A0 n cN, .slice B0 m cR] 25)).alloc (.cells #[.int .i64 x0, .int .i64 x1, .int .i64 x2] 26)) := ((Below.refl _ w).alloc (Nat.le_refl _) _).alloc (by simp) _
  have LX : Lies ((w.alloc (.cells #[.slice A0 n cN, .slice B0 m cR] 25)).alloc (.cells #[.int .i64 x0, .int .i64 x1, .int .i64 x2] 26)) w.heap.size 25 [.slice A0 n cN, .slice B0 m cR] := (Lies.new w 25 [_, _]).kept (below_one _ _)
  have LY : Lies ((w.alloc (.cells #[.slice A0 n cN, .slice B0 m cR] 25)).alloc (.cells #[.int .i64 x0, .int .i64 x1, .int .i64 x2] 26)) (w.heap.size + 1) 26 [.int .i64 x0, .int .i64 x1, .int .i64 x2] := by
    have := Lies.new (w.alloc (.cells #[.slice A0 n cN, .slice B0 m cR] 25)) 26 [.int .i64 x0, .int .i64 x1, .int .i64 x2]
    rw [World.size_alloc] at this; exact this
  have HLY := Lib.hid LY
  have HBX := Lib.hid bX
  have HLX := Lib.hid LX
  have d1 : decide ((40 : Int) < (q : Int)) = false := by simp; omega
  have HWN := Lib.hid hW
  clear hd hr hz hf he bX LX LY hW
  go_enter Try.func3, Try.ntmps3
  go_wp2_with fail
  refine (awake_any _).mono ?_
  rintro e w1 ⟨rfl, hb1⟩
  have L1 := HLX.out.kept hb1
  have g0 : w1.cell? ⟨w.heap.size, 0, none⟩ = some (.slice A0 n cN) := L1.cell 0
  have g1 : w1.cell? ⟨w.heap.size, 1, none⟩ = some (.slice B0 m cR) := L1.cell 1
  have HL1 := Lib.hid L1
  have HY1 := Lib.hid (HLY.out.kept hb1)
  have HB1 := Lib.hid (on HBX.out HBX.out.size hb1)
  clear hb1 L1
  go_wp2_with fail
  refine (few_any A0 B0 n cN m cR ds ⟨HD.out.1, HD.out.2.1.kept HB1.out, HD.out.2.2⟩ (by unfold maxLen; omega)).mono ?_
  rintro e w2 ⟨rfl, hb2⟩
  rw [HF.out]
  have L2 := HL1.out.kept hb2
  have HY2 := Lib.hid (HY1.out.kept hb2)
  have g2 : w2.cell? ⟨w.heap.size, 0, none⟩ = some (.slice A0 n cN) := L2.cell 0
  have g3 : w2.cell? ⟨w.heap.size, 1, none⟩ = some (.slice B0 m cR) := L2.cell 1
  have HB2 := Lib.hid (on HB1.out HB1.out.size hb2)
  clear hb2 L2 g0 g1 HL1
  go_wp2_with fail
  refine (marked_any A0 B0 C0 n cN m cR q cZ ds rs zs ⟨HD.out.1, HD.out.2.1.kept HB2.out, HD.out.2.2⟩ ⟨HR.out.1, HR.out.2.1.kept HB2.out, HR.out.2.2⟩ ⟨HZ.out.1, HZ.out.2.1.kept HB2.out, HZ.out.2.2⟩ hn14 hm14 hq HE.out).mono ?_
  rintro e w3 ⟨g, gw, gb, base, obs, tail, A, n', c, xs, mg, mw, ws, rfl, MK⟩
  obtain ⟨Z, hZ⟩ : ∃ Z, sizeG ds 2 n = Z := ⟨_, rfl⟩
  rw [hZ] at MK ⊢
  have HB3 := Lib.hid (on HB2.out HB2.out.size MK.old)
  have HY3 := Lib.hid (HY2.out.kept MK.old)
  have bY := below_one w3 (.cells #[.int .i64 (Z : Int), .slice A n' c] 33)
  have HB4 := Lib.hid (on HB3.out HB3.out.size bY)
  have HY4 := Lib.hid (HY3.out.kept bY)
  have HMK := Lib.hid (MK.kept bY)
  have HLB := Lib.hid (show Lies (w3.alloc (.cells #[.int .i64 (Z : Int), .slice A n' c] 33)) w3.heap.size 33 [.int .i64 (Z : Int), .slice A n' c] from Lies.new w3 33 [_, _])
  obtain ⟨top, htop⟩ : ∃ top, (flat obs).length = top := ⟨_, rfl⟩
  have HTOP := Lib.hid htop
  have htop6 : top ≤ 65536 := by
    obtain ⟨B, cap, rts, hB⟩ := MK.heap
    have h1 := hB.st.lies.most
    have h2 := hB.st.lies.fits
    omega
  have HST : Hid (St (w3.alloc (.cells #[.int .i64 (Z : Int), .slice A n' c] 33)) g gw gb obs tail) := Lib.hid (by obtain ⟨B, cap, rts, hB⟩ := HMK.out.heap; exact hB.st)
  clear MK bY hZ htop g2 g3 HLX HBX HB1 HB2 HD HR HZ HE HF HLY HY1 HY2 HY3
  obtain ⟨K, hK⟩ : ∃ K, (top + W - 1) / W = K := ⟨_, rfl⟩
  have HO := Lib.hid (new_any HST.out HMK.out.map x0 W K top HWN.out HTOP.out hK.symm hx0)
  have HKE := Lib.hid hK
  obtain ⟨w4, hw4⟩ : ∃ w4, (w3.alloc (.cells #[.int .i64 (Z : Int), .slice A n' c] 33)) = w4 := ⟨_, rfl⟩
  rw [hw4] at HST HMK HB4 HY4 HLB HO
  obtain ⟨bx, hbx2⟩ : ∃ bx, w.heap.size + 1 = bx := ⟨_, rfl⟩
  have HY4 : Hid (Lies w4 bx 26 [.int .i64 x0, .int .i64 x1, .int .i64 x2]) := Lib.hid (by rw [← hbx2]; exact HY4.out)
  have c0 : w4.cell? ⟨bx, 0, none⟩ = some (.int .i64 x0) := HY4.out.cell 0
  have hZL : (flat obs ++ tail).length = Z := by
    obtain ⟨B, cap, rts, hB⟩ := HMK.out.heap
    exact hB.len
  have HZL := Lib.hid hZL
  have htopZ : top ≤ Z := by rw [List.length_append, HTOP.out] at hZL; omega
  have hZ6 : Z ≤ 65536 := by have := HST.out.lies.most; rw [hZL] at this; exact this
  clear hK hZL
  go_wp2_with fail
  clear hw4
  refine HO.out.mono ?_
  rintro e w5 ⟨b, qq, a0, b5, l, T, rfl, F5, hT, hb5⟩
  have HFO := Lib.hid (show Fo w5 b W K T top (Mk.bit ws) obs from ⟨⟨qq, a0, b5, l, F5⟩, hT, by omega, by omega, HKE.out.symm, HTOP.out, htop6⟩)
  have HTOT := Lib.hid HFO.out.total
  have HB5 := Lib.hid (on HB4.out HB4.out.size hb5)
  have HST5 := Lib.hid (HST.out.kept hb5)
  have HMK5 := Lib.hid (HMK.out.kept hb5)
  have HLB5 := Lib.hid (HLB.out.kept hb5)
  have HY5 := Lib.hid (HY4.out.kept hb5)
  have HTH5 : Hid (Things w5 A obs) := Lib.hid (by obtain ⟨B, cap, rts, hB⟩ := HMK5.out.heap; exact hB.own.things)
  have HCNT : Hid (obs.length = n') := Lib.hid (by obtain ⟨B, cap, rts, hB⟩ := HMK5.out.heap; exact hB.count)
  have hn6 : n' ≤ top := by rw [← HCNT.out]; exact many_le HTOP.out
  clear F5 hT hb5 HO c0
  go_wp2_with fail
  refine (size_z HST5.out Z HZL.out).mono ?_
  rintro e w6 ⟨rfl, e6⟩
  rw [e6]
  clear e6
  have hmk := make51 Z hZ6 w5
  have bG := below_one w5 (.cells (noughts Z).toArray 3)
  have LG : Lies (w5.alloc (.cells (noughts Z).toArray 3)) w5.heap.size 3 (mrow 0 Z) := by rw [mrow_zero]; exact Lies.new w5 3 _
  go_wp2_with fail
  obtain ⟨gr, hgr⟩ : ∃ gr, w5.heap.size = gr := ⟨_, rfl⟩
  rw [hgr] at LG bG ⊢
  obtain ⟨w6, hw6⟩ : ∃ w6, w5.alloc (.cells (noughts Z).toArray 3) = w6 := ⟨_, rfl⟩
  rw [hw6] at LG bG ⊢
  have HGR : Hid (w5.heap.size = gr) := Lib.hid hgr
  have HLG := Lib.hid LG
  have HBG := Lib.hid bG
  clear hmk hgr hw6 LG bG
  go_loopw [60, 13] (fun i _ wr => ∃ k : Nat, k ≤ Z ∧ i = .int .i64 k ∧ Lies wr gr 3 (mrow k Z) ∧ Below gr w5 wr) (fun i _ _ => Z - (intOf i).toNat)
  case atStart => exact ⟨0, Nat.zero_le _, rfl, HLG.out, HBG.out⟩
  case round =>
    obtain ⟨k, hk, rfl, LG, BG⟩ := hrel
    have HLG := Lib.hid LG
    have HBG := Lib.hid BG
    by_cases hlt : k < Z
    · have k0 : (0 : Int) ≤ (k : Int) := by omega
      have k1 : (k : Int) < (Z : Int) := by omega
      obtain ⟨v, hv⟩ := mrow_some (k := k) (n := Z) (i := k) hk hlt
      have ac : wr.cell? ⟨gr, k, none⟩ = some v := by rw [LG.cell]; exact hv
      have af := LG.frozen k
      have alt := LG.lt
      have ea : (⟨gr, 0, none⟩ : Addr).add k = ⟨gr, k, none⟩ := add_at gr k
      have HL2 : Hid (Lies (wr.setCell ⟨gr, k, none⟩ (.int .i64 (-1))) gr 3 (mrow (k + 1) Z)) := Lib.hid (by rw [← mrow_next hlt]; exact LG.set k _)
      have HB2 := Lib.hid (BG.setCell (p := ⟨gr, k, none⟩) (Nat.le_refl _) (.int .i64 (-1)))
      clear LG BG hv
      go_wp2
      refine ⟨⟨k + 1, by omega, by go_num, HL2.out, HB2.out⟩, by simp [intOf] <;> omega⟩
    · obtain rfl : Z = k := by omega
      obtain ⟨w7, rfl⟩ : ∃ w7, w7 = wr := ⟨_, rfl⟩
      rw [rowG_zero (Mk.bit ws) obs] at LG
      have hb57 : Below w5.heap.size w5 w7 := by rw [HGR.out]; exact BG
      have HLG7 := Lib.hid LG
      have y1 : w7.cell? ⟨w3.heap.size, 1, none⟩ = some (.slice A n' c) := (HLB5.out.kept hb57).cell 1
      clear LG BG HLG hb57
      go_wp2_with fail
      clear y1
      go_loopw [70, 11, 15] (fun i s _ wo => ∃ j : Nat, j ≤ n' ∧ i = .int .i64 j ∧ s = .int .i64 (endS (Mk.bit ws) obs j : Nat) ∧ Lies wo gr 3 (rowG (Mk.bit ws) obs j Z) ∧ Below gr w5 wo) (fun i _ _ _ => n' - (intOf i).toNat)
      case atStart => exact ⟨0, Nat.zero_le _, rfl, by rw [end_zero]; rfl, HLG7.out, HBG.out⟩
      case round =>
        obtain ⟨j, hj, rfl, rfl, LG, BG⟩ := hrel
        have HLG := Lib.hid LG
        have HBo := Lib.hid BG
        have HB5o : Hid (Below w5.heap.size w5 wr) := Lib.hid (by rw [HGR.out]; exact BG)
        clear LG BG
        by_cases hlt : j < n'
        · obtain ⟨ad, Bx, cx, p, nl, s0, r0, o, rfl, hat, hnl, hl4, hpt, hs0, hs1, c0, c1, c2, c3, c4, hls⟩ := obj_at (j := j) (HTH5.out.kept HB5o.out) HST5.out.fine HTOP.out (by rw [HCNT.out]; exact hlt)
          obtain ⟨g1, g2, g3, g4⟩ := obj_go (Mk.bit ws) hat
          rw [hnl] at g4
          obtain ⟨E, hE⟩ : ∃ E, endS (Mk.bit ws) obs j = E := ⟨_, rfl⟩
          obtain ⟨kb, hkb⟩ : ∃ kb, keepB (Mk.bit ws) (p, o) = kb := ⟨_, rfl⟩
          rw [hE] at g2 g3 g4 ⊢
          have hls := fun (V : World) (M : Mk.At V mg mw Z ws) => hls V mg mw Z ws M
          simp only [hkb] at g4 hls
          have HG2 := Lib.hid g2
          have HG4 := Lib.hid g4
          have HLS := Lib.hid hls
          have HAT := Lib.hid hat
          have HKB := Lib.hid hkb
          have j0 : (0 : Int) ≤ (j : Int) := by omega
          have j1 : (j : Int) < (n' : Int) := by omega
          have bY := below_one wr (.cells #[.int .i64 (p : Nat), .int .i64 s0, .int .i64 (nl : Nat), .int .i64 r0, .slice Bx nl cx] 43)
          have LY : Lies (wr.alloc (.cells #[.int .i64 (p : Nat), .int .i64 s0, .int .i64 (nl : Nat), .int .i64 r0, .slice Bx nl cx] 43)) wr.heap.size 43 [.int .i64 (p : Nat), .int .i64 s0, .int .i64 (nl : Nat), .int .i64 r0, .slice Bx nl cx] := Lies.new wr 43 [_, _, _, _, _]
          have HLY := Lib.hid LY
          have HBY := Lib.hid bY
          have hgs := HLG.out.lt
          clear hat hnl hs0 g1 g2 g4 hls hkb hE bY LY
          go_wp2_with fail
          refine (HLS.out _ (HMK5.out.map.kept (on HB5o.out HB5o.out.size HBY.out))).mono ?_
          rintro e w8 ⟨rfl, hb8⟩
          have HBr := Lib.hid (on HBY.out HBY.out.size hb8)
          have HB8 := Lib.hid (on HBo.out (Nat.le_of_lt hgs) HBr.out)
          have LY8 := HLY.out.kept hb8
          have LG8 := HLG.out.kept HBr.out
          have HLY8 := Lib.hid LY8
          have HLG8 := Lib.hid LG8
          cases kb with
          | false =>
            have g5 : endS (Mk.bit ws) obs (j + 1) = E := by have := HG4.out; simpa using this
            have HG5 := Lib.hid g5
            have HLG9 : Hid (Lies w8 gr 3 (rowG (Mk.bit ws) obs (j + 1) Z)) := Lib.hid (by rw [← rowG_skip HAT.out HKB.out]; exact LG8)
            clear g5 c0 c1 c2 c3 c4 hb8 LY8 LG8
            go_wp2
            refine ⟨⟨j + 1, by omega, by go_num, by rw [HG5.out], HLG9.out, HB8.out⟩, by simp [intOf] <;> omega⟩
          | true =>
            have g5 : endS (Mk.bit ws) obs (j + 1) = E + (1 + nl) := by have := HG4.out; simpa using this
            have HG5 := Lib.hid g5
            have hpZ : p < Z := by omega
            have x0 : w8.cell? ⟨wr.heap.size, 0, none⟩ = some (.int .i64 (p : Nat)) := LY8.cell 0
            have p0 : (0 : Int) ≤ (p : Int) := by omega
            have p1 : (p : Int) < (Z : Int) := by omega
            have ac : ∃ v, w8.cell? ⟨gr, p, none⟩ = some v := ⟨_, by rw [LG8.cell]; exact rowG_get hpZ⟩
            obtain ⟨v, ac⟩ := ac
            have af := LG8.frozen p
            have alt := LG8.lt
            have ea : (⟨gr, 0, none⟩ : Addr).add p = ⟨gr, p, none⟩ := add_at gr p
            clear g5 c0 c1 c2 c3 c4 hb8 LY8 LG8
            go_upto_region 19 with fail
            obtain ⟨w9, hw9⟩ : ∃ w9, w8.setCell ⟨gr, p, none⟩ (.int .i64 (E : Nat)) = w9 := ⟨_, rfl⟩
            have LG9 := HLG8.out.set p (.int .i64 (E : Nat))
            rw [rowG_keep HAT.out HKB.out hpZ HG2.out] at LG9
            have LY9 := HLY8.out.far (p := ⟨gr, p, none⟩) (HLY8.out.nq HLG8.out) (.int .i64 (E : Nat))
            have B9 := HB8.out.setCell (p := ⟨gr, p, none⟩) (Nat.le_refl _) (.int .i64 (E : Nat))
            rw [hw9] at LG9 LY9 B9 ⊢
            have z0 : w9.cell? ⟨wr.heap.size, 0, none⟩ = some (.int .i64 (p : Nat)) := LY9.cell 0
            have z2 : w9.cell? ⟨wr.heap.size, 2, none⟩ = some (.int .i64 (nl : Nat)) := LY9.cell 2
            have d2 : decide ((p : Int) < (E : Int)) = false := by simp; omega
            have d3 : decide (p < E) = false := by simp; omega
            have HLG9 := Lib.hid LG9
            have HB9 := Lib.hid B9
            clear LG9 LY9 B9 hw9 x0 ac af alt
            go_wp2
            refine ⟨⟨j + 1, by omega, by go_num, by rw [HG5.out]; go_num, HLG9.out, HB9.out⟩, by simp [intOf] <;> omega⟩
        · obtain rfl : n' = j := by omega
          obtain ⟨wl, rfl⟩ : ∃ wl, wl = wr := ⟨_, rfl⟩
          have hT2 := HTOT.out
          rw [← end_all (Mk.bit ws) obs n' HCNT.out] at hT2
          rw [← hT2]
          have hTt : T ≤ top := by
            rw [hT2]
            have h1 := end_le (Mk.bit ws) obs n'
            have h2 := atI_le obs n'
            have h3 := HTOP.out
            omega
          clear hT2
          have HF := Lib.hid (HFO.out.kept HB5o.out)
          have HSTl := Lib.hid (HST5.out.kept HB5o.out)
          have HYl := Lib.hid (HY5.out.kept HB5o.out)
          have HBl := Lib.hid (on HB5.out HB5.out.size HB5o.out)
          have HSZ := Lib.hid (fun (V : World) (hV : Below wl.heap.size wl V) => size_z (HSTl.out.kept hV) Z HZL.out)
          go_wp2_with fail
          go_loopw [16, 17, 18, 19, 20, 21] (fun a _ _ _ _ _ wz => ∃ z : Int, -1 ≤ z ∧ z ≤ (Z : Int) + 1 ∧ a = .int .i64 z ∧ Below wl.heap.size wl wz) (fun a _ _ _ _ _ _ => ((Z : Int) + 1 - intOf a).toNat)
          case atStart => exact ⟨-1, by omega, by omega, rfl, Below.refl _ _⟩
          case round =>
            obtain ⟨z, hz1, hz2, rfl, BB⟩ := hrel
            have HBB := Lib.hid BB
            have LG := HLG.out.kept BB
            clear BB
            go_wp2_with fail
            refine (HSZ.out _ HBB.out).mono ?_
            rintro e w11 ⟨rfl, e11⟩
            rw [e11]
            clear e11
            by_cases hneg : z < 0
            · obtain rfl : z = -1 := by omega
              have hle : (-1 : Int) ≤ (Z : Int) := by omega
              clear LG
              go_wp2_with fail
              refine (to_no (HF.out.kept HBB.out) (-1) (Or.inl (by omega))).mono ?_
              rintro e w12 ⟨rfl, hb12⟩
              have HB12 := Lib.hid (on HBB.out HBB.out.size hb12)
              clear hb12
              go_wp2_with fail
              refine word_zero.mono ?_
              rintro e w13 ⟨rfl, hb13⟩
              have HB13 := Lib.hid (on HB12.out HB12.out.size hb13)
              clear hb13
              go_wp2
              refine ⟨⟨0, by omega, by omega, by go_num, HB13.out⟩, by simp [intOf] <;> omega⟩
            · obtain ⟨p, rfl⟩ := Int.eq_ofNat_of_zero_le (show 0 ≤ z by omega)
              have p0 : (0 : Int) ≤ (p : Int) := by omega
              have d0 : decide ((p : Int) < 0) = false := by simp
              have w1 : IntKind.i64.wrap ((p : Int) + 1) = (p : Int) + 1 := IntWalk.i64_in _ (by omega)
              have w2 : IntKind.i64.wrap ((p : Int) + 1 - 1) = (p : Int) := by rw [show (p : Int) + 1 - 1 = (p : Int) by omega]; exact IntWalk.i64_in _ (by omega)
              have HW2 := Lib.hid w2
              have hp1 : (p : Int) + 1 ≠ 0 := by omega
              clear w2 hneg
              by_cases hle : (p : Int) ≤ (Z : Int)
              · have NO : ∀ (hno : (p : Int) < 0 ∨ (top : Int) ≤ (p : Int) ∨ isK (Mk.bit ws) (adr 0 obs) (p : Int).toNat = false), True := fun _ => trivial
                clear NO
                by_cases hlt : p < Z
                · have q1 : (p : Int) < (Z : Int) := by omega
                  have dZ : decide ((Z : Int) ≤ (p : Int)) = false := by simp; omega
                  have ea : (⟨gr, 0, none⟩ : Addr).add p = ⟨gr, p, none⟩ := add_at gr p
                  have HGET := Lib.hid (rowG_all (Mk.bit ws) HCNT.out hlt)
                  cases hK : isK (Mk.bit ws) (adr 0 obs) p with
                  | false =>
                    have hno : (p : Int) < 0 ∨ (top : Int) ≤ (p : Int) ∨ isK (Mk.bit ws) (adr 0 obs) (p : Int).toNat = false := Or.inr (Or.inr (by rw [Int.toNat_natCast]; exact hK))
                    have HNO := Lib.hid hno
                    have hgv : (rowG (Mk.bit ws) obs n' Z)[p]? = some (.int .i64 (-1)) := by rw [HGET.out, hK]; rfl
                    have HGV := Lib.hid hgv
                    have HLGz := Lib.hid LG
                    clear hno hK hgv LG HGET
                    go_wp2_with fail
                    refine (to_no (HF.out.kept HBB.out) (p : Int) HNO.out).mono ?_
                    rintro e w12 ⟨rfl, hb12⟩
                    have HB12 := Lib.hid (on HBB.out HBB.out.size hb12)
                    have HLG12 := Lib.hid (HLGz.out.kept hb12)
                    clear hb12
                    go_wp2_with fail
                    refine (word_no (HF.out.kept HB12.out) ((p : Int) + 1) (p : Int) hp1 HW2.out HNO.out).mono ?_
                    rintro e w13 ⟨rfl, hb13⟩
                    have HB13 := Lib.hid (on HB12.out HB12.out.size hb13)
                    have ac : w13.cell? ⟨gr, p, none⟩ = some (.int .i64 (-1)) := by rw [(HLG12.out.kept hb13).cell]; exact HGV.out
                    clear hb13
                    go_wp2_with fail
                    refine (HSZ.out _ HB13.out).mono ?_
                    rintro e w14 ⟨rfl, e14⟩
                    rw [e14]
                    clear e14
                    go_wp2
                    refine ⟨⟨(p : Int) + 1, by omega, by omega, by go_num, HB13.out⟩, by simp [intOf] <;> omega⟩
                  | true =>
                    obtain ⟨r, hr⟩ : ∃ r, goS (Mk.bit ws) (adr 0 obs) p = r := ⟨_, rfl⟩
                    have hgv : (rowG (Mk.bit ws) obs n' Z)[p]? = some (.int .i64 (r : Nat)) := by rw [HGET.out, hK, if_pos rfl, hr]
                    have hrp : r ≤ p := by rw [← hr]; exact go_le hK
                    have HGV := Lib.hid hgv
                    have HLGz := Lib.hid LG
                    have HKT := Lib.hid hK
                    have HR := Lib.hid hr
                    clear hK hgv LG HGET hr
                    go_wp2_with fail
                    refine (to_yes (HF.out.kept HBB.out) p r HKT.out HR.out).mono ?_
                    rintro e w12 ⟨rfl, hb12⟩
                    have HB12 := Lib.hid (on HBB.out HBB.out.size hb12)
                    have HLG12 := Lib.hid (HLGz.out.kept hb12)
                    clear hb12
                    go_wp2_with fail
                    refine (word_yes (HF.out.kept HB12.out) ((p : Int) + 1) p r rfl HKT.out HR.out).mono ?_
                    rintro e w13 ⟨rfl, hb13⟩
                    have HB13 := Lib.hid (on HB12.out HB12.out.size hb13)
                    have ac : w13.cell? ⟨gr, p, none⟩ = some (.int .i64 (r : Nat)) := by rw [(HLG12.out.kept hb13).cell]; exact HGV.out
                    have d5 : decide ((r : Int) < 0) = false := by simp
                    have d6 : ((r : Int) != (r : Int)) = false := by simp
                    have d7 : ((r : Int) + 1 != (r : Int) + 1) = false := by simp
                    clear hb13
                    go_wp2_with fail
                    refine (HSZ.out _ HB13.out).mono ?_
                    rintro e w14 ⟨rfl, e14⟩
                    rw [e14]
                    clear e14
                    go_wp2
                    refine ⟨⟨(p : Int) + 1, by omega, by omega, by go_num, HB13.out⟩, by simp [intOf] <;> omega⟩
                · obtain rfl : p = Z := by omega
                  have dZ : decide ((p : Int) ≤ (p : Int)) = true := by simp
                  have hno : (p : Int) < 0 ∨ (top : Int) ≤ (p : Int) ∨ isK (Mk.bit ws) (adr 0 obs) (p : Int).toNat = false := Or.inr (Or.inl (by omega))
                  have HNO := Lib.hid hno
                  clear hno LG
                  go_wp2_with fail
                  refine (to_no (HF.out.kept HBB.out) (p : Int) HNO.out).mono ?_
                  rintro e w12 ⟨rfl, hb12⟩
                  have HB12 := Lib.hid (on HBB.out HBB.out.size hb12)
                  clear hb12
                  go_wp2_with fail
                  refine (word_no (HF.out.kept HB12.out) ((p : Int) + 1) (p : Int) hp1 HW2.out HNO.out).mono ?_
                  rintro e w13 ⟨rfl, hb13⟩
                  have HB13 := Lib.hid (on HB12.out HB12.out.size hb13)
                  clear hb13
                  go_wp2_with fail
                  refine (HSZ.out _ HB13.out).mono ?_
                  rintro e w14 ⟨rfl, e14⟩
                  rw [e14]
                  clear e14
                  go_wp2
                  refine ⟨⟨(p : Int) + 1, by omega, by omega, by go_num, HB13.out⟩, by simp [intOf] <;> omega⟩
              · clear LG
                go_wp2_with fail
                refine word_zero.mono ?_
                rintro e wa ⟨rfl, hba⟩
                have HBa := Lib.hid (on HBB.out HBB.out.size hba)
                have HYa := Lib.hid (HYl.out.kept HBa.out)
                have b1 : wa.cell? ⟨bx, 1, none⟩ = some (.int .i64 x1) := HYa.out.cell 1
                clear hba
                go_upto_region 35 with fail
                go_cut [24, 25] from 174 to 181 (fun v24 v25 wx => v24 = .int .i64 0 ∧ v25 = .int .i64 5 ∧ Below wl.heap.size wl wx)
                case first =>
                  have hmin : x1 < -1 ∨ x1 = -1 ∨ -1 < x1 := by omega
                  rcases hmin with hm | rfl | hm
                  · go_wp2_with fail
                    refine (word_neg (HF.out.kept HBa.out) x1 hx1 (by omega)).mono ?_
                    rintro e wb ⟨rfl, hbb⟩
                    have HBb := Lib.hid (on HBa.out HBa.out.size hbb)
                    clear hbb
                    go_wp2
                    go_meet
                    exact ⟨rfl, rfl, HBb.out⟩
                  · go_wp2_with fail
                    refine (word_neg (HF.out.kept HBa.out) (-1) (by unfold InR; omega) (by omega)).mono ?_
                    rintro e wb ⟨rfl, hbb⟩
                    have HBb := Lib.hid (on HBa.out HBa.out.size hbb)
                    clear hbb
                    go_wp2
                    go_meet
                    exact ⟨rfl, rfl, HBb.out⟩
                  · go_wp2_with fail
                    refine (word_neg (HF.out.kept HBa.out) (-1) (by unfold InR; omega) (by omega)).mono ?_
                    rintro e wb ⟨rfl, hbb⟩
                    have HBb := Lib.hid (on HBa.out HBa.out.size hbb)
                    clear hbb
                    go_wp2
                    go_meet
                    exact ⟨rfl, rfl, HBb.out⟩
                case rest =>
                obtain ⟨rfl, rfl, hbb⟩ := hcut
                obtain ⟨wb, rfl⟩ : ∃ wb, wb = wc := ⟨_, rfl⟩
                have HBb := Lib.hid hbb
                have b2 : wb.cell? ⟨bx, 2, none⟩ = some (.int .i64 x2) := (HYl.out.kept hbb).cell 2
                clear hbb b1
                go_upto_region 36 with fail
                go_cut [26, 27] from 182 to 191 (fun v26 v27 wx => v26 = .int .i64 0 ∧ v27 = .int .i64 3 ∧ Below wl.heap.size wl wx)
                case first =>
                  have hmx : Try.prog.follows .mixedOrders = true := by kernel_rfl
                  have y2 : ∀ d os, (grow (redrawn wb d) os).cell? ⟨bx, 2, none⟩ = some (.int .i64 x2) := fun d os => cell_regrown b2 d os
                  have cS : ∀ d os, Hid (Calls Try.prog 11 #[.pointer (some ⟨g, 0, none⟩)] (grow (redrawn wb d) os) fun e w' => e = .returned (.int .i64 (Z : Int)) ∧ Below (grow (redrawn wb d) os).heap.size (grow (redrawn wb d) os) w') := fun d os => Lib.hid ((HSZ.out _ (on HBb.out HBb.out.size (below_regrown wb d os))).mono fun e w' h => ⟨h.1, by rw [h.2]; exact Below.refl _ _⟩)
                  obtain ⟨M, hM⟩ : ∃ M : Int, (if x2 < (Z : Int) then (Z : Int) else x2) = M := ⟨_, rfl⟩
                  have hMZ : (top : Int) ≤ M := by split at hM <;> omega
                  have cT : ∀ d os, Hid (Calls Try.prog 13 #[.pointer (some ⟨b, 0, none⟩), .int .i64 M] (grow (redrawn wb d) os) fun e w' => e = .returned (.tuple #[.int .i64 0, .int .i64 3]) ∧ Below (grow (redrawn wb d) os).heap.size (grow (redrawn wb d) os) w') := fun d os => Lib.hid (to_no (HF.out.kept (on HBb.out HBb.out.size (below_regrown wb d os))) M (Or.inr (Or.inl hMZ)))
                  clear b2
                  refine wp_region_quiet_below hmx (by kernel_rfl) ?_
                  repeat (with_reducible refine wpQuiet_step ?_; intro K hK; go_simp; first | (with_reducible refine hK _ ?_; clear hK K) | (with_reducible apply Exists.intro; with_reducible refine ⟨fun _ => ?_, hK _ ?_⟩; (first | (with_reducible exact Calls.regrown_of (cS _ _).out) | (with_reducible exact Calls.regrown_of (cT _ _).out)); clear hK K))
                  with_reducible refine wpQuiet_nil ?_
                  rintro wq ⟨pp, rfl⟩
                  have hq2 := below_regrown wb pp.d pp.os
                  generalize grow (redrawn wb pp.d) pp.os = wq at *
                  have HQ2 := Lib.hid (on HBb.out HBb.out.size hq2)
                  clear cS cT y2 hM hMZ hq2
                  go_wp2_with fail
                  go_meet
                  exact ⟨rfl, rfl, HQ2.out⟩
                case rest =>
                obtain ⟨rfl, rfl, hbc⟩ := hcut
                obtain ⟨wd, rfl⟩ : ∃ wd, wd = wc := ⟨_, rfl⟩
                have HBc := Lib.hid hbc
                have d8 : ((T : Int) == (T : Int)) = true := by simp
                clear hbc b2
                go_wp2_with fail
                refine (ftop_any (HF.out.kept HBc.out)).mono ?_
                rintro e we ⟨rfl, hbe⟩
                have HBe := Lib.hid (on HBc.out HBc.out.size hbe)
                clear hbe
                go_wp2_with fail
                refine (parts_any (HF.out.kept HBe.out)).mono ?_
                rintro e wf ⟨q9, rfl, hbf⟩
                have HBf := Lib.hid (on HBe.out HBe.out.size hbf)
                have HTO := Lib.hid (total_any wf W q9 K T)
                unfold rv at HTO ⊢
                clear hbf
                go_wp2_with fail
                refine HTO.out.mono ?_
                rintro e wg ⟨rfl, hbg⟩
                have HBg := Lib.hid (on HBf.out HBf.out.size hbg)
                clear hbg
                go_wp2
                go_ret
                exact ⟨rfl, on HBl.out HBl.out.size HBg.out⟩

end Go.Proofs.Ytehmcbpkhknpcaa
