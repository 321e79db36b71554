/- ForwardRises: where it plays, and where not. -/
import Derived.Test.YtehmcbpkhknpcaaGo
import Derived.Deep.CutRange
import Derived.Deep.CutBlock
namespace Go.Proofs.Ytehmcbpkhknpcaa
open Go.RowKit
set_option maxRecDepth 20000
set_option linter.unusedVariables false
set_option linter.unusedSimpArgs false

set_option maxRecDepth 100000 in
set_option maxHeartbeats 1000000 in
theorem rises_far (A0 B0 C0 : Option Addr) (n cN m cR q cZ : Nat) (wd : Int) (ds : List Nd) (w : World) (hd : CameN w A0 n ds) (hm : m ≤ maxLen) (hq : q ≤ maxLen) (h : fewB ds m = false ∨ 40 < q) :
    Calls Try.prog 5 #[.agg #[.slice A0 n cN, .slice B0 m cR], .slice C0 q cZ, .int .u8 wd] w fun e w' => e = .returned (.bool true) ∧ Below w.heap.size w w' := by
  have HD := Lib.hid hd
  have bX := below_one w (.cells #[.slice A0 n cN, .slice B0 m cR] 25)
  have LX : Lies (w.alloc (.cells #[.slice A0 n cN, .slice B0 m cR] 25)) w.heap.size 25 [.slice A0 n cN, .slice B0 m cR] := Lies.new w 25 [_, _]
  have HBX := Lib.hid bX
  have HLX := Lib.hid LX
  unfold maxLen at hm hq
  clear hd bX LX
  go_enter Try.func5, Try.ntmps5
  go_wp2_with fail
  refine (awake_any _).mono ?_
  rintro e w1 ⟨rfl, hb1⟩
  have L1 := HLX.out.kept hb1
  have x0 : w1.cell? ⟨w.heap.size, 0, none⟩ = some (.slice A0 n cN) := L1.cell 0
  have x1 : w1.cell? ⟨w.heap.size, 1, none⟩ = some (.slice B0 m cR) := L1.cell 1
  have HB1 := Lib.hid (on HBX.out HBX.out.size hb1)
  clear hb1 L1
  go_wp2_with fail
  refine (few_any A0 B0 n cN m cR ds ⟨HD.out.1, HD.out.2.1.kept HB1.out, HD.out.2.2⟩ (by unfold maxLen; exact hm)).mono ?_
  rintro e w2 ⟨rfl, hb2⟩
  have HB2 := Lib.hid (on HB1.out HB1.out.size hb2)
  clear hb2 x0 x1
  cases hf : fewB ds m with
  | false =>
    clear hf h
    go_wp2_with fail
    refine (awake_any _).mono ?_
    rintro e w3 ⟨rfl, hb3⟩
    have HB3 := Lib.hid (on HB2.out HB2.out.size hb3)
    clear hb3
    go_wp2
    go_ret
    exact ⟨rfl, HB3.out⟩
  | true =>
    have hq40 : 40 < q := by rcases h with h | h; · rw [hf] at h; cases h
                             · exact h
    have d1 : decide ((40 : Int) < (q : Int)) = true := by simp; omega
    clear hf h
    go_wp2_with fail
    refine (awake_any _).mono ?_
    rintro e w3 ⟨rfl, hb3⟩
    have HB3 := Lib.hid (on HB2.out HB2.out.size hb3)
    clear hb3
    go_wp2
    go_ret
    exact ⟨rfl, HB3.out⟩

set_option maxRecDepth 1000000 in
set_option maxHeartbeats 1500000 in
theorem rises_near (A0 B0 C0 : Option Addr) (n cN m cR q cZ : Nat) (wd : Int) (W : Nat) (ds : List Nd) (rs zs : List Int) (w : World) (hd : CameN w A0 n ds) (hr : Mk.Came .u8 w B0 m rs) (hz : Mk.Came .u8 w C0 q zs) (hf : fewB ds m = true) (hq : q ≤ 40) (hwd0 : 0 ≤ wd) (hwd1 : wd ≤ 255) (hW : 1 + wd = (W : Int)) (hW1 : 1 ≤ W) (hW2 : W ≤ 256) :
    Calls Try.prog 5 #[.agg #[.slice A0 n cN, .slice B0 m cR], .slice C0 q cZ, .int .u8 wd] w fun e w' => e = .returned (.bool true) ∧ Below w.heap.size w w' := by
  have HD := Lib.hid hd
  have HR := Lib.hid hr
  have HZ := Lib.hid hz
  have HF := Lib.hid hf
  have hfew := hf
  unfold fewB at hfew
  simp only [Bool.and_eq_true, List.all_eq_true, decide_eq_true_eq] at hfew
  obtain ⟨he, hn14, hm14⟩ := hfew
  rw [hd.1] at hn14
  have HE := Lib.hid he
  have bX := below_one w (.cells #[.slice A0 n cN, .slice B0 m cR] 25)
  have LX : Lies (w.alloc (.cells #[.slice A0 n cN, .slice B0 m cR] 25)) w.heap.size 25 [.slice A0 n cN, .slice B0 m cR] := Lies.new w 25 [_, _]
  have HBX := Lib.hid bX
  have HLX := Lib.hid LX
  have d1 : decide ((40 : Int) < (q : Int)) = false := by simp; omega
  clear hd hr hz hf he bX LX
  go_enter Try.func5, Try.ntmps5
  go_wp2_with fail
  refine (awake_any _).mono ?_
  rintro e w1 ⟨rfl, hb1⟩
  have L1 := HLX.out.kept hb1
  have x0 : w1.cell? ⟨w.heap.size, 0, none⟩ = some (.slice A0 n cN) := L1.cell 0
  have x1 : w1.cell? ⟨w.heap.size, 1, none⟩ = some (.slice B0 m cR) := L1.cell 1
  have HL1 := Lib.hid L1
  have HB1 := Lib.hid (on HBX.out HBX.out.size hb1)
  clear hb1 L1
  go_wp2_with fail
  refine (few_any A0 B0 n cN m cR ds ⟨HD.out.1, HD.out.2.1.kept HB1.out, HD.out.2.2⟩ (by unfold maxLen; omega)).mono ?_
  rintro e w2 ⟨rfl, hb2⟩
  rw [HF.out]
  have L2 := HL1.out.kept hb2
  have x2 : w2.cell? ⟨w.heap.size, 0, none⟩ = some (.slice A0 n cN) := L2.cell 0
  have x3 : w2.cell? ⟨w.heap.size, 1, none⟩ = some (.slice B0 m cR) := L2.cell 1
  have HB2 := Lib.hid (on HB1.out HB1.out.size hb2)
  clear hb2 L2 x0 x1 HL1
  go_wp2_with fail
  refine (marked_any A0 B0 C0 n cN m cR q cZ ds rs zs ⟨HD.out.1, HD.out.2.1.kept HB2.out, HD.out.2.2⟩ ⟨HR.out.1, HR.out.2.1.kept HB2.out, HR.out.2.2⟩ ⟨HZ.out.1, HZ.out.2.1.kept HB2.out, HZ.out.2.2⟩ hn14 hm14 hq HE.out).mono ?_
  rintro e w3 ⟨g, gw, gb, base, obs, tail, A, n', c, xs, mg, mw, ws, rfl, MK⟩
  obtain ⟨Z, hZ⟩ : ∃ Z, sizeG ds 2 n = Z := ⟨_, rfl⟩
  rw [hZ] at MK ⊢
  have HB3 := Lib.hid (on HB2.out HB2.out.size MK.old)
  have bY := below_one w3 (.cells #[.int .i64 (Z : Int), .slice A n' c] 33)
  have HB4 := Lib.hid (on HB3.out HB3.out.size bY)
  have HMK := Lib.hid (MK.kept bY)
  have HLB := Lib.hid (show Lies (w3.alloc (.cells #[.int .i64 (Z : Int), .slice A n' c] 33)) w3.heap.size 33 [.int .i64 (Z : Int), .slice A n' c] from Lies.new w3 33 [_, _])
  obtain ⟨top, htop⟩ : ∃ top, (flat obs).length = top := ⟨_, rfl⟩
  have HTOP := Lib.hid htop
  have htop6 : top ≤ 65536 := by
    obtain ⟨B, cap, rts, hB⟩ := MK.heap
    have h1 := hB.st.lies.most
    have h2 := hB.st.lies.fits
    omega
  have HST : Hid (St (w3.alloc (.cells #[.int .i64 (Z : Int), .slice A n' c] 33)) g gw gb obs tail) := Lib.hid (by obtain ⟨B, cap, rts, hB⟩ := HMK.out.heap; exact hB.st)
  clear MK bY hZ htop x2 x3 HLX HBX HB1 HB2 HD HR HZ HE HF
  have hWn : (W : Int) = if (W : Int) < 1 then 1 else if (65536 : Int) < (W : Int) then 65536 else (W : Int) := by rw [if_neg (by omega), if_neg (by omega)]
  obtain ⟨K, hK⟩ : ∃ K, (top + W - 1) / W = K := ⟨_, rfl⟩
  have HO := Lib.hid (new_any HST.out HMK.out.map (W : Int) W K top hWn HTOP.out hK.symm (by unfold InR; omega))
  have HKE := Lib.hid hK
  clear hWn hK
  go_wp2_with fail
  refine HO.out.mono ?_
  rintro e w5 ⟨b, qq, a0, b5, l, T, rfl, F5, hT, hb5⟩
  have HFO := Lib.hid (show Fo w5 b W K T top (Mk.bit ws) obs from ⟨⟨qq, a0, b5, l, F5⟩, hT, by omega, by omega, HKE.out.symm, HTOP.out, htop6⟩)
  have HTOT := Lib.hid HFO.out.total
  have HB5 := Lib.hid (on HB4.out HB4.out.size hb5)
  have HST5 := Lib.hid (HST.out.kept hb5)
  have HMK5 := Lib.hid (HMK.out.kept hb5)
  have HLB5 := Lib.hid (HLB.out.kept hb5)
  have HTH5 : Hid (Things w5 A obs) := Lib.hid (by obtain ⟨B, cap, rts, hB⟩ := HMK5.out.heap; exact hB.own.things)
  have HCNT : Hid (obs.length = n') := Lib.hid (by obtain ⟨B, cap, rts, hB⟩ := HMK5.out.heap; exact hB.count)
  have hn6 : n' ≤ top := by rw [← HCNT.out]; exact many_le HTOP.out
  have y1 : w5.cell? ⟨w3.heap.size, 1, none⟩ = some (.slice A n' c) := HLB5.out.cell 1
  clear F5 hT hb5 HO
  go_wp2_with fail
  go_loopw [45, 11, 13, 14, 15] (fun i s _ _ _ wr => ∃ j : Nat, j ≤ n' ∧ i = .int .i64 j ∧ s = .int .i64 (endS (Mk.bit ws) obs j : Nat) ∧ Below w5.heap.size w5 wr) (fun i _ _ _ _ _ => n' - (intOf i).toNat)
  case atStart => exact ⟨0, Nat.zero_le _, rfl, by rw [end_zero]; rfl, Below.refl _ _⟩
  case round =>
    obtain ⟨j, hj, rfl, rfl, BB⟩ := hrel
    have HBB := Lib.hid BB
    clear y1 BB
    by_cases hlt : j < n'
    · obtain ⟨ad, Bx, cx, p, nl, s0, r0, o, rfl, hat, hnl, hl4, hpt, hs0, hs1, c0, c1, c2, c3, c4, hls⟩ := obj_at (j := j) (HTH5.out.kept HBB.out) HST5.out.fine HTOP.out (by rw [HCNT.out]; exact hlt)
      obtain ⟨g1, g2, g3, g4⟩ := obj_go (Mk.bit ws) hat
      rw [hnl] at g4
      obtain ⟨E, hE⟩ : ∃ E, endS (Mk.bit ws) obs j = E := ⟨_, rfl⟩
      obtain ⟨kb, hkb⟩ : ∃ kb, keepB (Mk.bit ws) (p, o) = kb := ⟨_, rfl⟩
      rw [hE] at g2 g3 g4 ⊢
      have hls := fun (V : World) (M : Mk.At V mg mw Z ws) => hls V mg mw Z ws M
      simp only [hkb] at g1 g4 hls
      have HG1 := Lib.hid g1
      have HG2 := Lib.hid g2
      have HG4 := Lib.hid g4
      have HLS := Lib.hid hls
      have j0 : (0 : Int) ≤ (j : Int) := by omega
      have j1 : (j : Int) < (n' : Int) := by omega
      have bY := below_one wr (.cells #[.int .i64 (p : Nat), .int .i64 s0, .int .i64 (nl : Nat), .int .i64 r0, .slice Bx nl cx] 43)
      have LY : Lies (wr.alloc (.cells #[.int .i64 (p : Nat), .int .i64 s0, .int .i64 (nl : Nat), .int .i64 r0, .slice Bx nl cx] 43)) wr.heap.size 43 [.int .i64 (p : Nat), .int .i64 s0, .int .i64 (nl : Nat), .int .i64 r0, .slice Bx nl cx] := Lies.new wr 43 [_, _, _, _, _]
      have HLY := Lib.hid LY
      have HBY := Lib.hid (on HBB.out HBB.out.size bY)
      clear hat hnl hs0 g1 g2 g4 hls hkb hE bY LY
      cases kb with
      | true =>
        have g5 : endS (Mk.bit ws) obs (j + 1) = E + (1 + nl) := by have := HG4.out; simpa using this
        have HG5 := Lib.hid g5
        clear g5
        go_wp2_with fail
        refine (to_yes (HFO.out.kept HBY.out) p E HG1.out HG2.out).mono ?_
        rintro e w7 ⟨rfl, hb7⟩
        have LY7 := HLY.out.kept hb7
        have x0 : w7.cell? ⟨wr.heap.size, 0, none⟩ = some (.int .i64 (p : Nat)) := LY7.cell 0
        have x2 : w7.cell? ⟨wr.heap.size, 2, none⟩ = some (.int .i64 (nl : Nat)) := LY7.cell 2
        have d1 : ((E : Int) != (E : Int)) = false := by simp
        have d2 : decide ((p : Int) < (E : Int)) = false := by simp; omega
        have d3 : decide (p < E) = false := by simp; omega
        have HB7 := Lib.hid (on HBY.out HBY.out.size hb7)
        clear c0 c1 c2 c3 c4 hb7 LY7
        go_wp2
        refine ⟨⟨j + 1, by omega, by go_num, by rw [HG5.out]; go_num, HB7.out⟩, by simp [intOf]; omega⟩
      | false =>
        have g5 : endS (Mk.bit ws) obs (j + 1) = E := by have := HG4.out; simpa using this
        have HG5 := Lib.hid g5
        clear g5
        go_wp2_with fail
        refine (to_no (HFO.out.kept HBY.out) (p : Int) (Or.inr (Or.inr (by rw [Int.toNat_natCast]; exact HG1.out)))).mono ?_
        rintro e w7 ⟨rfl, hb7⟩
        have LY7 := HLY.out.kept hb7
        have x0 : w7.cell? ⟨wr.heap.size, 0, none⟩ = some (.int .i64 (p : Nat)) := LY7.cell 0
        have x1 : w7.cell? ⟨wr.heap.size, 1, none⟩ = some (.int .i64 s0) := LY7.cell 1
        have x2 : w7.cell? ⟨wr.heap.size, 2, none⟩ = some (.int .i64 (nl : Nat)) := LY7.cell 2
        have x3 : w7.cell? ⟨wr.heap.size, 3, none⟩ = some (.int .i64 r0) := LY7.cell 3
        have x4 : w7.cell? ⟨wr.heap.size, 4, none⟩ = some (.slice Bx nl cx) := LY7.cell 4
        have HB7 := Lib.hid (on HBY.out HBY.out.size hb7)
        clear c0 c1 c2 c3 c4 hb7 LY7
        go_wp2_with fail
        refine (HLS.out _ (HMK5.out.map.kept HB7.out)).mono ?_
        rintro e w8 ⟨rfl, hb8⟩
        have HB8 := Lib.hid (on HB7.out HB7.out.size hb8)
        clear hb8 x0 x1 x2 x3 x4
        go_wp2
        refine ⟨⟨j + 1, by omega, by go_num, by rw [HG5.out], HB8.out⟩, by simp [intOf]; omega⟩
    · obtain rfl : j = n' := by omega
      have hT2 := HTOT.out
      rw [← end_all (Mk.bit ws) obs j HCNT.out] at hT2
      rw [← hT2]
      have hTt : T ≤ top := by
        have h1 := end_le (Mk.bit ws) obs j
        have h2 := atI_le obs j
        have h3 := HTOP.out
        omega
      have d1 : ((T : Int) == (T : Int)) = true := by simp
      have d2 : decide ((T : Int) ≤ (top : Int)) = true := by simp; omega
      have d3 : decide (T ≤ top) = true := by simp; omega
      clear hT2
      go_wp2_with fail
      refine (ftop_any (HFO.out.kept HBB.out)).mono ?_
      rintro e w7 ⟨rfl, hb7⟩
      have HB7 := Lib.hid (on HBB.out HBB.out.size hb7)
      clear hb7
      go_wp2_with fail
      refine (top_n (HST5.out.kept HB7.out) top HTOP.out).mono ?_
      rintro e w8 ⟨rfl, rfl⟩
      go_wp2
      go_ret
      exact ⟨rfl, on HB5.out HB5.out.size HB7.out⟩

end Go.Proofs.Ytehmcbpkhknpcaa
