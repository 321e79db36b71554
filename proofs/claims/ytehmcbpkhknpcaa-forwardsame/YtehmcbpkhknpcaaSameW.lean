/- ForwardSame: where it plays, and where not. -/
import Derived.Test.YtehmcbpkhknpcaaGo
import Derived.Deep.CutRange
import Derived.Deep.CutBlock
import Derived.BigQuiet
import Derived.Deep.RegionHeld3
namespace Go.Proofs.Ytehmcbpkhknpcaa
open Go.RowKit Go.Sort
set_option maxRecDepth 20000
set_option linter.unusedVariables false
set_option linter.unusedSimpArgs false

theorem hold2 {wr W w' : World} {b : Nat} {x0 x1 : Value} (hk : Below W.heap.size W w') (h : Below wr.heap.size wr W ∧ W.cell? ⟨b, 0, none⟩ = some x0 ∧ W.cell? ⟨b, 1, none⟩ = some x1) :
    Below wr.heap.size wr w' ∧ w'.cell? ⟨b, 0, none⟩ = some x0 ∧ w'.cell? ⟨b, 1, none⟩ = some x1 :=
  ⟨on h.1 h.1.size hk, (hk.cell (block_lt_of_cell h.2.1)).trans h.2.1, (hk.cell (block_lt_of_cell h.2.2)).trans h.2.2⟩
/-- Two of the same heap and marks, in regions of unlike sizes. -/
def Pair (w4 : World) (f : Nat → Bool) (obs : List Ob) (top W1 W2 : Nat) (v10 v11 : Value) (wx : World) : Prop :=
  ∃ p1 p2, v10 = .pointer (some ⟨p1, 0, none⟩) ∧ v11 = .pointer (some ⟨p2, 0, none⟩) ∧ (∃ K T, Fo wx p1 W1 K T top f obs) ∧ (∃ K T, Fo wx p2 W2 K T top f obs) ∧ Below w4.heap.size w4 wx
theorem fo_kept {w w' : World} {p W top : Nat} {f : Nat → Bool} {obs : List Ob} (h : ∃ K T, Fo w p W K T top f obs) (hb : Below w.heap.size w w') : ∃ K T, Fo w' p W K T top f obs := by
  obtain ⟨K, T, h⟩ := h
  exact ⟨K, T, h.kept hb⟩

set_option maxRecDepth 100000 in
set_option maxHeartbeats 1000000 in
theorem same_far (A0 B0 C0 : Option Addr) (n cN m cR q cZ : Nat) (x0 x1 : Int) (ds : List Nd) (w : World) (hd : CameN w A0 n ds) (hm : m ≤ maxLen) (hq : q ≤ maxLen) (h : fewB ds m = false ∨ 40 < q) :
    Calls Try.prog 4 #[.agg #[.slice A0 n cN, .slice B0 m cR], .slice C0 q cZ, .agg #[.int .u8 x0, .int .u8 x1]] w fun e w' => e = .returned (.bool true) ∧ Below w.heap.size w w' := by
  have HD := Lib.hid hd
  have bX : Below w.heap.size w ((w.alloc (.cells #[.slice A0 n cN, .slice B0 m cR] 25)).alloc (.cells #[.int .u8 x0, .int .u8 x1] 53)) := ((Below.refl _ w).alloc (Nat.le_refl _) _).alloc (by simp) _
  have LX : Lies ((w.alloc (.cells #[.slice A0 n cN, .slice B0 m cR] 25)).alloc (.cells #[.int .u8 x0, .int .u8 x1] 53)) w.heap.size 25 [.slice A0 n cN, .slice B0 m cR] := (Lies.new w 25 [_, _]).kept (below_one _ _)
  have HBX := Lib.hid bX
  have HLX := Lib.hid LX
  unfold maxLen at hm hq
  clear hd bX LX
  go_enter Try.func4, Try.ntmps4
  go_wp2_with fail
  refine (awake_any _).mono ?_
  rintro e w1 ⟨rfl, hb1⟩
  have L1 := HLX.out.kept hb1
  have x0 : w1.cell? ⟨w.heap.size, 0, none⟩ = some (.slice A0 n cN) := L1.cell 0
  have x1 : w1.cell? ⟨w.heap.size, 1, none⟩ = some (.slice B0 m cR) := L1.cell 1
  have HB1 := Lib.hid (on HBX.out HBX.out.size hb1)
  clear hb1 L1
  go_wp2_with fail
  refine (few_any A0 B0 n cN m cR ds ⟨HD.out.1, HD.out.2.1.kept HB1.out, HD.out.2.2⟩ (by unfold maxLen; exact hm)).mono ?_
  rintro e w2 ⟨rfl, hb2⟩
  have HB2 := Lib.hid (on HB1.out HB1.out.size hb2)
  clear hb2 x0 x1
  cases hf : fewB ds m with
  | false =>
    clear hf h
    go_wp2_with fail
    refine (awake_any _).mono ?_
    rintro e w3 ⟨rfl, hb3⟩
    have HB3 := Lib.hid (on HB2.out HB2.out.size hb3)
    clear hb3
    go_wp2
    go_ret
    exact ⟨rfl, HB3.out⟩
  | true =>
    have hq40 : 40 < q := by rcases h with h | h; · rw [hf] at h; cases h
                             · exact h
    have d1 : decide ((40 : Int) < (q : Int)) = true := by simp; omega
    clear hf h
    go_wp2_with fail
    refine (awake_any _).mono ?_
    rintro e w3 ⟨rfl, hb3⟩
    have HB3 := Lib.hid (on HB2.out HB2.out.size hb3)
    clear hb3
    go_wp2
    go_ret
    exact ⟨rfl, HB3.out⟩

set_option maxRecDepth 1000000 in
set_option maxHeartbeats 1500000 in
theorem same_near (A0 B0 C0 : Option Addr) (n cN m cR q cZ : Nat) (x0 x1 : Int) (W1 W2 : Nat) (ds : List Nd) (rs zs : List Int) (w : World) (hd : CameN w A0 n ds) (hr : Mk.Came .u8 w B0 m rs) (hz : Mk.Came .u8 w C0 q zs) (hf : fewB ds m = true) (hq : q ≤ 40) (hx0 : 0 ≤ x0) (hx1 : x0 ≤ 255) (hx2 : 0 ≤ x1) (hx3 : x1 ≤ 255) (hA : 1 + x0 = (W1 : Int)) (hB : 1 + x1 = (W2 : Int)) (hA1 : 1 ≤ W1) (hA2 : W1 ≤ 256) (hB1 : 1 ≤ W2) (hB2 : W2 ≤ 256) :
    Calls Try.prog 4 #[.agg #[.slice A0 n cN, .slice B0 m cR], .slice C0 q cZ, .agg #[.int .u8 x0, .int .u8 x1]] w fun e w' => e = .returned (.bool true) ∧ Below w.heap.size w w' := by
  have HD := Lib.hid hd
  have HR := Lib.hid hr
  have HZ := Lib.hid hz
  have HF := Lib.hid hf
  have hfew := hf
  unfold fewB at hfew
  simp only [Bool.and_eq_true, List.all_eq_true, decide_eq_true_eq] at hfew
  obtain ⟨he, hn14, hm14⟩ := hfew
  rw [hd.1] at hn14
  have HE := Lib.hid he
  have bX : Below w.heap.size w ((w.alloc (.cells #[.slice A0 n cN, .slice B0 m cR] 25)).alloc (.cells #[.int .u8 x0, .int .u8 x1] 53)) := ((Below.refl _ w).alloc (Nat.le_refl _) _).alloc (by simp) _
  have LX : Lies ((w.alloc (.cells #[.slice A0 n cN, .slice B0 m cR] 25)).alloc (.cells #[.int .u8 x0, .int .u8 x1] 53)) w.heap.size 25 [.slice A0 n cN, .slice B0 m cR] := (Lies.new w 25 [_, _]).kept (below_one _ _)
  have LY : Lies ((w.alloc (.cells #[.slice A0 n cN, .slice B0 m cR] 25)).alloc (.cells #[.int .u8 x0, .int .u8 x1] 53)) (w.heap.size + 1) 53 [.int .u8 x0, .int .u8 x1] := by
    have := Lies.new (w.alloc (.cells #[.slice A0 n cN, .slice B0 m cR] 25)) 53 [.int .u8 x0, .int .u8 x1]
    rw [World.size_alloc] at this; exact this
  have HLY := Lib.hid LY
  have HBX := Lib.hid bX
  have HLX := Lib.hid LX
  have d1 : decide ((40 : Int) < (q : Int)) = false := by simp; omega
  clear hd hr hz hf he bX LX LY
  go_enter Try.func4, Try.ntmps4
  go_wp2_with fail
  refine (awake_any _).mono ?_
  rintro e w1 ⟨rfl, hb1⟩
  have L1 := HLX.out.kept hb1
  have x0 : w1.cell? ⟨w.heap.size, 0, none⟩ = some (.slice A0 n cN) := L1.cell 0
  have x1 : w1.cell? ⟨w.heap.size, 1, none⟩ = some (.slice B0 m cR) := L1.cell 1
  have HL1 := Lib.hid L1
  have HY1 := Lib.hid (HLY.out.kept hb1)
  have HB1 := Lib.hid (on HBX.out HBX.out.size hb1)
  clear hb1 L1
  go_wp2_with fail
  refine (few_any A0 B0 n cN m cR ds ⟨HD.out.1, HD.out.2.1.kept HB1.out, HD.out.2.2⟩ (by unfold maxLen; omega)).mono ?_
  rintro e w2 ⟨rfl, hb2⟩
  rw [HF.out]
  have L2 := HL1.out.kept hb2
  have HY2 := Lib.hid (HY1.out.kept hb2)
  have x2 : w2.cell? ⟨w.heap.size, 0, none⟩ = some (.slice A0 n cN) := L2.cell 0
  have x3 : w2.cell? ⟨w.heap.size, 1, none⟩ = some (.slice B0 m cR) := L2.cell 1
  have HB2 := Lib.hid (on HB1.out HB1.out.size hb2)
  clear hb2 L2 x0 x1 HL1
  go_wp2_with fail
  refine (marked_any A0 B0 C0 n cN m cR q cZ ds rs zs ⟨HD.out.1, HD.out.2.1.kept HB2.out, HD.out.2.2⟩ ⟨HR.out.1, HR.out.2.1.kept HB2.out, HR.out.2.2⟩ ⟨HZ.out.1, HZ.out.2.1.kept HB2.out, HZ.out.2.2⟩ hn14 hm14 hq HE.out).mono ?_
  rintro e w3 ⟨g, gw, gb, base, obs, tail, A, n', c, xs, mg, mw, ws, rfl, MK⟩
  obtain ⟨Z, hZ⟩ : ∃ Z, sizeG ds 2 n = Z := ⟨_, rfl⟩
  rw [hZ] at MK ⊢
  have HB3 := Lib.hid (on HB2.out HB2.out.size MK.old)
  have HY3 := Lib.hid (HY2.out.kept MK.old)
  have bY := below_one w3 (.cells #[.int .i64 (Z : Int), .slice A n' c] 33)
  have HB4 := Lib.hid (on HB3.out HB3.out.size bY)
  have HY4 := Lib.hid (HY3.out.kept bY)
  have HMK := Lib.hid (MK.kept bY)
  have HLB := Lib.hid (show Lies (w3.alloc (.cells #[.int .i64 (Z : Int), .slice A n' c] 33)) w3.heap.size 33 [.int .i64 (Z : Int), .slice A n' c] from Lies.new w3 33 [_, _])
  obtain ⟨top, htop⟩ : ∃ top, (flat obs).length = top := ⟨_, rfl⟩
  have HTOP := Lib.hid htop
  have htop6 : top ≤ 65536 := by
    obtain ⟨B, cap, rts, hB⟩ := MK.heap
    have h1 := hB.st.lies.most
    have h2 := hB.st.lies.fits
    omega
  have HST : Hid (St (w3.alloc (.cells #[.int .i64 (Z : Int), .slice A n' c] 33)) g gw gb obs tail) := Lib.hid (by obtain ⟨B, cap, rts, hB⟩ := HMK.out.heap; exact hB.st)
  clear MK bY hZ htop x2 x3 HLX HBX HB1 HB2 HD HR HZ HE HF HLY HY1 HY2 HY3
  have hw1 : (W1 : Int) = if (W1 : Int) < 1 then 1 else if (65536 : Int) < (W1 : Int) then 65536 else (W1 : Int) := by rw [if_neg (by omega), if_neg (by omega)]
  have hw2 : (W2 : Int) = if (W2 : Int) < 1 then 1 else if (65536 : Int) < (W2 : Int) then 65536 else (W2 : Int) := by rw [if_neg (by omega), if_neg (by omega)]
  obtain ⟨w4, hw4⟩ : ∃ w4, (w3.alloc (.cells #[.int .i64 (Z : Int), .slice A n' c] 33)) = w4 := ⟨_, rfl⟩
  rw [hw4] at HST HMK HB4 HY4 HLB
  have HO1 := Lib.hid (show ∀ V, Below w4.heap.size w4 V → Calls Try.prog 10 #[.pointer (some ⟨g, 0, none⟩), .pointer (some ⟨mg, 0, none⟩), .int .i64 (W1 : Int)] V fun e w' => ∃ p, e = .returned (.pointer (some ⟨p, 0, none⟩)) ∧ Hid (∃ K T, Fo w' p W1 K T top (Mk.bit ws) obs) ∧ Below V.heap.size V w' from fun V hV => (new_any (HST.out.kept hV) (HMK.out.map.kept hV) (W1 : Int) W1 _ top hw1 HTOP.out rfl (by unfold InR; omega)).mono fun e w' h => by
    obtain ⟨p, q, a, base, l, T, he, h1, h2, h3⟩ := h
    exact ⟨p, he, Lib.hid ⟨_, T, ⟨q, a, base, l, h1⟩, h2, by omega, by omega, rfl, HTOP.out, htop6⟩, h3⟩)
  have HO2 := Lib.hid (show ∀ V, Below w4.heap.size w4 V → Calls Try.prog 10 #[.pointer (some ⟨g, 0, none⟩), .pointer (some ⟨mg, 0, none⟩), .int .i64 (W2 : Int)] V fun e w' => ∃ p, e = .returned (.pointer (some ⟨p, 0, none⟩)) ∧ Hid (∃ K T, Fo w' p W2 K T top (Mk.bit ws) obs) ∧ Below V.heap.size V w' from fun V hV => (new_any (HST.out.kept hV) (HMK.out.map.kept hV) (W2 : Int) W2 _ top hw2 HTOP.out rfl (by unfold InR; omega)).mono fun e w' h => by
    obtain ⟨p, q, a, base, l, T, he, h1, h2, h3⟩ := h
    exact ⟨p, he, Lib.hid ⟨_, T, ⟨q, a, base, l, h1⟩, h2, by omega, by omega, rfl, HTOP.out, htop6⟩, h3⟩)
  clear hw1 hw2
  obtain ⟨bx, hbx2⟩ : ∃ bx, w.heap.size + 1 = bx := ⟨_, rfl⟩
  have c0 : w4.cell? ⟨bx, 0, none⟩ = some (.int .u8 x0) := by rw [← hbx2]; exact HY4.out.cell 0
  have c1 : w4.cell? ⟨bx, 1, none⟩ = some (.int .u8 x1) := by rw [← hbx2]; exact HY4.out.cell 1
  go_upto_region 4 with fail
  clear hw4
  go_cut [10, 11] from 38 to 51 (fun v10 v11 wx => Pair w4 (Mk.bit ws) obs top W1 W2 v10 v11 wx)
  case first =>
    have v0 : IntKind.i64.wrap x0 = x0 := IntWalk.i64_in _ (by omega)
    have v1 : IntKind.i64.wrap (1 + x0) = (W1 : Int) := by rw [hA]; exact IntWalk.i64_in _ (by omega)
    have v2 : IntKind.i64.wrap x1 = x1 := IntWalk.i64_in _ (by omega)
    have v3 : IntKind.i64.wrap (1 + x1) = (W2 : Int) := by rw [hB]; exact IntWalk.i64_in _ (by omega)
    clear hA hB hx0 hx1 hx2 hx3 hA1 hA2 hB1 hB2 hbx2
    have hb0 : Below w4.heap.size w4 w4.drew := (Below.refl _ w4).drew
    have I0 := Lib.hid (show Below w4.heap.size w4 w4.drew ∧ w4.drew.cell? ⟨bx, 0, none⟩ = some (.int .u8 x0) ∧ w4.drew.cell? ⟨bx, 1, none⟩ = some (.int .u8 x1) from ⟨hb0, c0, c1⟩)
    go_region_held3 (fun W => Below w4.heap.size w4 W ∧ W.cell? ⟨bx, 0, none⟩ = some (.int .u8 x0) ∧ W.cell? ⟨bx, 1, none⟩ = some (.int .u8 x1))
      (repeat (first | with_reducible exact I0.out | with_reducible assumption | with_reducible refine hold2 (by assumption) ?_))
      ((first
      | (go_at_call 10; with_reducible refine (HO1.out _ (And.left (by assumption))).mono ?_; rintro e W5 ⟨p1, rfl, HF1, hk1⟩)
      | (go_at_call 10; with_reducible refine (HO2.out _ (And.left (by assumption))).mono ?_; rintro e W6 ⟨p2, rfl, HF2, hk2⟩)))
    all_goals (go_wp2_with fail; go_meet)
    all_goals (rename_i hh; first | exact ⟨_, _, rfl, rfl, fo_kept HF1.out hk2, HF2.out, hh.1⟩ | exact ⟨_, _, rfl, rfl, HF1.out, fo_kept HF2.out hk1, hh.1⟩)
  case rest =>
  obtain ⟨p1, p2, rfl, rfl, hF1, hF2, hB5⟩ := hcut
  obtain ⟨w5, rfl⟩ : ∃ w5, w5 = wc := ⟨_, rfl⟩
  obtain ⟨K1, T1, hF1⟩ := hF1
  obtain ⟨K2, T2, hF2⟩ := hF2
  have HF1 := Lib.hid hF1
  have HF2 := Lib.hid hF2
  have HT1 := Lib.hid hF1.total
  have HT2 := Lib.hid hF2.total
  have HB5 := Lib.hid (on HB4.out HB4.out.size hB5)
  have HST5 := Lib.hid (HST.out.kept hB5)
  have HMK5 := Lib.hid (HMK.out.kept hB5)
  have HLB5 := Lib.hid (HLB.out.kept hB5)
  have HTH5 : Hid (Things w5 A obs) := Lib.hid (by obtain ⟨B, cap, rts, hB⟩ := HMK5.out.heap; exact hB.own.things)
  have HCNT : Hid (obs.length = n') := Lib.hid (by obtain ⟨B, cap, rts, hB⟩ := HMK5.out.heap; exact hB.count)
  have hn6 : n' ≤ top := by rw [← HCNT.out]; exact many_le HTOP.out
  have y1 : w5.cell? ⟨w3.heap.size, 1, none⟩ = some (.slice A n' c) := HLB5.out.cell 1
  clear hF1 hF2 hB5 HO1 HO2 c0 c1
  go_wp2_with fail
  go_loopw [55, 13, 14, 15, 16, 17] (fun i _ _ _ _ _ wr => ∃ j : Nat, j ≤ n' ∧ i = .int .i64 j ∧ Below w5.heap.size w5 wr) (fun i _ _ _ _ _ _ => n' - (intOf i).toNat)
  case atStart => exact ⟨0, Nat.zero_le _, rfl, Below.refl _ _⟩
  case round =>
    obtain ⟨j, hj, rfl, BB⟩ := hrel
    have HBB := Lib.hid BB
    clear y1 BB
    by_cases hlt : j < n'
    · obtain ⟨ad, Bx, cx, p, nl, s0, r0, o, rfl, hat, hnl, hl4, hpt, hs0, hs1, c0, c1, c2, c3, c4, -⟩ := obj_at (j := j) (HTH5.out.kept HBB.out) HST5.out.fine HTOP.out (by rw [HCNT.out]; exact hlt)
      obtain ⟨g1, g2, g3, -⟩ := obj_go (Mk.bit ws) hat
      obtain ⟨E, hE⟩ : ∃ E, endS (Mk.bit ws) obs j = E := ⟨_, rfl⟩
      obtain ⟨kb, hkb⟩ : ∃ kb, keepB (Mk.bit ws) (p, o) = kb := ⟨_, rfl⟩
      rw [hE] at g2 g3
      rw [hkb] at g1
      have HG1 := Lib.hid g1
      have HG2 := Lib.hid g2
      have j0 : (0 : Int) ≤ (j : Int) := by omega
      have j1 : (j : Int) < (n' : Int) := by omega
      have bY := below_one wr (.cells #[.int .i64 (p : Nat), .int .i64 s0, .int .i64 (nl : Nat), .int .i64 r0, .slice Bx nl cx] 43)
      have LY : Lies (wr.alloc (.cells #[.int .i64 (p : Nat), .int .i64 s0, .int .i64 (nl : Nat), .int .i64 r0, .slice Bx nl cx] 43)) wr.heap.size 43 [.int .i64 (p : Nat), .int .i64 s0, .int .i64 (nl : Nat), .int .i64 r0, .slice Bx nl cx] := Lies.new wr 43 [_, _, _, _, _]
      have HLY := Lib.hid LY
      have HBY := Lib.hid (on HBB.out HBB.out.size bY)
      clear hat hnl hs0 g1 g2 hkb hE bY LY
      cases kb with
      | true =>
        go_wp2_with fail
        refine (to_yes (HF1.out.kept HBY.out) p E HG1.out HG2.out).mono ?_
        rintro e w7 ⟨rfl, hb7⟩
        have x0 : w7.cell? ⟨wr.heap.size, 0, none⟩ = some (.int .i64 (p : Nat)) := (HLY.out.kept hb7).cell 0
        have HB7 := Lib.hid (on HBY.out HBY.out.size hb7)
        clear c0 c1 c2 c3 c4 hb7
        go_wp2_with fail
        refine (to_yes (HF2.out.kept HB7.out) p E HG1.out HG2.out).mono ?_
        rintro e w8 ⟨rfl, hb8⟩
        have HB8 := Lib.hid (on HB7.out HB7.out.size hb8)
        have d1 : ((E : Int) != (E : Int)) = false := by simp
        clear hb8 x0
        go_wp2
        refine ⟨⟨j + 1, by omega, by go_num, HB8.out⟩, by simp [intOf]; omega⟩
      | false =>
        have hno : (p : Int) < 0 ∨ (top : Int) ≤ (p : Int) ∨ isK (Mk.bit ws) (adr 0 obs) (p : Int).toNat = false := Or.inr (Or.inr (by rw [Int.toNat_natCast]; exact HG1.out))
        have HNO := Lib.hid hno
        clear hno
        go_wp2_with fail
        refine (to_no (HF1.out.kept HBY.out) (p : Int) HNO.out).mono ?_
        rintro e w7 ⟨rfl, hb7⟩
        have x0 : w7.cell? ⟨wr.heap.size, 0, none⟩ = some (.int .i64 (p : Nat)) := (HLY.out.kept hb7).cell 0
        have HB7 := Lib.hid (on HBY.out HBY.out.size hb7)
        clear c0 c1 c2 c3 c4 hb7
        go_wp2_with fail
        refine (to_no (HF2.out.kept HB7.out) (p : Int) HNO.out).mono ?_
        rintro e w8 ⟨rfl, hb8⟩
        have HB8 := Lib.hid (on HB7.out HB7.out.size hb8)
        clear hb8 x0
        go_wp2
        refine ⟨⟨j + 1, by omega, by go_num, HB8.out⟩, by simp [intOf]; omega⟩
    · obtain rfl : j = n' := by omega
      obtain rfl : T1 = T2 := by rw [HT1.out, HT2.out]
      have d1 : ((T1 : Int) == (T1 : Int)) = true := by simp
      go_wp2_with fail
      refine (ftop_any (HF1.out.kept HBB.out)).mono ?_
      rintro e w7 ⟨rfl, hb7⟩
      have HB7 := Lib.hid (on HBB.out HBB.out.size hb7)
      clear hb7
      go_wp2_with fail
      refine (ftop_any (HF2.out.kept HB7.out)).mono ?_
      rintro e w8 ⟨rfl, hb8⟩
      have HB8 := Lib.hid (on HB7.out HB7.out.size hb8)
      clear hb8
      go_wp2
      go_ret
      exact ⟨rfl, on HB5.out HB5.out.size HB8.out⟩

end Go.Proofs.Ytehmcbpkhknpcaa
