/- RegionSame: where it plays, and where not. -/
import Derived.Test.YthjbechbioeglaaSameL
import Derived.Deep.CutRange
import Derived.Deep.CutBlock
import Derived.BigQuiet
import Derived.Deep.RegionHeld3
import Derived.Lib.QuietBelow
namespace Go.Proofs.Ythjbechbioeglaa
open Go.RowKit Go.Sort
set_option linter.unusedVariables false
set_option linter.unusedSimpArgs false

set_option maxRecDepth 100000 in
set_option maxHeartbeats 1000000 in
theorem same_far (A0 B0 C0 : Option Addr) (n cN m cR q cZ : Nat) (x0 x1 : Int) (ds : List Nd) (w : World) (hd : CameN w A0 n ds) (hm : m ≤ maxLen) (hq : q ≤ maxLen) (h : fewB ds m = false ∨ 40 < q) :
    Calls Try.prog 4 #[.agg #[.slice A0 n cN, .slice B0 m cR], .slice C0 q cZ, .agg #[.int .u8 x0, .int .u8 x1]] w fun e w' => e = .returned (.bool true) ∧ Below w.heap.size w w' := by
  have HD := Lib.hid hd
  have bX : Below w.heap.size w ((w.alloc (.cells #[.slice A0 n cN, .slice B0 m cR] 25)).alloc (.cells #[.int .u8 x0, .int .u8 x1] 49)) := ((Below.refl _ w).alloc (Nat.le_refl _) _).alloc (by simp) _
  have LX : Lies ((w.alloc (.cells #[.slice A0 n cN, .slice B0 m cR] 25)).alloc (.cells #[.int .u8 x0, .int .u8 x1] 49)) w.heap.size 25 [.slice A0 n cN, .slice B0 m cR] := (Lies.new w 25 [_, _]).kept (below_one _ _)
  have HBX := Lib.hid bX
  have HLX := Lib.hid LX
  unfold maxLen at hm hq
  clear hd bX LX
  go_enter Try.func4, Try.ntmps4
  go_wp2_with fail
  refine (awake_any _).mono ?_
  rintro e w1 ⟨rfl, hb1⟩
  have L1 := HLX.out.kept hb1
  have x0 : w1.cell? ⟨w.heap.size, 0, none⟩ = some (.slice A0 n cN) := L1.cell 0
  have x1 : w1.cell? ⟨w.heap.size, 1, none⟩ = some (.slice B0 m cR) := L1.cell 1
  have HB1 := Lib.hid (on HBX.out HBX.out.size hb1)
  clear hb1 L1
  go_wp2_with fail
  refine (few_any A0 B0 n cN m cR ds ⟨HD.out.1, HD.out.2.1.kept HB1.out, HD.out.2.2⟩ (by unfold maxLen; exact hm)).mono ?_
  rintro e w2 ⟨rfl, hb2⟩
  have HB2 := Lib.hid (on HB1.out HB1.out.size hb2)
  clear hb2 x0 x1
  cases hf : fewB ds m with
  | false =>
    clear hf h
    go_wp2_with fail
    refine (awake_any _).mono ?_
    rintro e w3 ⟨rfl, hb3⟩
    have HB3 := Lib.hid (on HB2.out HB2.out.size hb3)
    clear hb3
    go_wp2
    go_ret
    exact ⟨rfl, HB3.out⟩
  | true =>
    have hq40 : 40 < q := by rcases h with h | h; · rw [hf] at h; cases h
                             · exact h
    have d1 : decide ((40 : Int) < (q : Int)) = true := by simp; omega
    clear hf h
    go_wp2_with fail
    refine (awake_any _).mono ?_
    rintro e w3 ⟨rfl, hb3⟩
    have HB3 := Lib.hid (on HB2.out HB2.out.size hb3)
    clear hb3
    go_wp2
    go_ret
    exact ⟨rfl, HB3.out⟩

set_option maxRecDepth 1000000 in
set_option maxHeartbeats 4000000 in
theorem same_near (A0 B0 C0 : Option Addr) (n cN m cR q cZ : Nat) (x0 x1 : Int) (W1 W2 : Nat) (ds : List Nd) (rs zs : List Int) (w : World) (hd : CameN w A0 n ds) (hr : Mk.Came .u8 w B0 m rs) (hz : Mk.Came .u8 w C0 q zs) (hf : fewB ds m = true) (hq : q ≤ 40) (hx0 : 0 ≤ x0) (hx1 : x0 ≤ 255) (hx2 : 0 ≤ x1) (hx3 : x1 ≤ 255) (hA : 1 + x0 = (W1 : Int)) (hB : 1 + x1 = (W2 : Int)) (hA1 : 1 ≤ W1) (hA2 : W1 ≤ 256) (hB1 : 1 ≤ W2) (hB2 : W2 ≤ 256) :
    Calls Try.prog 4 #[.agg #[.slice A0 n cN, .slice B0 m cR], .slice C0 q cZ, .agg #[.int .u8 x0, .int .u8 x1]] w fun e w' => e = .returned (.bool true) ∧ Below w.heap.size w w' := by
  have HD := Lib.hid hd
  have HR := Lib.hid hr
  have HZ := Lib.hid hz
  have HF := Lib.hid hf
  have hfew := hf
  unfold fewB at hfew
  simp only [Bool.and_eq_true, List.all_eq_true, decide_eq_true_eq] at hfew
  obtain ⟨he, hn14, hm14⟩ := hfew
  rw [hd.1] at hn14
  have HE := Lib.hid he
  have bX : Below w.heap.size w ((w.alloc (.cells #[.slice A0 n cN, .slice B0 m cR] 25)).alloc (.cells #[.int .u8 x0, .int .u8 x1] 49)) := ((Below.refl _ w).alloc (Nat.le_refl _) _).alloc (by simp) _
  have LX : Lies ((w.alloc (.cells #[.slice A0 n cN, .slice B0 m cR] 25)).alloc (.cells #[.int .u8 x0, .int .u8 x1] 49)) w.heap.size 25 [.slice A0 n cN, .slice B0 m cR] := (Lies.new w 25 [_, _]).kept (below_one _ _)
  have LY : Lies ((w.alloc (.cells #[.slice A0 n cN, .slice B0 m cR] 25)).alloc (.cells #[.int .u8 x0, .int .u8 x1] 49)) (w.heap.size + 1) 49 [.int .u8 x0, .int .u8 x1] := by
    have := Lies.new (w.alloc (.cells #[.slice A0 n cN, .slice B0 m cR] 25)) 49 [.int .u8 x0, .int .u8 x1]
    rw [World.size_alloc] at this; exact this
  have HLY := Lib.hid LY
  have HBX := Lib.hid bX
  have HLX := Lib.hid LX
  have d1 : decide ((40 : Int) < (q : Int)) = false := by simp; omega
  clear hd hr hz hf he bX LX LY
  go_enter Try.func4, Try.ntmps4
  go_wp2_with fail
  refine (awake_any _).mono ?_
  rintro e w1 ⟨rfl, hb1⟩
  have L1 := HLX.out.kept hb1
  have x0 : w1.cell? ⟨w.heap.size, 0, none⟩ = some (.slice A0 n cN) := L1.cell 0
  have x1 : w1.cell? ⟨w.heap.size, 1, none⟩ = some (.slice B0 m cR) := L1.cell 1
  have HL1 := Lib.hid L1
  have HY1 := Lib.hid (HLY.out.kept hb1)
  have HB1 := Lib.hid (on HBX.out HBX.out.size hb1)
  clear hb1 L1
  go_wp2_with fail
  refine (few_any A0 B0 n cN m cR ds ⟨HD.out.1, HD.out.2.1.kept HB1.out, HD.out.2.2⟩ (by unfold maxLen; omega)).mono ?_
  rintro e w2 ⟨rfl, hb2⟩
  rw [HF.out]
  have L2 := HL1.out.kept hb2
  have HY2 := Lib.hid (HY1.out.kept hb2)
  have x2 : w2.cell? ⟨w.heap.size, 0, none⟩ = some (.slice A0 n cN) := L2.cell 0
  have x3 : w2.cell? ⟨w.heap.size, 1, none⟩ = some (.slice B0 m cR) := L2.cell 1
  have HB2 := Lib.hid (on HB1.out HB1.out.size hb2)
  clear hb2 L2 x0 x1 HL1
  go_wp2_with fail
  refine (marked_any A0 B0 C0 n cN m cR q cZ ds rs zs ⟨HD.out.1, HD.out.2.1.kept HB2.out, HD.out.2.2⟩ ⟨HR.out.1, HR.out.2.1.kept HB2.out, HR.out.2.2⟩ ⟨HZ.out.1, HZ.out.2.1.kept HB2.out, HZ.out.2.2⟩ hn14 hm14 hq HE.out).mono ?_
  rintro e w3 ⟨g, gw, gb, base, obs, tail, A, n', c, xs, mg, mw, ws, rfl, MK⟩
  obtain ⟨Z, hZ⟩ : ∃ Z, sizeG ds 2 n = Z := ⟨_, rfl⟩
  rw [hZ] at MK ⊢
  have HB3 := Lib.hid (on HB2.out HB2.out.size MK.old)
  have HY3 := Lib.hid (HY2.out.kept MK.old)
  have bY := below_one w3 (.cells #[.int .i64 (Z : Int), .slice A n' c] 32)
  have HB4 := Lib.hid (on HB3.out HB3.out.size bY)
  have HY4 := Lib.hid (HY3.out.kept bY)
  have HMK := Lib.hid (MK.kept bY)
  have HLB := Lib.hid (show Lies (w3.alloc (.cells #[.int .i64 (Z : Int), .slice A n' c] 32)) w3.heap.size 32 [.int .i64 (Z : Int), .slice A n' c] from Lies.new w3 32 [_, _])
  obtain ⟨top, htop⟩ : ∃ top, (flat obs).length = top := ⟨_, rfl⟩
  have HTOP := Lib.hid htop
  have htop6 : top ≤ 65536 := by
    obtain ⟨B, cap, rts, hB⟩ := MK.heap
    have h1 := hB.st.lies.most
    have h2 := hB.st.lies.fits
    omega
  have HST : Hid (St (w3.alloc (.cells #[.int .i64 (Z : Int), .slice A n' c] 32)) g gw gb obs tail) := Lib.hid (by obtain ⟨B, cap, rts, hB⟩ := HMK.out.heap; exact hB.st)
  clear MK bY hZ htop x2 x3 HLX HBX HB1 HB2 HD HR HZ HE HF HLY HY1 HY2 HY3
  obtain ⟨K1, hK1⟩ : ∃ K, (top + W1 - 1) / W1 = K := ⟨_, rfl⟩
  obtain ⟨K2, hK2⟩ : ∃ K, (top + W2 - 1) / W2 = K := ⟨_, rfl⟩
  have hw1 : (W1 : Int) = if (W1 : Int) < 1 then 1 else if (65536 : Int) < (W1 : Int) then 65536 else (W1 : Int) := by rw [if_neg (by omega), if_neg (by omega)]
  have hw2 : (W2 : Int) = if (W2 : Int) < 1 then 1 else if (65536 : Int) < (W2 : Int) then 65536 else (W2 : Int) := by rw [if_neg (by omega), if_neg (by omega)]
  obtain ⟨w4, hw4⟩ : ∃ w4, (w3.alloc (.cells #[.int .i64 (Z : Int), .slice A n' c] 32)) = w4 := ⟨_, rfl⟩
  rw [hw4] at HST HMK HB4 HY4
  have HO1 := Lib.hid (show ∀ V, Below w4.heap.size w4 V → Calls Try.prog 10 #[.pointer (some ⟨g, 0, none⟩), .pointer (some ⟨mg, 0, none⟩), .int .i64 (W1 : Int)] V fun e w' => ∃ q l base T, e = .returned (.agg #[.int .i64 (W1 : Nat), .slice (some ⟨q, 0, none⟩) K1 K1, .int .i64 (T : Nat)]) ∧ Hid (Rg w' base q l ∧ regsAll l (Mk.bit ws) W1 K1 K1 (adr 0 obs) ∧ T = firstR (Mk.bit ws) W1 (adr 0 obs) K1) ∧ Below V.heap.size V w' ∧ Hid (V.heap.size ≤ q ∧ V.heap.size ≤ w'.heap.size ∧ w4.heap.size ≤ w'.heap.size) from fun V hV => (of_any (HST.out.kept hV) (HMK.out.map.kept hV) (W1 : Int) W1 K1 top hw1 HTOP.out hK1.symm (by unfold InR; omega)).mono fun e w' h => by
    obtain ⟨q, l, base, T, he, h1, h2, h3, h4, h5⟩ := h
    exact ⟨q, l, base, T, he, Lib.hid ⟨h1, h2, h3⟩, h4, Lib.hid ⟨h5, h4.size, Nat.le_trans hV.size h4.size⟩⟩)
  have HO2 := Lib.hid (show ∀ V, Below w4.heap.size w4 V → Calls Try.prog 10 #[.pointer (some ⟨g, 0, none⟩), .pointer (some ⟨mg, 0, none⟩), .int .i64 (W2 : Int)] V fun e w' => ∃ q T, e = .returned (.agg #[.int .i64 (W2 : Nat), .slice (some ⟨q, 0, none⟩) K2 K2, .int .i64 (T : Nat)]) ∧ Hid (T = firstR (Mk.bit ws) W2 (adr 0 obs) K2) ∧ Below V.heap.size V w' ∧ Hid (V.heap.size ≤ w'.heap.size ∧ w4.heap.size ≤ w'.heap.size) from fun V hV => (of_any (HST.out.kept hV) (HMK.out.map.kept hV) (W2 : Int) W2 K2 top hw2 HTOP.out hK2.symm (by unfold InR; omega)).mono fun e w' h => by
    obtain ⟨q, l, base, T, he, h1, h2, h3, h4, h5⟩ := h
    exact ⟨q, T, he, Lib.hid h3, h4, Lib.hid ⟨h4.size, Nat.le_trans hV.size h4.size⟩⟩)
  have hK6 : K1 ≤ 65536 := by rw [← hK1]; exact kdiv_le (by omega) htop6 (by omega)
  have HK1 := Lib.hid hK1
  have HK2 := Lib.hid hK2
  clear hw1 hw2 hK1 hK2
  have hbx : w.heap.size + 1 < w4.heap.size := HY4.out.lt
  have HBX4 := Lib.hid hbx
  obtain ⟨bx, hbx2⟩ : ∃ bx, w.heap.size + 1 = bx := ⟨_, rfl⟩
  have c0 : w4.cell? ⟨bx, 0, none⟩ = some (.int .u8 x0) := by rw [← hbx2]; exact HY4.out.cell 0
  have c1 : w4.cell? ⟨bx, 1, none⟩ = some (.int .u8 x1) := by rw [← hbx2]; exact HY4.out.cell 1
  rw [hbx2] at HBX4
  clear hbx
  go_upto_region 4 with fail
  clear hw4
  go_cut [10, 11] from 34 to 47 (fun v10 v11 wx => Two w4 (Mk.bit ws) (adr 0 obs) W1 W2 K1 K2 v10 v11 wx)
  case first =>
    have v0 : IntKind.i64.wrap x0 = x0 := IntWalk.i64_in _ (by omega)
    have v1 : IntKind.i64.wrap (1 + x0) = (W1 : Int) := by rw [hA]; exact IntWalk.i64_in _ (by omega)
    have v2 : IntKind.i64.wrap x1 = x1 := IntWalk.i64_in _ (by omega)
    have v3 : IntKind.i64.wrap (1 + x1) = (W2 : Int) := by rw [hB]; exact IntWalk.i64_in _ (by omega)
    clear hA hB hx0 hx1 hx2 hx3 hA1 hA2 hB1 hB2 hbx2
    have hb0 : Below w4.heap.size w4 w4.drew := (Below.refl _ w4).drew
    have I0 := Lib.hid (show Below w4.heap.size w4 w4.drew ∧ w4.drew.cell? ⟨bx, 0, none⟩ = some (.int .u8 x0) ∧ w4.drew.cell? ⟨bx, 1, none⟩ = some (.int .u8 x1) from ⟨hb0, c0, c1⟩)
    have I1 := Lib.hid (show Below w4.heap.size w4 w4 ∧ w4.cell? ⟨bx, 0, none⟩ = some (.int .u8 x0) ∧ w4.cell? ⟨bx, 1, none⟩ = some (.int .u8 x1) from ⟨Below.refl _ _, c0, c1⟩)
    go_region_held3 (fun W => Below w4.heap.size w4 W ∧ W.cell? ⟨bx, 0, none⟩ = some (.int .u8 x0) ∧ W.cell? ⟨bx, 1, none⟩ = some (.int .u8 x1))
      (repeat (first | with_reducible exact I0.out | with_reducible assumption | with_reducible refine hold2 (by assumption) ?_ | with_reducible exact I1.out | with_reducible refine hold2a ?_ | with_reducible refine hold2d ?_ | (with_reducible refine hold2s ?_ HBX4.out ?_; rotate_left; (first | exact Nat.le_refl _ | exact Nat.le_succ _ | exact HZ1.out.2.2 | exact Nat.le_succ_of_le HZ1.out.2.2 | exact HZ2.out.2 | exact Nat.le_succ_of_le HZ2.out.2))))
      ((first
      | (go_at_call 10; with_reducible refine (HO1.out _ (And.left (by assumption))).mono ?_; rintro e W5 ⟨q1, l1, b1, T1, rfl, HF1, hk1, HZ1⟩; (try have HQ1 := Lib.hid (qlt1 (w := w4) HZ1.out.1)); (try have HQ1 := Lib.hid (qlt2 (w := w4) HZ1.out.1).1); (try have HQ2 := Lib.hid (qlt2 (w := w4) HZ1.out.1).2); (try (refine havev (p := AnyBox W5 w4.heap.size) ?_ ?_; refine any_kept ?_ hk1; (repeat (first | exact any_new rfl | exact any_new (World.size_alloc _ _).symm | exact HA1.out | exact HA2.out | refine any_drew ?_ | refine any_alloc ?_)); intro A1; have HA1 := Lib.hid A1; obtain ⟨-, -, -, -, -, -, -, -, -, nn1, nn2, -, -, nn3⟩ := any_open A1; clear A1)); (try (refine havev (p := AnyBox W5 (w4.heap.size + 1)) ?_ ?_; refine any_kept ?_ hk1; (repeat (first | exact any_new rfl | exact any_new (World.size_alloc _ _).symm | exact HA1.out | exact HA2.out | refine any_drew ?_ | refine any_alloc ?_)); intro A2; have HA2 := Lib.hid A2; clear A2)))
      | (go_at_call 10; with_reducible refine (HO2.out _ (And.left (by assumption))).mono ?_; rintro e W6 ⟨q2, T2, rfl, HF2, hk2, HZ2⟩; (first | have HO6 := Lib.hid (off_k0 (q := q1) (W5 := W5) hk2) | have HO6 := Lib.hid (off_k1 (q := q1) (W5 := W5) hk2) | have HO6 := Lib.hid (off_k2 (q := q1) (W5 := W5) hk2)); (try (refine havev (p := AnyBox W6 (w4.heap.size)) ?_ ?_; refine any_kept ?_ hk2; (repeat (first | exact any_new rfl | exact any_new (World.size_alloc _ _).symm | exact HA1.out | exact HA2.out | refine any_drew ?_ | refine any_alloc ?_)); intro A3; obtain ⟨z30, z31, z32, u0, u1, u2, f0, f1, f2, n0, n1, n2, n3, n4⟩ := any_open A3; have HX3 := Lib.hid (show AnyBox W6 w4.heap.size ∧ (w4.heap.size < q1 ∨ W5.heap.size ≤ w4.heap.size) from ⟨A3, Or.inl HQ1.out⟩); clear A3)); (try (refine havev (p := AnyBox W6 (w4.heap.size + 1)) ?_ ?_; refine any_kept ?_ hk2; (repeat (first | exact any_new rfl | exact any_new (World.size_alloc _ _).symm | exact HA1.out | exact HA2.out | refine any_drew ?_ | refine any_alloc ?_)); intro A4; obtain ⟨z40, z41, z42, u0, u1, u2, f0, f1, f2, n0, n1, n2, n3, n4⟩ := any_open A4; have HX4 := Lib.hid (show AnyBox W6 (w4.heap.size + 1) ∧ ((w4.heap.size + 1) < q1 ∨ W5.heap.size ≤ (w4.heap.size + 1)) from ⟨A4, Or.inl HQ2.out⟩); clear A4)); (try (refine havev (p := AnyBox W6 (W5.heap.size)) ?_ ?_; refine any_kept ?_ hk2; (repeat (first | exact any_new rfl | exact any_new (World.size_alloc _ _).symm | exact HA1.out | exact HA2.out | refine any_drew ?_ | refine any_alloc ?_)); intro A5; obtain ⟨z50, z51, z52, u0, u1, u2, f0, f1, f2, n0, n1, n2, n3, n4⟩ := any_open A5; have HX5 := Lib.hid (show AnyBox W6 W5.heap.size ∧ (W5.heap.size < q1 ∨ W5.heap.size ≤ W5.heap.size) from ⟨A5, Or.inr (Nat.le_refl _)⟩); clear A5)); (try (refine havev (p := AnyBox W6 (W5.heap.size + 1)) ?_ ?_; refine any_kept ?_ hk2; (repeat (first | exact any_new rfl | exact any_new (World.size_alloc _ _).symm | exact HA1.out | exact HA2.out | refine any_drew ?_ | refine any_alloc ?_)); intro A6; obtain ⟨z60, z61, z62, u0, u1, u2, f0, f1, f2, n0, n1, n2, n3, n4⟩ := any_open A6; have HX6 := Lib.hid (show AnyBox W6 (W5.heap.size + 1) ∧ ((W5.heap.size + 1) < q1 ∨ W5.heap.size ≤ (W5.heap.size + 1)) from ⟨A6, Or.inr (Nat.le_succ _)⟩); clear A6)))))
    all_goals (go_wp2_with fail; go_meet)
    all_goals (
      (rename_i hh
       first
       | (with_reducible refine leaf1 (W5 := W5) (b1 := b1) (l1 := l1) ?_ ?_ ?_ ?_; exact HF1.out; exact HF2.out; exact HO6.out; exact hh.1)
       | (with_reducible refine leaf2 (W5 := W5) (b1 := b1) (l1 := l1) ?_ ?_ ?_ ?_; exact HF1.out; exact HF2.out; exact HO6.out; exact hh.1)
       | (with_reducible refine leaf3 (W5 := W5) (b1 := b1) (l1 := l1) ?_ ?_ ?_ ?_ ?_; exact HF1.out; exact HF2.out; exact HO6.out; (first | with_reducible exact HX3.out | with_reducible exact HX4.out | with_reducible exact HX5.out | with_reducible exact HX6.out); exact hh.1)
       | (with_reducible refine leaf4 (W5 := W5) (b1 := b1) (l1 := l1) ?_ ?_ ?_ ?_ ?_; exact HF1.out; exact HF2.out; exact HO6.out; (first | with_reducible exact HX3.out | with_reducible exact HX4.out | with_reducible exact HX5.out | with_reducible exact HX6.out); exact hh.1)
       | (with_reducible refine leaf5 (W5 := W5) (b1 := b1) (l1 := l1) ?_ ?_ ?_ ?_ ?_ ?_ ?_; exact HF1.out; exact HF2.out; exact HO6.out; (first | with_reducible exact HX3.out | with_reducible exact HX4.out | with_reducible exact HX5.out | with_reducible exact HX6.out); (first | with_reducible exact HX3.out | with_reducible exact HX4.out | with_reducible exact HX5.out | with_reducible exact HX6.out); (first | exact nn1 | exact nn2 | exact Nat.ne_of_lt (Nat.lt_succ_self _) | exact Nat.succ_ne_self _); exact hh.1)))
  case rest =>
  obtain ⟨pa, pb, q1, q2, l1, b1, T1, T2, rfl, rfl, La, Lb, R1, G1, hT1, hT2, hc⟩ := hcut
  obtain ⟨w5, rfl⟩ : ∃ wo, wo = wc := ⟨_, rfl⟩
  have HINL : Hid (∀ x ∈ adr 0 obs, x.1 < top) := Lib.hid fun x hx => by have := adr_lt hx; rw [HTOP.out] at this; omega
  have hTT : T1 = T2 := by rw [hT1, hT2, ← HK1.out, ← HK2.out, in_all _ hA1 HINL.out, in_all _ hB1 HINL.out]
  subst hTT
  have HSUM := Lib.hid (show ∀ j, firstR (Mk.bit ws) W1 (adr 0 obs) j ≤ top from fun j => by
    have h1 := first_le (Mk.bit ws) W1 (adr 0 obs) j
    rw [sumL_adr, HTOP.out] at h1; exact h1)
  have HB5 := Lib.hid (on HB4.out HB4.out.size hc)
  have HRg := Lib.hid R1
  have HG := Lib.hid G1
  have HLa := Lib.hid La
  have HLb := Lib.hid Lb
  have s0 : w5.cell? ⟨pa, 0, none⟩ = some (.int .i64 (W1 : Int)) := La.cell 0
  have s1 : w5.cell? ⟨pa, 1, none⟩ = some (.slice (some ⟨q1, 0, none⟩) K1 K1) := La.cell 1
  have s2 : w5.cell? ⟨pa, 2, none⟩ = some (.int .i64 (T1 : Nat)) := La.cell 2
  clear La Lb R1 G1 hT1 hT2 hc HO1 HO2 HST HMK HLB HB3 HB4 HY4 HBX4 c0 c1 hbx2 hx0 hx1 hx2 hx3 hA hB
  go_wp2_with fail
  refine (len_any _ W1 q1 K1 T1).mono ?_
  rintro e w7 ⟨rfl, hb7⟩
  have HR7 := Lib.hid (HRg.out.kept hb7)
  have HLa7 := Lib.hid (HLa.out.kept hb7)
  have HLb7 := Lib.hid (HLb.out.kept hb7)
  have HB7 := Lib.hid (on HB5.out HB5.out.size hb7)
  clear hb7 s0 s1 s2 HLa HLb HRg
  go_wp2
  go_loopw [50] (fun i wr => ∃ k : Nat, k ≤ K1 ∧ i = .int .i64 k ∧ Below w7.heap.size w7 wr) (fun i _ => K1 - (intOf i).toNat)
  case atStart => exact ⟨0, Nat.zero_le _, rfl, Below.refl _ _⟩
  case round =>
    obtain ⟨k, hk, rfl, BB⟩ := hrel
    obtain ⟨wo, rfl⟩ : ∃ wo, wo = wr := ⟨_, rfl⟩
    have HRr := Lib.hid (HR7.out.kept BB)
    have LA := HLa7.out.kept BB
    have LC := HLb7.out.kept BB
    have HLr := Lib.hid LA
    have HBr := Lib.hid (on HB7.out HB7.out.size BB)
    have HBB := Lib.hid BB
    have t0 : wo.cell? ⟨pa, 0, none⟩ = some (.int .i64 (W1 : Int)) := LA.cell 0
    have t1 : wo.cell? ⟨pa, 1, none⟩ = some (.slice (some ⟨q1, 0, none⟩) K1 K1) := LA.cell 1
    have t2 : wo.cell? ⟨pa, 2, none⟩ = some (.int .i64 (T1 : Nat)) := LA.cell 2
    by_cases hlt : k < K1
    · obtain ⟨x, hx, hrow, hlive, hfst⟩ := HG.out.2 k hlt
      rw [if_pos hlt] at hfst
      have k0 : (0 : Int) ≤ (k : Int) := by omega
      have k1 : (k : Int) < (K1 : Int) := by omega
      obtain ⟨S, hS⟩ : ∃ S, firstR (Mk.bit ws) W1 (adr 0 obs) k = S := ⟨_, rfl⟩
      have hS6 : S ≤ 65536 := by have := HSUM.out k; omega
      obtain ⟨rl, hrl⟩ : ∃ rl, x.row.length = rl := ⟨_, rfl⟩
      have hrl2 : rl ≤ 65536 := by
        have h1 := stay_live (Mk.bit ws) W1 k (adr 0 obs)
        rw [← hrow, hrl] at h1
        have h2 : firstR (Mk.bit ws) W1 (adr 0 obs) (k + 1) = firstR (Mk.bit ws) W1 (adr 0 obs) k + liveR (Mk.bit ws) W1 k (adr 0 obs) := rfl
        have h3 := HSUM.out (k + 1)
        omega
      rw [hS] at hfst
      have HKL := HG.out.1
      have HFS := Lib.hid (show ∀ V, Below wo.heap.size wo V → Calls Try.prog 16 #[.agg #[.int .i64 (W1 : Int), .slice (some ⟨q1, 0, none⟩) K1 K1, .int .i64 (T1 : Nat)], .int .i64 (k : Nat)] V fun e w' => e = .returned (.int .i64 (S : Nat)) ∧ Below V.heap.size V w' from fun V hV => by have := first_any (HRr.out.kept hV) W1 K1 T1 k HKL hK6 x hx; rw [hfst] at this; exact this)
      have HSS := Lib.hid (stays_any HRr.out W1 K1 T1 k HKL hK6 x hx rl hrl hrl2)
      have HFP : Hid (∀ k' : Nat, k = k' + 1 → ∃ S' : Nat, S' ≤ S ∧ ∀ V, Below wo.heap.size wo V → Calls Try.prog 16 #[.agg #[.int .i64 (W1 : Int), .slice (some ⟨q1, 0, none⟩) K1 K1, .int .i64 (T1 : Nat)], .int .i64 ((k : Int) - 1)] V fun e w' => e = .returned (.int .i64 (S' : Nat)) ∧ Below V.heap.size V w') := Lib.hid fun k' ek => by
        obtain ⟨y, hy, -, -, hfy⟩ := HG.out.2 k' (by omega)
        rw [if_pos (by omega)] at hfy
        refine ⟨firstR (Mk.bit ws) W1 (adr 0 obs) k', ?_, fun V hV => ?_⟩
        · rw [← hS, ek]; exact Nat.le_add_right _ _
        · have := first_any (HRr.out.kept hV) W1 K1 T1 k' HKL hK6 y hy
          rw [hfy, show ((k' : Nat) : Int) = (k : Int) - 1 from by omega] at this
          exact this
      have HFST : Hid (∀ h0 : 0 < rl, ∃ a : Nat, x.row.getD 0 0 = (a : Int) ∧ S ≤ a) := Lib.hid fun h0 => by
        have hjl : 0 < x.row.length := by rw [hrl]; exact h0
        have hmem : x.row.getD 0 0 ∈ stayR (Mk.bit ws) W1 k (adr 0 obs) := by
          rw [← hrow, List.getD_eq_getElem?_getD, List.getElem?_eq_getElem hjl]
          exact List.getElem_mem hjl
        obtain ⟨a, ea, -, -⟩ := stay_at hmem
        refine ⟨a, ea, ?_⟩
        rw [ea] at hmem
        rw [← hS]; exact first_le_stay hmem
      have HRL := Lib.hid hrl
      clear hx hrow hlive hfst hS HKL LA LC BB hrl
      go_wp2_with fail
      refine HSS.out.mono ?_
      rintro e w8 ⟨B2, cap2, rfl, RV, hb8⟩
      have HRV := Lib.hid RV
      have HB8 := Lib.hid hb8
      have LA := HLr.out.kept hb8
      have t0 : w8.cell? ⟨pa, 0, none⟩ = some (.int .i64 (W1 : Int)) := LA.cell 0
      have t1 : w8.cell? ⟨pa, 1, none⟩ = some (.slice (some ⟨q1, 0, none⟩) K1 K1) := LA.cell 1
      have t2 : w8.cell? ⟨pa, 2, none⟩ = some (.int .i64 (T1 : Nat)) := LA.cell 2
      have HFS8 := Lib.hid (show ∀ V, Below w8.heap.size w8 V → Calls Try.prog 16 #[.agg #[.int .i64 (W1 : Int), .slice (some ⟨q1, 0, none⟩) K1 K1, .int .i64 (T1 : Nat)], .int .i64 (k : Nat)] V fun e w' => e = .returned (.int .i64 (S : Nat)) ∧ Below V.heap.size V w' from fun V hV => HFS.out V (on HB8.out HB8.out.size hV))
      have HLr8 := Lib.hid LA
      clear RV hb8 LA HSS
      go_upto_region 9 with fail
      go_cut [81] from 56 to 80 (fun v wx => v = .bool false ∧ Below w8.heap.size w8 wx)
      case first =>
        have hmx : Try.prog.follows .mixedOrders = true := by kernel_rfl
        have hb0 : Below w8.heap.size w8 w8.drew := (Below.refl _ w8).drew
        rcases Nat.eq_zero_or_pos rl with h0 | h0
        · have e0 : decide ((0 : Int) < (rl : Int)) = false := by simp; omega
          have f0 : decide (0 < rl) = false := by simp; omega
          rcases Nat.eq_zero_or_pos k with hk0 | hk0
          · have e1 : decide ((0 : Int) < (k : Int)) = false := by simp; omega
            have f1 : decide (0 < k) = false := by simp; omega
            clear h0 hk0 HFP HFST
            have cF : ∀ d os, Hid (Calls Try.prog 16 #[.agg #[.int .i64 (W1 : Int), .slice (some ⟨q1, 0, none⟩) K1 K1, .int .i64 (T1 : Nat)], .int .i64 (k : Nat)] (grow (redrawn w8 d) os) fun e w' => e = .returned (.int .i64 (S : Nat)) ∧ Below (grow (redrawn w8 d) os).heap.size (grow (redrawn w8 d) os) w') := fun d os => Lib.hid (HFS8.out _ (below_regrown w8 d os))
            have y0 : ∀ d os, (grow (redrawn w8 d) os).cell? ⟨pa, 0, none⟩ = some (.int .i64 (W1 : Int)) := fun d os => cell_regrown t0 d os
            have y1 : ∀ d os, (grow (redrawn w8 d) os).cell? ⟨pa, 1, none⟩ = some (.slice (some ⟨q1, 0, none⟩) K1 K1) := fun d os => cell_regrown t1 d os
            have y2 : ∀ d os, (grow (redrawn w8 d) os).cell? ⟨pa, 2, none⟩ = some (.int .i64 (T1 : Nat)) := fun d os => cell_regrown t2 d os
            clear t0 t1 t2 hb0
            refine wp_region_quiet_below hmx (by kernel_rfl) ?_
            repeat (with_reducible refine wpQuiet_step ?_; intro K hK; go_simp; first | (with_reducible refine hK _ ?_; clear hK K) | (with_reducible apply Exists.intro; with_reducible refine ⟨fun _ => ?_, hK _ ?_⟩; (first | (with_reducible exact Calls.regrown_of (cF _ _).out)); clear hK K))
            with_reducible refine wpQuiet_nil ?_
            rintro wq ⟨p, rfl⟩
            have hq := below_regrown w8 p.d p.os
            generalize grow (redrawn w8 p.d) p.os = wq at *
            go_wp2_with fail
            go_meet
            exact ⟨by first | rfl | simp [*], hq⟩
          · have e1 : decide ((0 : Int) < (k : Int)) = true := by simp; omega
            have f1 : decide (0 < k) = true := by simp; omega
            obtain ⟨S', hS', HF'⟩ := HFP.out (k - 1) (by omega)
            have e2 : decide ((S : Int) < (S' : Int)) = false := by simp; omega
            have f2 : decide (S < S') = false := by simp; omega
            have wk : IntKind.i64.wrap ((k : Int) - 1) = (k : Int) - 1 := IntWalk.i64_in _ (by omega)
            have HFP8 := Lib.hid (show ∀ V, Below w8.heap.size w8 V → Calls Try.prog 16 #[.agg #[.int .i64 (W1 : Int), .slice (some ⟨q1, 0, none⟩) K1 K1, .int .i64 (T1 : Nat)], .int .i64 ((k : Int) - 1)] V fun e w' => e = .returned (.int .i64 (S' : Nat)) ∧ Below V.heap.size V w' from fun V hV => HF' V (on HB8.out HB8.out.size hV))
            clear h0 hk0 HFP HFST HF' hS'
            have cF : ∀ d os, Hid (Calls Try.prog 16 #[.agg #[.int .i64 (W1 : Int), .slice (some ⟨q1, 0, none⟩) K1 K1, .int .i64 (T1 : Nat)], .int .i64 (k : Nat)] (grow (redrawn w8 d) os) fun e w' => e = .returned (.int .i64 (S : Nat)) ∧ Below (grow (redrawn w8 d) os).heap.size (grow (redrawn w8 d) os) w') := fun d os => Lib.hid (HFS8.out _ (below_regrown w8 d os))
            have cP : ∀ d os, Hid (Calls Try.prog 16 #[.agg #[.int .i64 (W1 : Int), .slice (some ⟨q1, 0, none⟩) K1 K1, .int .i64 (T1 : Nat)], .int .i64 ((k : Int) - 1)] (grow (redrawn w8 d) os) fun e w' => e = .returned (.int .i64 (S' : Nat)) ∧ Below (grow (redrawn w8 d) os).heap.size (grow (redrawn w8 d) os) w') := fun d os => Lib.hid (HFP8.out _ (below_regrown w8 d os))
            have y0 : ∀ d os, (grow (redrawn w8 d) os).cell? ⟨pa, 0, none⟩ = some (.int .i64 (W1 : Int)) := fun d os => cell_regrown t0 d os
            have y1 : ∀ d os, (grow (redrawn w8 d) os).cell? ⟨pa, 1, none⟩ = some (.slice (some ⟨q1, 0, none⟩) K1 K1) := fun d os => cell_regrown t1 d os
            have y2 : ∀ d os, (grow (redrawn w8 d) os).cell? ⟨pa, 2, none⟩ = some (.int .i64 (T1 : Nat)) := fun d os => cell_regrown t2 d os
            clear t0 t1 t2 hb0
            refine wp_region_quiet_below hmx (by kernel_rfl) ?_
            repeat (with_reducible refine wpQuiet_step ?_; intro K hK; go_simp; first | (with_reducible refine hK _ ?_; clear hK K) | (with_reducible apply Exists.intro; with_reducible refine ⟨fun _ => ?_, hK _ ?_⟩; (first | (with_reducible exact Calls.regrown_of (cF _ _).out) | (with_reducible exact Calls.regrown_of (cP _ _).out)); clear hK K))
            with_reducible refine wpQuiet_nil ?_
            rintro wq ⟨p, rfl⟩
            have hq := below_regrown w8 p.d p.os
            generalize grow (redrawn w8 p.d) p.os = wq at *
            go_wp2_with fail
            go_meet
            exact ⟨by first | rfl | simp [*], hq⟩
        · have e0 : decide ((0 : Int) < (rl : Int)) = true := by simp; omega
          have f0 : decide (0 < rl) = true := by simp; omega
          obtain ⟨a, ea, hSa⟩ := HFST.out h0
          have r0 : (0 : Int) < (rl : Int) := by omega
          obtain ⟨ad, qr, rfl, rfl, cr, -⟩ := HRV.out.at_ (show 0 < x.row.length by rw [HRL.out]; exact h0)
          rw [ea, add_at] at cr
          have cr0 : w8.cell? ⟨qr, 0, none⟩ = some (.int .i64 (a : Int)) := cr
          have e3 : decide ((a : Int) < (S : Int)) = false := by simp; omega
          have f3 : decide (a < S) = false := by simp; omega
          rcases Nat.eq_zero_or_pos k with hk0 | hk0
          · have e1 : decide ((0 : Int) < (k : Int)) = false := by simp; omega
            have f1 : decide (0 < k) = false := by simp; omega
            clear hk0 HFP HFST ea hSa cr
            have cF : ∀ d os, Hid (Calls Try.prog 16 #[.agg #[.int .i64 (W1 : Int), .slice (some ⟨q1, 0, none⟩) K1 K1, .int .i64 (T1 : Nat)], .int .i64 (k : Nat)] (grow (redrawn w8 d) os) fun e w' => e = .returned (.int .i64 (S : Nat)) ∧ Below (grow (redrawn w8 d) os).heap.size (grow (redrawn w8 d) os) w') := fun d os => Lib.hid (HFS8.out _ (below_regrown w8 d os))
            have y0 : ∀ d os, (grow (redrawn w8 d) os).cell? ⟨pa, 0, none⟩ = some (.int .i64 (W1 : Int)) := fun d os => cell_regrown t0 d os
            have y1 : ∀ d os, (grow (redrawn w8 d) os).cell? ⟨pa, 1, none⟩ = some (.slice (some ⟨q1, 0, none⟩) K1 K1) := fun d os => cell_regrown t1 d os
            have y2 : ∀ d os, (grow (redrawn w8 d) os).cell? ⟨pa, 2, none⟩ = some (.int .i64 (T1 : Nat)) := fun d os => cell_regrown t2 d os
            have y3 : ∀ d os, (grow (redrawn w8 d) os).cell? ⟨qr, 0, none⟩ = some (.int .i64 (a : Int)) := fun d os => cell_regrown cr0 d os
            clear t0 t1 t2 hb0 cr0
            refine wp_region_quiet_below hmx (by kernel_rfl) ?_
            repeat (with_reducible refine wpQuiet_step ?_; intro K hK; go_simp; first | (with_reducible refine hK _ ?_; clear hK K) | (with_reducible apply Exists.intro; with_reducible refine ⟨fun _ => ?_, hK _ ?_⟩; (first | (with_reducible exact Calls.regrown_of (cF _ _).out)); clear hK K))
            with_reducible refine wpQuiet_nil ?_
            rintro wq ⟨p, rfl⟩
            have hq := below_regrown w8 p.d p.os
            generalize grow (redrawn w8 p.d) p.os = wq at *
            go_wp2_with fail
            go_meet
            exact ⟨by first | rfl | simp [*], hq⟩
          · have e1 : decide ((0 : Int) < (k : Int)) = true := by simp; omega
            have f1 : decide (0 < k) = true := by simp; omega
            obtain ⟨S', hS', HF'⟩ := HFP.out (k - 1) (by omega)
            have e2 : decide ((S : Int) < (S' : Int)) = false := by simp; omega
            have f2 : decide (S < S') = false := by simp; omega
            have wk : IntKind.i64.wrap ((k : Int) - 1) = (k : Int) - 1 := IntWalk.i64_in _ (by omega)
            have HFP8 := Lib.hid (show ∀ V, Below w8.heap.size w8 V → Calls Try.prog 16 #[.agg #[.int .i64 (W1 : Int), .slice (some ⟨q1, 0, none⟩) K1 K1, .int .i64 (T1 : Nat)], .int .i64 ((k : Int) - 1)] V fun e w' => e = .returned (.int .i64 (S' : Nat)) ∧ Below V.heap.size V w' from fun V hV => HF' V (on HB8.out HB8.out.size hV))
            clear hk0 HFP HFST HF' hS' ea hSa cr
            have cF : ∀ d os, Hid (Calls Try.prog 16 #[.agg #[.int .i64 (W1 : Int), .slice (some ⟨q1, 0, none⟩) K1 K1, .int .i64 (T1 : Nat)], .int .i64 (k : Nat)] (grow (redrawn w8 d) os) fun e w' => e = .returned (.int .i64 (S : Nat)) ∧ Below (grow (redrawn w8 d) os).heap.size (grow (redrawn w8 d) os) w') := fun d os => Lib.hid (HFS8.out _ (below_regrown w8 d os))
            have cP : ∀ d os, Hid (Calls Try.prog 16 #[.agg #[.int .i64 (W1 : Int), .slice (some ⟨q1, 0, none⟩) K1 K1, .int .i64 (T1 : Nat)], .int .i64 ((k : Int) - 1)] (grow (redrawn w8 d) os) fun e w' => e = .returned (.int .i64 (S' : Nat)) ∧ Below (grow (redrawn w8 d) os).heap.size (grow (redrawn w8 d) os) w') := fun d os => Lib.hid (HFP8.out _ (below_regrown w8 d os))
            have y0 : ∀ d os, (grow (redrawn w8 d) os).cell? ⟨pa, 0, none⟩ = some (.int .i64 (W1 : Int)) := fun d os => cell_regrown t0 d os
            have y1 : ∀ d os, (grow (redrawn w8 d) os).cell? ⟨pa, 1, none⟩ = some (.slice (some ⟨q1, 0, none⟩) K1 K1) := fun d os => cell_regrown t1 d os
            have y2 : ∀ d os, (grow (redrawn w8 d) os).cell? ⟨pa, 2, none⟩ = some (.int .i64 (T1 : Nat)) := fun d os => cell_regrown t2 d os
            have y3 : ∀ d os, (grow (redrawn w8 d) os).cell? ⟨qr, 0, none⟩ = some (.int .i64 (a : Int)) := fun d os => cell_regrown cr0 d os
            clear t0 t1 t2 hb0 cr0
            refine wp_region_quiet_below hmx (by kernel_rfl) ?_
            repeat (with_reducible refine wpQuiet_step ?_; intro K hK; go_simp; first | (with_reducible refine hK _ ?_; clear hK K) | (with_reducible apply Exists.intro; with_reducible refine ⟨fun _ => ?_, hK _ ?_⟩; (first | (with_reducible exact Calls.regrown_of (cF _ _).out) | (with_reducible exact Calls.regrown_of (cP _ _).out)); clear hK K))
            with_reducible refine wpQuiet_nil ?_
            rintro wq ⟨p, rfl⟩
            have hq := below_regrown w8 p.d p.os
            generalize grow (redrawn w8 p.d) p.os = wq at *
            go_wp2_with fail
            go_meet
            exact ⟨by first | rfl | simp [*], hq⟩
      case rest =>
      obtain ⟨rfl, hc⟩ := hcut
      have HC := Lib.hid (on HBB.out HBB.out.size (on HB8.out HB8.out.size hc))
      clear hc t0 t1 t2 HFS HFP HFST HFS8
      go_wp2
      exact ⟨⟨k + 1, by omega, by go_num, HC.out⟩, by simp [intOf]; omega⟩
    · obtain rfl : k = K1 := by omega
      have t3 : wo.cell? ⟨pb, 0, none⟩ = some (.int .i64 (W2 : Int)) := LC.cell 0
      have t4 : wo.cell? ⟨pb, 1, none⟩ = some (.slice (some ⟨q2, 0, none⟩) K2 K2) := LC.cell 1
      have t5 : wo.cell? ⟨pb, 2, none⟩ = some (.int .i64 (T1 : Nat)) := LC.cell 2
      have e4 : ((T1 : Int) == (T1 : Int)) = true := by simp
      clear LA LC BB
      have hb0 : Below wo.heap.size wo wo.drew := (Below.refl _ wo).drew
      have I0 := Lib.hid (show Below wo.heap.size wo wo.drew ∧ wo.drew.cell? ⟨pa, 0, none⟩ = some (.int .i64 (W1 : Int)) ∧ wo.drew.cell? ⟨pa, 1, none⟩ = some (.slice (some ⟨q1, 0, none⟩) k k) ∧ wo.drew.cell? ⟨pa, 2, none⟩ = some (.int .i64 (T1 : Nat)) ∧ wo.drew.cell? ⟨pb, 0, none⟩ = some (.int .i64 (W2 : Int)) ∧ wo.drew.cell? ⟨pb, 1, none⟩ = some (.slice (some ⟨q2, 0, none⟩) K2 K2) ∧ wo.drew.cell? ⟨pb, 2, none⟩ = some (.int .i64 (T1 : Nat)) from ⟨hb0, t0, t1, t2, t3, t4, t5⟩)
      go_upto_region 12 with fail
      go_region_held3 (fun W => Below wo.heap.size wo W ∧ W.cell? ⟨pa, 0, none⟩ = some (.int .i64 (W1 : Int)) ∧ W.cell? ⟨pa, 1, none⟩ = some (.slice (some ⟨q1, 0, none⟩) k k) ∧ W.cell? ⟨pa, 2, none⟩ = some (.int .i64 (T1 : Nat)) ∧ W.cell? ⟨pb, 0, none⟩ = some (.int .i64 (W2 : Int)) ∧ W.cell? ⟨pb, 1, none⟩ = some (.slice (some ⟨q2, 0, none⟩) K2 K2) ∧ W.cell? ⟨pb, 2, none⟩ = some (.int .i64 (T1 : Nat)))
        (repeat (first | exact I0.out | refine hold6 (by assumption) ?_))
        ((first
        | (go_at_call 18; refine (total_any _ W1 q1 k T1).mono ?_; rintro e W3 ⟨rfl, hk⟩)
        | (go_at_call 18; refine (total_any _ W2 q2 K2 T1).mono ?_; rintro e W3 ⟨rfl, hk⟩)))
      all_goals (rename_i hh; have HH := Lib.hid hh.1; clear hh; go_wp2; go_ret; exact ⟨rfl, on HBr.out HBr.out.size HH.out⟩)

end Go.Proofs.Ythjbechbioeglaa
