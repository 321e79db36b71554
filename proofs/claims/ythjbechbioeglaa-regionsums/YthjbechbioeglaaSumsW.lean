/- RegionSums: where it plays, and where not. -/
import Derived.Test.YthjbechbioeglaaRowsZ
import Derived.Deep.CutRange
import Derived.Deep.CutBlock
import Derived.BigQuiet
namespace Go.Proofs.Ythjbechbioeglaa
open Go.RowKit
set_option linter.unusedVariables false
set_option linter.unusedSimpArgs false

set_option maxRecDepth 100000 in
set_option maxHeartbeats 1000000 in
theorem sums_far (A0 B0 C0 : Option Addr) (n cN m cR q cZ : Nat) (wd : Int) (ds : List Nd) (w : World) (hd : CameN w A0 n ds) (hm : m ≤ maxLen) (hq : q ≤ maxLen) (h : fewB ds m = false ∨ 40 < q) :
    Calls Try.prog 3 #[.agg #[.slice A0 n cN, .slice B0 m cR], .slice C0 q cZ, .int .i64 wd] w fun e w' => e = .returned (.bool true) ∧ Below w.heap.size w w' := by
  have HD := Lib.hid hd
  have bX := below_one w (.cells #[.slice A0 n cN, .slice B0 m cR] 25)
  have LX : Lies (w.alloc (.cells #[.slice A0 n cN, .slice B0 m cR] 25)) w.heap.size 25 [.slice A0 n cN, .slice B0 m cR] := Lies.new w 25 [_, _]
  have HBX := Lib.hid bX
  have HLX := Lib.hid LX
  unfold maxLen at hm hq
  clear hd bX LX
  go_enter Try.func3, Try.ntmps3
  go_wp2_with fail
  refine (awake_any _).mono ?_
  rintro e w1 ⟨rfl, hb1⟩
  have L1 := HLX.out.kept hb1
  have x0 : w1.cell? ⟨w.heap.size, 0, none⟩ = some (.slice A0 n cN) := L1.cell 0
  have x1 : w1.cell? ⟨w.heap.size, 1, none⟩ = some (.slice B0 m cR) := L1.cell 1
  have HB1 := Lib.hid (on HBX.out HBX.out.size hb1)
  clear hb1 L1
  go_wp2_with fail
  refine (few_any A0 B0 n cN m cR ds ⟨HD.out.1, HD.out.2.1.kept HB1.out, HD.out.2.2⟩ (by unfold maxLen; exact hm)).mono ?_
  rintro e w2 ⟨rfl, hb2⟩
  have HB2 := Lib.hid (on HB1.out HB1.out.size hb2)
  clear hb2 x0 x1
  cases hf : fewB ds m with
  | false =>
    clear hf h
    go_wp2_with fail
    refine (awake_any _).mono ?_
    rintro e w3 ⟨rfl, hb3⟩
    have HB3 := Lib.hid (on HB2.out HB2.out.size hb3)
    clear hb3
    go_wp2
    go_ret
    exact ⟨rfl, HB3.out⟩
  | true =>
    have hq40 : 40 < q := by rcases h with h | h; · rw [hf] at h; cases h
                             · exact h
    have d1 : decide ((40 : Int) < (q : Int)) = true := by simp; omega
    clear hf h
    go_wp2_with fail
    refine (awake_any _).mono ?_
    rintro e w3 ⟨rfl, hb3⟩
    have HB3 := Lib.hid (on HB2.out HB2.out.size hb3)
    clear hb3
    go_wp2
    go_ret
    exact ⟨rfl, HB3.out⟩

set_option maxRecDepth 100000 in
set_option maxHeartbeats 1000000 in
theorem lstays_any {w : World} {mg mw N : Nat} {ws : List Nat} (M : Mk.At w mg mw N ws) (a : Nat) (o : Ob) (B : Option Addr) (c nl : Nat) (hk : 0 ≤ o.1 % 16) :
    Calls Try.prog 13 #[.pointer (some ⟨mg, 0, none⟩), .agg #[.int .i64 (a : Nat), .int .i64 (o.1 % 16), .int .i64 (o.1 / 65536), .int .i64 (o.1 % 65536 / 16), .slice B nl c]] w fun e w' => e = .returned (.bool (keepB (Mk.bit ws) (a, o))) ∧ Below w.heap.size w w' := by
  unfold keepB
  simp only
  generalize o.1 / 65536 = q at *
  generalize o.1 % 65536 / 16 = r at *
  generalize o.1 % 16 = s at *
  have bX := below_one w (.cells #[.int .i64 (a : Nat), .int .i64 s, .int .i64 q, .int .i64 r, .slice B nl c] 44)
  have HM := Lib.hid (M.kept bX)
  have HB := Lib.hid bX
  clear M bX
  by_cases h : s = 15
  · subst h
    go_enter Try.func13, Try.ntmps13
    go_wp2
    go_ret
    exact ⟨rfl, HB.out⟩
  · have d0 : (s != 15) = true := by simp [h]
    have d1 : (s == 15) = false := by simp [h]
    have d2 : decide (s ≠ 15) = true := by simp [h]
    rw [d2, Bool.true_and]
    clear h d2
    go_enter Try.func13, Try.ntmps13
    go_wp2_with fail
    refine (has_any HM.out a).mono ?_
    rintro e w2 ⟨rfl, kd, rfl⟩
    have HB2 := Lib.hid (on HB.out HB.out.size (Mk.below_drewN _ kd))
    go_wp2
    go_ret
    exact ⟨rfl, HB2.out⟩

theorem adr_at : ∀ {a : Nat} {obs : List Ob} {i : Nat} {o : Ob}, obs[i]? = some o → (adr a obs)[i]? = some (a + atI obs i, o)
  | _, [], i, o, h => by simp at h
  | a, x :: l, 0, o, h => by simp at h; subst h; simp [adr, atI_zero]
  | a, x :: l, i + 1, o, h => by
    simp at h
    rw [adr, List.getElem?_cons_succ, adr_at h]
    have e : atI (x :: l) (i + 1) = 1 + x.2.length + atI l i := by
      unfold atI; rw [List.take_succ_cons, flat_cons]; simp; omega
    rw [e]; congr 2; omega
theorem adr_len : ∀ (a : Nat) (obs : List Ob), (adr a obs).length = obs.length
  | _, [] => rfl
  | a, o :: l => by rw [adr, List.length_cons, adr_len, List.length_cons]
theorem take_more {L : List (Nat × Ob)} {i : Nat} {x : Nat × Ob} (h : L[i]? = some x) : L.take (i + 1) = L.take i ++ [x] := by
  obtain ⟨hi, e⟩ := List.getElem?_eq_some_iff.1 h
  rw [← List.take_append_getElem hi, e]
theorem stay_more (f : Nat → Bool) (n k : Nat) (L : List (Nat × Ob)) (x : Nat × Ob) : stayR f n k (L ++ [x]) = stayR f n k L ++ (if keepB f x && decide (x.1 / n = k) then [(x.1 : Int)] else []) := by
  unfold stayR
  rw [inR_more, List.map_append]
  split <;> rfl
theorem live_more2 (f : Nat → Bool) (n k : Nat) (L : List (Nat × Ob)) (x : Nat × Ob) : liveR f n k (L ++ [x]) = liveR f n k L + (if keepB f x && decide (x.1 / n = k) then 1 + x.2.2.length else 0) := by
  unfold liveR
  rw [inR_more, sumL_append]
  split
  · rw [sumL_one]
  · rfl
theorem live_le (f : Nat → Bool) (n k : Nat) (obs : List Ob) (i : Nat) : liveR f n k ((adr 0 obs).take i) ≤ (flat obs).length := by
  unfold liveR inR
  have h1 := sumL_filter (fun x => keepB f x && decide (x.1 / n = k)) ((adr 0 obs).take i)
  have h2 := sumL_append ((adr 0 obs).take i) ((adr 0 obs).drop i)
  rw [List.take_append_drop, sumL_adr] at h2
  omega
theorem minus_row (row : List Int) (i : Nat) (hi : i < row.length) : (List.replicate i (-1 : Int) ++ row.drop i).set i (-1) = List.replicate (i + 1) (-1 : Int) ++ row.drop (i + 1) := by
  rw [List.set_append_right _ _ (by simp)]
  simp only [List.length_replicate, Nat.sub_self]
  rw [List.drop_eq_getElem_cons hi, List.set_cons_zero, List.replicate_succ' (n := i), List.append_assoc]
  rfl
theorem minus_get (row : List Int) (i : Nat) (hi : i < row.length) : (List.replicate i (-1 : Int) ++ row.drop i).getD i 0 = row.getD i 0 := by
  rw [List.getD_eq_getElem?_getD, List.getD_eq_getElem?_getD, List.getElem?_append_right (by simp)]
  simp
theorem minus_len (row : List Int) (i : Nat) (hi : i ≤ row.length) : (List.replicate i (-1 : Int) ++ row.drop i).length = row.length := by simp; omega

set_option maxRecDepth 1000000 in
set_option maxHeartbeats 40000000 in
theorem sums_near (A0 B0 C0 : Option Addr) (n cN m cR q cZ : Nat) (wd : Int) (W : Nat) (ds : List Nd) (rs zs : List Int) (w : World) (hd : CameN w A0 n ds) (hr : Mk.Came .u8 w B0 m rs) (hz : Mk.Came .u8 w C0 q zs) (hf : fewB ds m = true) (hq : q ≤ 40) (hwd : InR wd) (hWn : (W : Int) = if wd < 1 then 1 else if 65536 < wd then 65536 else wd) (hW1 : 1 ≤ W) (hW2 : W ≤ 65536) :
    Calls Try.prog 3 #[.agg #[.slice A0 n cN, .slice B0 m cR], .slice C0 q cZ, .int .i64 wd] w fun e w' => e = .returned (.bool true) ∧ Below w.heap.size w w' := by
  have HD := Lib.hid hd
  have HR := Lib.hid hr
  have HZ := Lib.hid hz
  have HF := Lib.hid hf
  have hfew := hf
  unfold fewB at hfew
  simp only [Bool.and_eq_true, List.all_eq_true, decide_eq_true_eq] at hfew
  obtain ⟨he, hn14, hm14⟩ := hfew
  rw [hd.1] at hn14
  have HE := Lib.hid he
  have bX := below_one w (.cells #[.slice A0 n cN, .slice B0 m cR] 25)
  have LX : Lies (w.alloc (.cells #[.slice A0 n cN, .slice B0 m cR] 25)) w.heap.size 25 [.slice A0 n cN, .slice B0 m cR] := Lies.new w 25 [_, _]
  have HBX := Lib.hid bX
  have HLX := Lib.hid LX
  have d1 : decide ((40 : Int) < (q : Int)) = false := by simp; omega
  have HWN := Lib.hid hWn
  clear hWn
  clear hd hr hz hf he bX LX
  go_enter Try.func3, Try.ntmps3
  go_wp2_with fail
  refine (awake_any _).mono ?_
  rintro e w1 ⟨rfl, hb1⟩
  have L1 := HLX.out.kept hb1
  have x0 : w1.cell? ⟨w.heap.size, 0, none⟩ = some (.slice A0 n cN) := L1.cell 0
  have x1 : w1.cell? ⟨w.heap.size, 1, none⟩ = some (.slice B0 m cR) := L1.cell 1
  have HL1 := Lib.hid L1
  have HB1 := Lib.hid (on HBX.out HBX.out.size hb1)
  clear hb1 L1
  go_wp2_with fail
  refine (few_any A0 B0 n cN m cR ds ⟨HD.out.1, HD.out.2.1.kept HB1.out, HD.out.2.2⟩ (by unfold maxLen; omega)).mono ?_
  rintro e w2 ⟨rfl, hb2⟩
  rw [HF.out]
  have L2 := HL1.out.kept hb2
  have x2 : w2.cell? ⟨w.heap.size, 0, none⟩ = some (.slice A0 n cN) := L2.cell 0
  have x3 : w2.cell? ⟨w.heap.size, 1, none⟩ = some (.slice B0 m cR) := L2.cell 1
  have HB2 := Lib.hid (on HB1.out HB1.out.size hb2)
  clear hb2 L2 x0 x1 HL1
  go_wp2_with fail
  refine (marked_any A0 B0 C0 n cN m cR q cZ ds rs zs ⟨HD.out.1, HD.out.2.1.kept HB2.out, HD.out.2.2⟩ ⟨HR.out.1, HR.out.2.1.kept HB2.out, HR.out.2.2⟩ ⟨HZ.out.1, HZ.out.2.1.kept HB2.out, HZ.out.2.2⟩ hn14 hm14 hq HE.out).mono ?_
  rintro e w3 ⟨g, gw, gb, base, obs, tail, A, n', c, xs, mg, mw, ws, rfl, MK⟩
  obtain ⟨Z, hZ⟩ : ∃ Z, sizeG ds 2 n = Z := ⟨_, rfl⟩
  rw [hZ] at MK ⊢
  have HB3 := Lib.hid (on HB2.out HB2.out.size MK.old)
  have bY := below_one w3 (.cells #[.int .i64 (Z : Int), .slice A n' c] 32)
  have HB4 := Lib.hid (on HB3.out HB3.out.size bY)
  have HMK := Lib.hid (MK.kept bY)
  have HLB := Lib.hid (show Lies (w3.alloc (.cells #[.int .i64 (Z : Int), .slice A n' c] 32)) w3.heap.size 32 [.int .i64 (Z : Int), .slice A n' c] from Lies.new w3 32 [_, _])
  obtain ⟨top, htop⟩ : ∃ top, (flat obs).length = top := ⟨_, rfl⟩
  have HTOP := Lib.hid htop
  have htop6 : top ≤ 65536 := by
    obtain ⟨B, cap, rts, hB⟩ := MK.heap
    have h1 := hB.st.lies.most
    have h2 := hB.st.lies.fits
    omega
  have HST : Hid (St (w3.alloc (.cells #[.int .i64 (Z : Int), .slice A n' c] 32)) g gw gb obs tail) := Lib.hid (by obtain ⟨B, cap, rts, hB⟩ := HMK.out.heap; exact hB.st)
  clear MK bY hZ htop x2 x3 HLX HBX HB1 HB2 HD HR HZ HE HF
  obtain ⟨K, hK⟩ : ∃ K, (top + W - 1) / W = K := ⟨_, rfl⟩
  have HO := Lib.hid (of_any HST.out HMK.out.map wd W K top HWN.out HTOP.out hK.symm hwd)
  have hK6 : K ≤ 65536 := by rw [← hK]; exact kdiv_le (by omega) htop6 (by omega)
  have hdiv : ((top : Int) + (W : Int) - 1) / (W : Int) = (K : Int) := by
    rw [← hK]
    have : (top : Int) + (W : Int) - 1 = ((top + W - 1 : Nat) : Int) := by omega
    rw [this]; norm_cast
  have nz : ¬ (W : Int) = 0 := by omega
  have nz2 : ¬ W = 0 := by omega
  have HKE := Lib.hid hK
  clear hK
  go_wp2_with fail
  refine HO.out.mono ?_
  rintro e w5 ⟨qq, l, b5, T, rfl, R5, G5, hT, hb5, -⟩
  unfold rv
  have HB5 := Lib.hid (on HB4.out HB4.out.size hb5)
  have bZ := below_one w5 (.cells #[.int .i64 (W : Int), .slice (some ⟨qq, 0, none⟩) K K, .int .i64 (T : Nat)] 37)
  have HB6 := Lib.hid (on HB5.out HB5.out.size bZ)
  have HB36 := Lib.hid (on hb5 hb5.size bZ)
  have HR6 := Lib.hid (R5.kept bZ)
  have HL6 := Lib.hid (show Lies (w5.alloc (.cells #[.int .i64 (W : Int), .slice (some ⟨qq, 0, none⟩) K K, .int .i64 (T : Nat)] 37)) w5.heap.size 37 [.int .i64 (W : Int), .slice (some ⟨qq, 0, none⟩) K K, .int .i64 (T : Nat)] from Lies.new w5 37 [_, _, _])
  have HG := Lib.hid G5
  have HT := Lib.hid hT
  have hsum : ∀ j, firstR (Mk.bit ws) W (adr 0 obs) j ≤ top := fun j => by
    have h1 := first_le (Mk.bit ws) W (adr 0 obs) j
    rw [sumL_adr, HTOP.out] at h1; exact h1
  have HSUM := Lib.hid hsum
  clear R5 G5 hT hb5 bZ hsum HO
  obtain ⟨w6, hw6⟩ : ∃ w6, w5.alloc (.cells #[.int .i64 (W : Int), .slice (some ⟨qq, 0, none⟩) K K, .int .i64 (T : Nat)] 37) = w6 := ⟨_, rfl⟩
  go_upto_region 5 with fail
  rw [hw6] at HB6 HB36 HR6 HL6
  clear hw6
  go_cut [11] from 44 to 46 (fun v11 wx => v11 = .int .i64 (W : Int) ∧ wx = w6)
  case first =>
    by_cases z1 : wd < 1
    · go_wp2_with fail
      go_meet
      exact ⟨by have hWn := HWN.out; rw [if_pos (by omega)] at hWn; rw [hWn], rfl⟩
    · by_cases z2 : 65536 < wd
      · go_wp2_with fail
        go_meet
        exact ⟨by have hWn := HWN.out; rw [if_neg (by omega), if_pos (by omega)] at hWn; rw [hWn], rfl⟩
      · go_wp2_with fail
        go_meet
        exact ⟨by have hWn := HWN.out; rw [if_neg (by omega), if_neg (by omega)] at hWn; rw [hWn], rfl⟩
  case rest =>
  obtain ⟨rfl, rfl⟩ := hcut
  have LL := HL6.out
  have t0 := LL.cell 0
  have t1 := LL.cell 1
  have t2 := LL.cell 2
  simp only [List.getElem?_cons_zero, List.getElem?_cons_succ] at t0 t1 t2
  clear LL
  go_wp2_with fail
  refine (len_any _ W qq K T).mono ?_
  rintro e w7 ⟨rfl, hb7⟩
  have HB37 := Lib.hid (on HB36.out HB36.out.size hb7)
  have HR7 := Lib.hid (HR6.out.kept hb7)
  have HL7 := Lib.hid (HL6.out.kept hb7)
  have HB7 := Lib.hid (on HB6.out HB6.out.size hb7)
  have LL := HL7.out
  have t0 : w7.cell? ⟨w5.heap.size, 0, none⟩ = some (.int .i64 (W : Int)) := LL.cell 0
  have t1 : w7.cell? ⟨w5.heap.size, 1, none⟩ = some (.slice (some ⟨qq, 0, none⟩) K K) := LL.cell 1
  have t2 : w7.cell? ⟨w5.heap.size, 2, none⟩ = some (.int .i64 (T : Nat)) := LL.cell 2
  clear hb7 LL
  go_wp2_with fail
  refine (top_n (HST.out.kept HB37.out) top HTOP.out).mono ?_
  rintro e w8 ⟨rfl, rfl⟩
  have hKK : ((K : Int) != (K : Int)) = false := by simp
  go_wp2_with fail
  refine (len_any _ W qq K T).mono ?_
  rintro e w9 ⟨rfl, hb9⟩
  have HB39 := Lib.hid (on HB37.out HB37.out.size hb9)
  have HR9 := Lib.hid (HR7.out.kept hb9)
  have HL9 := Lib.hid (HL7.out.kept hb9)
  have HB9 := Lib.hid (on HB7.out HB7.out.size hb9)
  have HST9 := Lib.hid (HST.out.kept HB39.out)
  have HMK9 := Lib.hid (HMK.out.kept HB39.out)
  have HLB9 := Lib.hid (HLB.out.kept HB39.out)
  have HTH9 : Hid (Things w9 A obs) := Lib.hid (by obtain ⟨B, cap, rts, hB⟩ := HMK9.out.heap; exact hB.own.things)
  have HCNT : Hid (obs.length = n') := Lib.hid (by obtain ⟨B, cap, rts, hB⟩ := HMK9.out.heap; exact hB.count)
  have HFINE := Lib.hid HST9.out.fine
  have hn6 : n' ≤ 65536 := by
    have h1 := len_sum (adr 0 obs)
    rw [adr_len, sumL_adr, HTOP.out, HCNT.out] at h1
    omega
  have HLE : ∀ k i, liveR (Mk.bit ws) W k ((adr 0 obs).take i) ≤ top := fun k i => by rw [← HTOP.out]; exact live_le _ _ _ _ _
  have HLE := Lib.hid HLE
  clear hb9 t0 t1 t2 HB3 HB4 HB5 HB6 HB7 HB36 HB37 HR6 HR7 HL6 HL7 HMK HLB HST
  go_wp2
  go_loopw [59, 12] (fun i s wo => ∃ k : Nat, k ≤ K ∧ i = .int .i64 k ∧ s = .int .i64 (firstR (Mk.bit ws) W (adr 0 obs) k : Nat) ∧ Below w9.heap.size w9 wo) (fun i _ _ => K - (intOf i).toNat)
  case atStart => exact ⟨0, Nat.zero_le _, rfl, rfl, Below.refl _ _⟩
  case round =>
    obtain ⟨k, hk, rfl, rfl, BB⟩ := hrel
    obtain ⟨wo, rfl⟩ : ∃ wo, wo = wr := ⟨_, rfl⟩
    have HRr := Lib.hid (HR9.out.kept BB)
    have LB := HL9.out.kept BB
    have HLr := Lib.hid LB
    have HBr := Lib.hid (on HB9.out HB9.out.size BB)
    have HBB := Lib.hid BB
    have HSTr := Lib.hid (HST9.out.kept BB)
    have HMr := Lib.hid (HMK9.out.map.kept BB)
    have HTHr := Lib.hid (HTH9.out.kept BB)
    have LLB := HLB9.out.kept BB
    have y1 : wo.cell? ⟨w3.heap.size, 1, none⟩ = some (.slice A n' c) := LLB.cell 1
    have t0 : wo.cell? ⟨w5.heap.size, 0, none⟩ = some (.int .i64 (W : Int)) := LB.cell 0
    have t1 : wo.cell? ⟨w5.heap.size, 1, none⟩ = some (.slice (some ⟨qq, 0, none⟩) K K) := LB.cell 1
    have t2 : wo.cell? ⟨w5.heap.size, 2, none⟩ = some (.int .i64 (T : Nat)) := LB.cell 2
    by_cases hlt : k < K
    · obtain ⟨x, hx, hrow, hlive, hfst⟩ := HG.out.2 k hlt
      rw [if_pos hlt] at hfst
      have k0 : (0 : Int) ≤ (k : Int) := by omega
      have k1 : (k : Int) < (K : Int) := by omega
      obtain ⟨S, hS⟩ : ∃ S, firstR (Mk.bit ws) W (adr 0 obs) k = S := ⟨_, rfl⟩
      have hS6 : S ≤ 65536 := by have := HSUM.out k; omega
      obtain ⟨lv, hlv⟩ : ∃ lv, x.live = lv := ⟨_, rfl⟩
      have hSn : S + lv = firstR (Mk.bit ws) W (adr 0 obs) (k + 1) := by rw [← hlv, hlive, ← hS]; rfl
      have hlv6 : S + lv ≤ 65536 := by have := HSUM.out (k + 1); omega
      obtain ⟨rl, hrl⟩ : ∃ rl, x.row.length = rl := ⟨_, rfl⟩
      have hrl2 : rl ≤ lv := by rw [← hrl, ← hlv, hrow, hlive]; exact stay_live _ _ _ _
      rw [hS] at hfst ⊢
      have HX := Lib.hid hx
      have HKL := HG.out.1
      have HFS : ∀ V, Below wo.heap.size wo V → Hid (Calls Try.prog 16 #[.agg #[.int .i64 (W : Int), .slice (some ⟨qq, 0, none⟩) K K, .int .i64 (T : Nat)], .int .i64 (k : Nat)] V fun e w' => e = .returned (.int .i64 (S : Nat)) ∧ Below V.heap.size V w') := fun V hV => Lib.hid (by have := first_any (HRr.out.kept hV) W K T k HKL hK6 x hx; rw [hfst] at this; exact this)
      have HLS : ∀ V, Below wo.heap.size wo V → Hid (Calls Try.prog 15 #[.agg #[.int .i64 (W : Int), .slice (some ⟨qq, 0, none⟩) K K, .int .i64 (T : Nat)], .int .i64 (k : Nat)] V fun e w' => e = .returned (.int .i64 (lv : Nat)) ∧ Below V.heap.size V w') := fun V hV => Lib.hid (by have := live_any (HRr.out.kept hV) W K T k HKL hK6 x hx; rw [hlv] at this; exact this)
      have HSS : ∀ V, Below wo.heap.size wo V → Hid (Calls Try.prog 14 #[.agg #[.int .i64 (W : Int), .slice (some ⟨qq, 0, none⟩) K K, .int .i64 (T : Nat)], .int .i64 (k : Nat)] V fun e w' => ∃ B2 cap2, e = .returned (.slice B2 rl cap2) ∧ Rv w' V.heap.size B2 cap2 x.row ∧ Below V.heap.size V w') := fun V hV => Lib.hid (stays_any (HRr.out.kept hV) W K T k HKL hK6 x hx rl hrl (by omega))
      have HSN := Lib.hid hSn
      have HRL := Lib.hid hrl
      have HROW := Lib.hid hrow
      have HLV := Lib.hid (hlv.symm.trans hlive)
      clear hx hrow hlive hfst hlv hSn hS HKL LB BB hrl LLB t0 t1 t2
      go_wp2
      go_loopw [65, 14, 15] (fun i lq sv wq => ∃ (j : Nat) (B2 : Option Addr) (cp rn : Nat), j ≤ n' ∧ i = .int .i64 j ∧ lq = .slice B2 rn cp ∧ sv = .int .i64 (liveR (Mk.bit ws) W k ((adr 0 obs).take j) : Nat) ∧ (stayR (Mk.bit ws) W k ((adr 0 obs).take j)).length = rn ∧ Rv wq wo.heap.size B2 cp (stayR (Mk.bit ws) W k ((adr 0 obs).take j)) ∧ Below wo.heap.size wo wq) (fun i _ _ _ => n' - (intOf i).toNat)
      case atStart => exact ⟨0, none, 0, 0, Nat.zero_le _, rfl, rfl, rfl, rfl, Rv.nil _ _, Below.refl _ _⟩
      case round =>
        obtain ⟨j, B2, cp, rn, hj, rfl, rfl, rfl, hrn, RV, B11⟩ := hrel
        obtain ⟨wi, rfl⟩ : ∃ wi, wi = wr := ⟨_, rfl⟩
        have HB11 := Lib.hid B11
        have LB := HLr.out.kept B11
        have t0 : wi.cell? ⟨w5.heap.size, 0, none⟩ = some (.int .i64 (W : Int)) := LB.cell 0
        have t1 : wi.cell? ⟨w5.heap.size, 1, none⟩ = some (.slice (some ⟨qq, 0, none⟩) K K) := LB.cell 1
        have t2 : wi.cell? ⟨w5.heap.size, 2, none⟩ = some (.int .i64 (T : Nat)) := LB.cell 2
        clear LB
        by_cases hlt2 : j < n'
        · obtain ⟨o, ho⟩ : ∃ o, obs[j]? = some o := ⟨_, List.getElem?_eq_getElem (by rw [HCNT.out]; exact hlt2)⟩
          have hat : (adr 0 obs)[j]? = some (atI obs j, o) := by have := adr_at (a := 0) ho; rw [Nat.zero_add] at this; exact this
          obtain ⟨ad, Bx, cx, rfl, c0, c1, c2, c3, c4, -⟩ := (HTHr.out.kept B11).at_ ho
          have hfo := HFINE.out o (List.mem_of_getElem? ho)
          have hlt3 := at_lt ho
          have hb := len_le hfo.1
          have hlen : o.1 / 65536 = (o.2.length : Int) := by
            have h1 := hfo.2
            have h2 := ((good_iff _ _ _).1 (head_good hfo.1)).2.2.1
            unfold lenOf at h1
            omega
          have hl0 := HLE.out k j
          have hl1 := HLE.out k (j + 1)
          have hsl := stay_live (Mk.bit ws) W k ((adr 0 obs).take j)
          have hst := stay_more (Mk.bit ws) W k ((adr 0 obs).take j) (atI obs j, o)
          have hlm := live_more2 (Mk.bit ws) W k ((adr 0 obs).take j) (atI obs j, o)
          rw [← take_more hat] at hst hlm
          obtain ⟨p, hp⟩ : ∃ p, atI obs j = p := ⟨_, rfl⟩
          obtain ⟨nl, hnl⟩ : ∃ nl, o.2.length = nl := ⟨_, rfl⟩
          obtain ⟨s0, hs0⟩ : ∃ s0, o.1 % 16 = s0 := ⟨_, rfl⟩
          obtain ⟨r0, hr0⟩ : ∃ r0, o.1 % 65536 / 16 = r0 := ⟨_, rfl⟩
          obtain ⟨kb, hkb⟩ : ∃ kb, keepB (Mk.bit ws) (p, o) = kb := ⟨_, rfl⟩
          obtain ⟨d, hd⟩ : ∃ d, p / W = d := ⟨_, rfl⟩
          obtain ⟨R, hR⟩ : ∃ R, stayR (Mk.bit ws) W k ((adr 0 obs).take j) = R := ⟨_, rfl⟩
          obtain ⟨v, hv⟩ : ∃ v, liveR (Mk.bit ws) W k ((adr 0 obs).take j) = v := ⟨_, rfl⟩
          have hs1 : 0 ≤ o.1 % 16 := Int.emod_nonneg _ (by omega)
          rw [hnl] at hlen
          rw [hlen] at c2
          rw [hp] at c0 hst hlm hlt3
          rw [hs0] at c1
          rw [hr0] at c3
          rw [hnl] at c4
          simp only [hkb, hd, hnl] at hst hlm
          rw [hR] at hst hrn RV hsl
          rw [hv] at hlm hl0 hsl ⊢
          have hpd : (p : Int) / (W : Int) = (d : Int) := by rw [← hd]; norm_cast
          have hd6 : d ≤ 65536 := by have := Nat.div_le_self p W; rw [HTOP.out] at hlt3; omega
          have hv6 : v ≤ 65536 := by omega
          have hrn6 : rn ≤ 65536 := by omega
          have hls : ∀ V, Mk.At V mg mw Z ws → Calls Try.prog 13 #[.pointer (some ⟨mg, 0, none⟩), .agg #[.int .i64 (p : Nat), .int .i64 s0, .int .i64 (nl : Int), .int .i64 r0, .slice Bx nl cx]] V fun e w' => e = .returned (.bool kb) ∧ Below V.heap.size V w' := fun V M => by
            have := lstays_any M p o Bx cx nl hs1
            rw [hs0, hlen, hr0, hkb] at this
            exact this
          have HLST := Lib.hid hls
          have HST2 := Lib.hid hst
          have HLM2 := Lib.hid hlm
          have HRV := Lib.hid RV
          have HRN := Lib.hid hrn
          have HL1 := Lib.hid hl1
          rw [HTOP.out] at hlt3
          clear hat hfo hb hsl hst hlm hp hnl hs0 hr0 hkb hd hR hv hs1 hlen hls RV hrn hl1 B11
          have j0 : (0 : Int) ≤ (j : Int) := by omega
          have j1 : (j : Int) < (n' : Int) := by omega
          have bY := below_one wi (.cells #[.int .i64 (p : Nat), .int .i64 s0, .int .i64 (nl : Int), .int .i64 r0, .slice Bx nl cx] 44)
          have HBY := Lib.hid bY
          clear bY
          go_wp2_with fail
          refine (HLST.out _ ((HMr.out.kept HB11.out).kept HBY.out)).mono ?_
          rintro e w12 ⟨rfl, hb12⟩
          have LO := (Lies.new wi 44 [.int .i64 (p : Nat), .int .i64 s0, .int .i64 (nl : Int), .int .i64 r0, .slice Bx nl cx]).kept hb12
          have HLO := Lib.hid LO
          have u0 : w12.cell? ⟨wi.heap.size, 0, none⟩ = some (.int .i64 (p : Nat)) := LO.cell 0
          have HW12 := Lib.hid (on HBY.out HBY.out.size hb12)
          have HB12 := Lib.hid (on HB11.out HB11.out.size HW12.out)
          clear LO hb12 t0 t1 t2 c0 c1 c2 c3 c4
          cases kb with
          | false =>
            go_wp2
            refine ⟨⟨j + 1, B2, cp, rn, by omega, by go_num, rfl, ?_, ?_, ?_, HB12.out⟩, by simp [intOf]; omega⟩
            · rw [HLM2.out]; simp
            · rw [HST2.out]; simpa using HRN.out
            · rw [HST2.out]; simpa using HRV.out.below HW12.out
          | true =>
            by_cases hdk : d = k
            · subst hdk
              have e1 : ((d : Int) == (d : Int)) = true := by simp
              have hb7 : v + (1 + nl) ≤ 65536 := by
                have := HL1.out
                rw [HLM2.out, if_pos (by simp)] at this
                omega
              have RV12 := HRV.out.below HW12.out
              have RV6 := Lib.hid (RV12.below (below_one w12 (.cells #[.int .i64 (p : Nat)] 3)))
              have cc : (w12.alloc (.cells #[.int .i64 (p : Nat)] 3)).cell? ⟨w12.heap.size, 0, none⟩ = some (.int .i64 (p : Nat)) := (Lies.new w12 3 [.int .i64 (p : Nat)]).cell 0
              have B6 := Lib.hid (on HB12.out HB12.out.size (below_one w12 (.cells #[.int .i64 (p : Nat)] 3)))
              have LO6 := Lib.hid (HLO.out.kept (below_one w12 (.cells #[.int .i64 (p : Nat)] 3)))
              clear RV12
              go_wp2_with (at_builtin; (have RV7 := RV6.out); refine wpList_append_rv (row := R) rfl (.tmp 80) (.tmp 83) rfl (by rw [HRN.out]; rfl) RV7 B6.out.size (by rw [HRN.out]; omega) ⟨w12.heap.size, 0, none⟩ (p : Nat) rfl cc ?_; intro B7 cap7 w7 R7 G7 M7; have HR7 := Lib.hid R7; have HB7 := Lib.hid (B6.out.grown G7 B6.out.size (fun k e => (RV6.out.blk_lt e).1)); rw [HRN.out]; (have u2 : w7.cell? ⟨wi.heap.size, 2, none⟩ = some (.int .i64 (nl : Int)) := (G7.cell_far ⟨wi.heap.size, 2, none⟩ LO6.out.lt (fun e => absurd (HRV.out.blk_lt e.symm).2 (Nat.lt_irrefl _))).trans (LO6.out.cell 2)); clear R7 G7 M7 RV6 B6 cc RV7)
              refine ⟨⟨j + 1, B7, cap7, rn + 1, by omega, by go_num, rfl, ?_, ?_, ?_, HB7.out⟩, by simp [intOf]; omega⟩
              · rw [HLM2.out, if_pos (by simp)]; go_num
              · rw [HST2.out]; simp [HRN.out]
              · rw [HST2.out]; simpa using HR7.out
            · have e1 : ((d : Int) == (k : Int)) = false := by simp; omega
              have e2 : decide (d = k) = false := decide_eq_false hdk
              have e3 : ¬ (d : Int) = (k : Int) := by omega
              go_wp2
              refine ⟨⟨j + 1, B2, cp, rn, by omega, by go_num, rfl, ?_, ?_, ?_, HB12.out⟩, by simp [intOf]; omega⟩
              · rw [HLM2.out]; simp [hdk]
              · rw [HST2.out]; simpa [hdk] using HRN.out
              · rw [HST2.out]; simpa [hdk] using HRV.out.below HW12.out
        · obtain rfl : j = n' := by omega
          have hall : (adr 0 obs).take j = adr 0 obs := List.take_of_length_le (by rw [adr_len, HCNT.out]; exact Nat.le_refl _)
          rw [hall] at hrn RV ⊢
          rw [← HROW.out] at hrn RV
          rw [← HLV.out]
          obtain rfl : rl = rn := by rw [← hrn]; exact HRL.out.symm
          have HRV := Lib.hid RV
          clear RV hrn hall hlt2 B11 hj HLE HFINE HCNT hn6
          have hlv7 : lv ≤ 65536 := by omega
          have hrl7 : rl ≤ 65536 := by omega
          go_wp2_with fail
          refine (HSS _ HB11.out).out.mono ?_
          rintro e w15 ⟨B3, cap3, rfl, RV3, hb15⟩
          have HB15 := Lib.hid (on HB11.out HB11.out.size hb15)
          have HI15 := Lib.hid hb15
          have HRV3 := Lib.hid RV3
          have LB := HLr.out.kept HB15.out
          have t0 : w15.cell? ⟨w5.heap.size, 0, none⟩ = some (.int .i64 (W : Int)) := LB.cell 0
          have t1 : w15.cell? ⟨w5.heap.size, 1, none⟩ = some (.slice (some ⟨qq, 0, none⟩) K K) := LB.cell 1
          have t2 : w15.cell? ⟨w5.heap.size, 2, none⟩ = some (.int .i64 (T : Nat)) := LB.cell 2
          have d5 : ((rl : Int) != (rl : Int)) = false := by simp
          have d6 : ((lv : Int) != (lv : Int)) = false := by simp
          have d7 : ((S : Int) != (S : Int)) = false := by simp
          clear RV3 hb15 LB
          go_wp2_with fail
          refine (HLS _ HB15.out).out.mono ?_
          rintro e w16 ⟨rfl, hb16⟩
          have HB16 := Lib.hid (on HB15.out HB15.out.size hb16)
          have HI16 := Lib.hid (on HI15.out HI15.out.size hb16)
          have HRV4 := Lib.hid (HRV3.out.below hb16)
          have LB := HLr.out.kept HB16.out
          have t0 : w16.cell? ⟨w5.heap.size, 0, none⟩ = some (.int .i64 (W : Int)) := LB.cell 0
          have t1 : w16.cell? ⟨w5.heap.size, 1, none⟩ = some (.slice (some ⟨qq, 0, none⟩) K K) := LB.cell 1
          have t2 : w16.cell? ⟨w5.heap.size, 2, none⟩ = some (.int .i64 (T : Nat)) := LB.cell 2
          clear hb16 LB HRV3 HI15 HB15
          go_wp2_with fail
          refine (HFS _ HB16.out).out.mono ?_
          rintro e w17 ⟨rfl, hb17⟩
          have HB17 := Lib.hid (on HB16.out HB16.out.size hb17)
          have HI17 := Lib.hid (on HI16.out HI16.out.size hb17)
          have HRV5 := Lib.hid (HRV4.out.below hb17)
          clear hb17 HRV4 HI16 HB16 t0 t1 t2
          go_wp2
          go_loopw [116] (fun i wz => ∃ j : Nat, j ≤ rl ∧ i = .int .i64 j ∧ Rv wz wi.heap.size B3 cap3 (List.replicate j (-1) ++ x.row.drop j) ∧ Below wi.heap.size wi wz) (fun i _ => rl - (intOf i).toNat)
          case atStart => exact ⟨0, Nat.zero_le _, rfl, by simpa using HRV5.out, HI17.out⟩
          case round =>
            obtain ⟨i, hi, rfl, RV6, B12⟩ := hrel
            obtain ⟨wz, rfl⟩ : ∃ wz, wz = wr := ⟨_, rfl⟩
            have HI := Lib.hid B12
            have HB := Lib.hid (on HB11.out HB11.out.size B12)
            have HRV6 := Lib.hid RV6
            have HRL6 := Lib.hid (HRV.out.below B12)
            clear RV6 B12
            by_cases hlt3 : i < rl
            · have i0 : (0 : Int) ≤ (i : Int) := by omega
              have i1 : (i : Int) < (rl : Int) := by omega
              have hil : i < x.row.length := by rw [HRL.out]; exact hlt3
              have hmem : x.row.getD i 0 ∈ stayR (Mk.bit ws) W k (adr 0 obs) := by
                rw [← HROW.out, List.getD_eq_getElem?_getD, List.getElem?_eq_getElem hil]
                exact List.getElem_mem hil
              obtain ⟨a, ea, hak, o, hao⟩ := stay_at hmem
              have ha6 : a ≤ 65536 := by
                have := adr_lt hao
                rw [HTOP.out] at this; simp at this; omega
              have HEA := Lib.hid ea
              have hAT : ∀ V : World, Calls Try.prog 17 #[.agg #[.int .i64 (W : Int), .slice (some ⟨qq, 0, none⟩) K K, .int .i64 (T : Nat)], .int .i64 (a : Nat)] V fun e w' => e = .returned (.int .i64 ((k : Nat) : Int)) ∧ Below V.heap.size V w' := fun V => by have := at_any V W qq K T a hW1 (by omega) ha6; rw [hak] at this; exact this
              have HAT := Lib.hid hAT
              have hml := minus_len x.row i (Nat.le_of_lt hil)
              obtain ⟨ad3, q3, rfl, rfl, cg, fg⟩ := HRV6.out.at_ (show i < (List.replicate i (-1 : Int) ++ x.row.drop i).length by rw [hml]; exact hil)
              obtain ⟨adl, ql, rfl, -, cl, -⟩ := HRL6.out.at_ hil
              rw [add_at] at cg
              rw [minus_get _ _ hil, ea] at cg
              rw [ea] at cl
              have HHIL := Lib.hid hil
              clear hmem ea hak hao hil hml hAT fg
              have LB := HLr.out.kept HB.out
              have t0 : wz.cell? ⟨w5.heap.size, 0, none⟩ = some (.int .i64 (W : Int)) := LB.cell 0
              have t1 : wz.cell? ⟨w5.heap.size, 1, none⟩ = some (.slice (some ⟨qq, 0, none⟩) K K) := LB.cell 1
              have t2 : wz.cell? ⟨w5.heap.size, 2, none⟩ = some (.int .i64 (T : Nat)) := LB.cell 2
              clear LB
              have d8 : ((a : Int) != (a : Int)) = false := by simp
              have d9 : ((k : Int) != (k : Int)) = false := by simp
              go_upto_region 27 with fail
              go_cut [137] from 119 to 136 (fun v wx => v = .bool false ∧ Below wz.heap.size wz wx)
              case first =>
                refine wp_region_noPanic ?_
                have hb0 : Below wz.heap.size wz wz.drew := (Below.refl _ wz).drew
                go_region_with ((first
                  | (go_at_call 17; refine (HAT.out _).mono ?_; rintro e W2 ⟨rfl, hbc⟩; have hb2 := on (by assumption : Below wz.heap.size wz _) (by assumption : Below wz.heap.size wz _).size hbc; clear hbc)
                  | fail))
                all_goals (refine NoPanic.normal ?_; go_wp2_with fail; go_meet; exact ⟨rfl, by assumption⟩)
              case rest =>
              obtain ⟨rfl, hc⟩ := hcut
              have RV7 := HRV6.out.below hc
              obtain ⟨ad7, q7, e7, e8, cg7, fg7⟩ := RV7.at_ (show i < (List.replicate i (-1 : Int) ++ x.row.drop i).length by rw [minus_len _ _ (Nat.le_of_lt HHIL.out)]; exact HHIL.out)
              injection e7 with e7
              rw [← e7, add_at] at cg7 fg7
              have hq3 := (RV7.blk_lt (k := q3) rfl).1
              have HRV7 := Lib.hid RV7
              have HB7 := Lib.hid (on HI.out HI.out.size hc)
              clear e7 e8 RV7 hc cg cl t0 t1 t2
              go_wp2
              exact ⟨⟨i + 1, by omega, by go_num, by rw [← minus_row _ _ HHIL.out]; exact HRV7.out.turn i (-1), HB7.out.setCell (p := ⟨q3, i, none⟩) hq3 _⟩, by simp [intOf]; omega⟩
            · obtain rfl : i = rl := by omega
              have LB := HLr.out.kept HB.out
              have t0 : wz.cell? ⟨w5.heap.size, 0, none⟩ = some (.int .i64 (W : Int)) := LB.cell 0
              have t1 : wz.cell? ⟨w5.heap.size, 1, none⟩ = some (.slice (some ⟨qq, 0, none⟩) K K) := LB.cell 1
              have t2 : wz.cell? ⟨w5.heap.size, 2, none⟩ = some (.int .i64 (T : Nat)) := LB.cell 2
              clear LB hlt3 hi d5 d6 d7
              go_upto_region 31 with fail
              go_cut [155] from 142 to 154 (fun v wx => v = .bool false ∧ Below wz.heap.size wz wx)
              case first =>
                refine wp_region_noPanic ?_
                have hb0 : Below wz.heap.size wz wz.drew := (Below.refl _ wz).drew
                by_cases h0 : 0 < i
                · have d10 : decide ((0 : Int) < (i : Int)) = true := by simp; omega
                  have h0x : 0 < x.row.length := by rw [HRL.out]; exact h0
                  have i0 : (0 : Int) < (i : Int) := by omega
                  obtain ⟨z, hz⟩ : ∃ z, x.row.getD 0 0 = z := ⟨_, rfl⟩
                  obtain ⟨adl, ql, rfl, rfl, cl, -⟩ := HRL6.out.at_ h0x
                  rw [add_at, hz] at cl
                  have d11 : (z != z) = false := by simp
                  have HH0 := Lib.hid h0x
                  have HHZ := Lib.hid hz
                  clear h0x hz
                  go_region_with ((first
                    | (go_at_call 14; refine (HSS _ (on HB.out HB.out.size (by assumption : Below wz.heap.size wz _))).out.mono ?_; rintro e W2 ⟨B4, cap4, rfl, RV4, hbc⟩; have hb2 := on (by assumption : Below wz.heap.size wz _) (by assumption : Below wz.heap.size wz _).size hbc; obtain ⟨ad4, q4, rfl, rfl, c4, -⟩ := RV4.at_ HH0.out; rw [add_at, HHZ.out] at c4; obtain ⟨ad5, q5, e5, e6, c5, -⟩ := (HRL6.out.below hb2).at_ HH0.out; injection e5 with e5; rw [← e5, add_at, HHZ.out] at c5; clear hbc RV4 e5 e6)
                    | fail))
                  all_goals (refine NoPanic.normal ?_; go_wp2_with fail; go_meet; exact ⟨rfl, by assumption⟩)
                · have d10 : decide ((0 : Int) < (i : Int)) = false := by simp; omega
                  go_quiet (fail)
                  all_goals (refine NoPanic.normal ?_; go_wp2_with fail; go_meet; exact ⟨rfl, by first | assumption | exact Mk.below_drewN _ _⟩)
              case rest =>
              obtain ⟨rfl, hc⟩ := hcut
              have HC := Lib.hid (on HB.out HB.out.size hc)
              clear hc t0 t1 t2
              go_wp2
              exact ⟨⟨k + 1, by omega, by go_num, by rw [← HSN.out]; go_num, on HBB.out HBB.out.size HC.out⟩, by simp [intOf]; omega⟩
    · obtain rfl : k = K := by omega
      have hTs : T = firstR (Mk.bit ws) W (adr 0 obs) k := HT.out
      rw [← hTs]
      have hT6 : T ≤ top := by rw [hTs]; exact HSUM.out k
      have d4 : ((T : Int) == (T : Int)) = true := by simp
      have d5 : decide ((T : Int) ≤ (top : Int)) = true := by simp; omega
      clear hTs LB BB LLB
      go_wp2_with fail
      refine (total_any wo W qq k T).mono ?_
      rintro e w8 ⟨rfl, hb8⟩
      have HB8 := Lib.hid (on HBr.out HBr.out.size hb8)
      have HSTz := Lib.hid (HSTr.out.kept hb8)
      clear hb8 t0 t1 t2
      go_wp2_with fail
      refine (top_n HSTz.out top HTOP.out).mono ?_
      rintro e w10 ⟨rfl, rfl⟩
      go_wp2
      go_ret
      exact ⟨rfl, HB8.out⟩

end Go.Proofs.Ythjbechbioeglaa
