/- RegionRows: where it plays, and where not. -/
import Derived.Test.YthjbechbioeglaaAwk
import Derived.Deep.CutRange
import Derived.Deep.CutBlock
namespace Go.Proofs.Ythjbechbioeglaa
open Go.RowKit
set_option linter.unusedVariables false
set_option linter.unusedSimpArgs false

set_option maxRecDepth 100000 in
set_option maxHeartbeats 1000000 in
theorem rows_far (A0 B0 C0 : Option Addr) (n cN m cR q cZ : Nat) (wd : Int) (ds : List Nd) (w : World) (hd : CameN w A0 n ds) (hm : m ≤ maxLen) (hq : q ≤ maxLen) (h : fewB ds m = false ∨ 40 < q) :
    Calls Try.prog 6 #[.agg #[.slice A0 n cN, .slice B0 m cR], .slice C0 q cZ, .int .u8 wd] w fun e w' => e = .returned (.bool true) ∧ Below w.heap.size w w' := by
  have HD := Lib.hid hd
  have bX := below_one w (.cells #[.slice A0 n cN, .slice B0 m cR] 25)
  have LX : Lies (w.alloc (.cells #[.slice A0 n cN, .slice B0 m cR] 25)) w.heap.size 25 [.slice A0 n cN, .slice B0 m cR] := Lies.new w 25 [_, _]
  have HBX := Lib.hid bX
  have HLX := Lib.hid LX
  unfold maxLen at hm hq
  clear hd bX LX
  go_enter Try.func6, Try.ntmps6
  go_wp2_with fail
  refine (awake_any _).mono ?_
  rintro e w1 ⟨rfl, hb1⟩
  have L1 := HLX.out.kept hb1
  have x0 : w1.cell? ⟨w.heap.size, 0, none⟩ = some (.slice A0 n cN) := L1.cell 0
  have x1 : w1.cell? ⟨w.heap.size, 1, none⟩ = some (.slice B0 m cR) := L1.cell 1
  have HB1 := Lib.hid (on HBX.out HBX.out.size hb1)
  clear hb1 L1
  go_wp2_with fail
  refine (few_any A0 B0 n cN m cR ds ⟨HD.out.1, HD.out.2.1.kept HB1.out, HD.out.2.2⟩ (by unfold maxLen; exact hm)).mono ?_
  rintro e w2 ⟨rfl, hb2⟩
  have HB2 := Lib.hid (on HB1.out HB1.out.size hb2)
  clear hb2 x0 x1
  cases hf : fewB ds m with
  | false =>
    clear hf h
    go_wp2_with fail
    refine (awake_any _).mono ?_
    rintro e w3 ⟨rfl, hb3⟩
    have HB3 := Lib.hid (on HB2.out HB2.out.size hb3)
    clear hb3
    go_wp2
    go_ret
    exact ⟨rfl, HB3.out⟩
  | true =>
    have hq40 : 40 < q := by rcases h with h | h; · rw [hf] at h; cases h
                             · exact h
    have d1 : decide ((40 : Int) < (q : Int)) = true := by simp; omega
    clear hf h
    go_wp2_with fail
    refine (awake_any _).mono ?_
    rintro e w3 ⟨rfl, hb3⟩
    have HB3 := Lib.hid (on HB2.out HB2.out.size hb3)
    clear hb3
    go_wp2
    go_ret
    exact ⟨rfl, HB3.out⟩

theorem kdiv_le {top W : Nat} (h1 : 1 ≤ W) (h2 : top ≤ 65536) (h3 : W ≤ 65536) : (top + W - 1) / W ≤ 65536 := by
  rcases Nat.eq_zero_or_pos top with h0 | h0
  · rw [h0, Nat.zero_add]
    have := Nat.div_le_self (W - 1) W
    omega
  · have h1 : (top + W - 1) / W ≤ top := by
      rw [Nat.div_le_iff_le_mul_add_pred (by omega)]
      have : top ≤ W * top := Nat.le_mul_of_pos_left top (by omega)
      omega
    omega
theorem len_sum (L : List (Nat × Ob)) : L.length ≤ sumL L := by
  induction L with
  | nil => exact Nat.le_refl _
  | cons x l ih => show l.length + 1 ≤ 1 + x.2.2.length + sumL l; omega
theorem stay_live (f : Nat → Bool) (n k : Nat) (L : List (Nat × Ob)) : (stayR f n k L).length ≤ liveR f n k L := by
  unfold stayR liveR
  rw [List.length_map]
  exact len_sum _
theorem stay_at {f : Nat → Bool} {n k : Nat} {L : List (Nat × Ob)} {z : Int} (h : z ∈ stayR f n k L) : ∃ a : Nat, z = (a : Int) ∧ a / n = k ∧ ∃ o, (a, o) ∈ L := by
  unfold stayR inR at h
  obtain ⟨x, hx, rfl⟩ := List.mem_map.1 h
  obtain ⟨h1, h2⟩ := List.mem_filter.1 hx
  simp only [Bool.and_eq_true, decide_eq_true_eq] at h2
  exact ⟨x.1, rfl, h2.2, x.2, h1⟩
theorem adr_lt : ∀ {a : Nat} {obs : List Ob} {x : Nat × Ob}, x ∈ adr a obs → x.1 < a + (flat obs).length
  | _, [], x, h => by simp [adr] at h
  | a, o :: l, x, h => by
    rw [adr] at h
    rw [flat_cons]
    rcases List.mem_cons.1 h with rfl | h
    · simp
    · have := adr_lt h
      simp at this ⊢; omega

set_option maxRecDepth 1000000 in
set_option maxHeartbeats 4000000 in
theorem rows_near (A0 B0 C0 : Option Addr) (n cN m cR q cZ : Nat) (wd : Int) (W : Nat) (ds : List Nd) (rs zs : List Int) (w : World) (hd : CameN w A0 n ds) (hr : Mk.Came .u8 w B0 m rs) (hz : Mk.Came .u8 w C0 q zs) (hf : fewB ds m = true) (hq : q ≤ 40) (hwd0 : 0 ≤ wd) (hwd1 : wd ≤ 255) (hW : 1 + wd = (W : Int)) (hW1 : 1 ≤ W) (hW2 : W ≤ 256) :
    Calls Try.prog 6 #[.agg #[.slice A0 n cN, .slice B0 m cR], .slice C0 q cZ, .int .u8 wd] w fun e w' => e = .returned (.bool true) ∧ Below w.heap.size w w' := by
  have HD := Lib.hid hd
  have HR := Lib.hid hr
  have HZ := Lib.hid hz
  have HF := Lib.hid hf
  have hfew := hf
  unfold fewB at hfew
  simp only [Bool.and_eq_true, List.all_eq_true, decide_eq_true_eq] at hfew
  obtain ⟨he, hn14, hm14⟩ := hfew
  rw [hd.1] at hn14
  have HE := Lib.hid he
  have bX := below_one w (.cells #[.slice A0 n cN, .slice B0 m cR] 25)
  have LX : Lies (w.alloc (.cells #[.slice A0 n cN, .slice B0 m cR] 25)) w.heap.size 25 [.slice A0 n cN, .slice B0 m cR] := Lies.new w 25 [_, _]
  have HBX := Lib.hid bX
  have HLX := Lib.hid LX
  have d1 : decide ((40 : Int) < (q : Int)) = false := by simp; omega
  clear hd hr hz hf he bX LX
  go_enter Try.func6, Try.ntmps6
  go_wp2_with fail
  refine (awake_any _).mono ?_
  rintro e w1 ⟨rfl, hb1⟩
  have L1 := HLX.out.kept hb1
  have x0 : w1.cell? ⟨w.heap.size, 0, none⟩ = some (.slice A0 n cN) := L1.cell 0
  have x1 : w1.cell? ⟨w.heap.size, 1, none⟩ = some (.slice B0 m cR) := L1.cell 1
  have HL1 := Lib.hid L1
  have HB1 := Lib.hid (on HBX.out HBX.out.size hb1)
  clear hb1 L1
  go_wp2_with fail
  refine (few_any A0 B0 n cN m cR ds ⟨HD.out.1, HD.out.2.1.kept HB1.out, HD.out.2.2⟩ (by unfold maxLen; omega)).mono ?_
  rintro e w2 ⟨rfl, hb2⟩
  rw [HF.out]
  have L2 := HL1.out.kept hb2
  have x2 : w2.cell? ⟨w.heap.size, 0, none⟩ = some (.slice A0 n cN) := L2.cell 0
  have x3 : w2.cell? ⟨w.heap.size, 1, none⟩ = some (.slice B0 m cR) := L2.cell 1
  have HB2 := Lib.hid (on HB1.out HB1.out.size hb2)
  clear hb2 L2 x0 x1 HL1
  go_wp2_with fail
  refine (marked_any A0 B0 C0 n cN m cR q cZ ds rs zs ⟨HD.out.1, HD.out.2.1.kept HB2.out, HD.out.2.2⟩ ⟨HR.out.1, HR.out.2.1.kept HB2.out, HR.out.2.2⟩ ⟨HZ.out.1, HZ.out.2.1.kept HB2.out, HZ.out.2.2⟩ hn14 hm14 hq HE.out).mono ?_
  rintro e w3 ⟨g, gw, gb, base, obs, tail, A, n', c, xs, mg, mw, ws, rfl, MK⟩
  obtain ⟨Z, hZ⟩ : ∃ Z, sizeG ds 2 n = Z := ⟨_, rfl⟩
  rw [hZ] at MK ⊢
  have HB3 := Lib.hid (on HB2.out HB2.out.size MK.old)
  have bY := below_one w3 (.cells #[.int .i64 (Z : Int), .slice A n' c] 32)
  have HB4 := Lib.hid (on HB3.out HB3.out.size bY)
  have HMK := Lib.hid (MK.kept bY)
  have HLB := Lib.hid (show Lies (w3.alloc (.cells #[.int .i64 (Z : Int), .slice A n' c] 32)) w3.heap.size 32 [.int .i64 (Z : Int), .slice A n' c] from Lies.new w3 32 [_, _])
  obtain ⟨top, htop⟩ : ∃ top, (flat obs).length = top := ⟨_, rfl⟩
  have HTOP := Lib.hid htop
  have htop6 : top ≤ 65536 := by
    obtain ⟨B, cap, rts, hB⟩ := MK.heap
    have h1 := hB.st.lies.most
    have h2 := hB.st.lies.fits
    omega
  have HST : Hid (St (w3.alloc (.cells #[.int .i64 (Z : Int), .slice A n' c] 32)) g gw gb obs tail) := Lib.hid (by obtain ⟨B, cap, rts, hB⟩ := HMK.out.heap; exact hB.st)
  clear MK bY hZ htop x2 x3 HLX HBX HB1 HB2 HD HR HZ HE HF
  have hWn : (W : Int) = if (W : Int) < 1 then 1 else if (65536 : Int) < (W : Int) then 65536 else (W : Int) := by rw [if_neg (by omega), if_neg (by omega)]
  obtain ⟨K, hK⟩ : ∃ K, (top + W - 1) / W = K := ⟨_, rfl⟩
  have HO := Lib.hid (of_any HST.out HMK.out.map (W : Int) W K top hWn HTOP.out hK.symm (by unfold InR; omega))
  have hK6 : K ≤ 65536 := by rw [← hK]; exact kdiv_le (by omega) htop6 (by omega)
  clear hWn hK
  go_wp2_with fail
  refine HO.out.mono ?_
  rintro e w5 ⟨qq, l, b5, T, rfl, R5, G5, hT, hb5, -⟩
  unfold rv
  have HB5 := Lib.hid (on HB4.out HB4.out.size hb5)
  have bZ := below_one w5 (.cells #[.int .i64 (W : Int), .slice (some ⟨qq, 0, none⟩) K K, .int .i64 (T : Nat)] 37)
  have HB6 := Lib.hid (on HB5.out HB5.out.size bZ)
  have HR6 := Lib.hid (R5.kept bZ)
  have HL6 := Lib.hid (show Lies (w5.alloc (.cells #[.int .i64 (W : Int), .slice (some ⟨qq, 0, none⟩) K K, .int .i64 (T : Nat)] 37)) w5.heap.size 37 [.int .i64 (W : Int), .slice (some ⟨qq, 0, none⟩) K K, .int .i64 (T : Nat)] from Lies.new w5 37 [_, _, _])
  have HG := Lib.hid G5
  have HT := Lib.hid hT
  have hsum : ∀ j, firstR (Mk.bit ws) W (adr 0 obs) j ≤ top := fun j => by
    have h1 := first_le (Mk.bit ws) W (adr 0 obs) j
    rw [sumL_adr, HTOP.out] at h1; exact h1
  have HSUM := Lib.hid hsum
  clear R5 G5 hT hb5 bZ hsum HO
  go_wp2_with fail
  refine (len_any _ W qq K T).mono ?_
  rintro e w7 ⟨rfl, hb7⟩
  have HR7 := Lib.hid (HR6.out.kept hb7)
  have HL7 := Lib.hid (HL6.out.kept hb7)
  have HB7 := Lib.hid (on HB6.out HB6.out.size hb7)
  clear hb7
  go_wp2
  go_loopw [43, 11] (fun i s wr => ∃ k : Nat, k ≤ K ∧ i = .int .i64 k ∧ s = .int .i64 (firstR (Mk.bit ws) W (adr 0 obs) k : Nat) ∧ Below w7.heap.size w7 wr) (fun i _ _ => K - (intOf i).toNat)
  case atStart => exact ⟨0, Nat.zero_le _, rfl, rfl, Below.refl _ _⟩
  case round =>
    obtain ⟨k, hk, rfl, rfl, BB⟩ := hrel
    have HRr := Lib.hid (HR7.out.kept BB)
    have LB := HL7.out.kept BB
    have HLr := Lib.hid LB
    have HBr := Lib.hid (on HB7.out HB7.out.size BB)
    have HBB := Lib.hid BB
    have t0 : wr.cell? ⟨w5.heap.size, 0, none⟩ = some (.int .i64 (W : Int)) := LB.cell 0
    have t1 : wr.cell? ⟨w5.heap.size, 1, none⟩ = some (.slice (some ⟨qq, 0, none⟩) K K) := LB.cell 1
    have t2 : wr.cell? ⟨w5.heap.size, 2, none⟩ = some (.int .i64 (T : Nat)) := LB.cell 2
    by_cases hlt : k < K
    · obtain ⟨x, hx, hrow, hlive, hfst⟩ := HG.out.2 k hlt
      rw [if_pos hlt] at hfst
      have k0 : (0 : Int) ≤ (k : Int) := by omega
      have k1 : (k : Int) < (K : Int) := by omega
      obtain ⟨S, hS⟩ : ∃ S, firstR (Mk.bit ws) W (adr 0 obs) k = S := ⟨_, rfl⟩
      have hS6 : S ≤ 65536 := by have := HSUM.out k; omega
      obtain ⟨lv, hlv⟩ : ∃ lv, x.live = lv := ⟨_, rfl⟩
      have hSn : S + lv = firstR (Mk.bit ws) W (adr 0 obs) (k + 1) := by rw [← hlv, hlive, ← hS]; rfl
      have hlv6 : S + lv ≤ 65536 := by have := HSUM.out (k + 1); omega
      obtain ⟨rl, hrl⟩ : ∃ rl, x.row.length = rl := ⟨_, rfl⟩
      have hrl2 : rl ≤ lv := by rw [← hrl, ← hlv, hrow, hlive]; exact stay_live _ _ _ _
      rw [hS] at hfst ⊢
      have HX := Lib.hid hx
      have HKL := HG.out.1
      have HFS : ∀ V, Below wr.heap.size wr V → Hid (Calls Try.prog 16 #[.agg #[.int .i64 (W : Int), .slice (some ⟨qq, 0, none⟩) K K, .int .i64 (T : Nat)], .int .i64 (k : Nat)] V fun e w' => e = .returned (.int .i64 (S : Nat)) ∧ Below V.heap.size V w') := fun V hV => Lib.hid (by have := first_any (HRr.out.kept hV) W K T k HKL hK6 x hx; rw [hfst] at this; exact this)
      have HLS : ∀ V, Below wr.heap.size wr V → Hid (Calls Try.prog 15 #[.agg #[.int .i64 (W : Int), .slice (some ⟨qq, 0, none⟩) K K, .int .i64 (T : Nat)], .int .i64 (k : Nat)] V fun e w' => e = .returned (.int .i64 (lv : Nat)) ∧ Below V.heap.size V w') := fun V hV => Lib.hid (by have := live_any (HRr.out.kept hV) W K T k HKL hK6 x hx; rw [hlv] at this; exact this)
      have HSS : ∀ V, Below wr.heap.size wr V → Hid (Calls Try.prog 14 #[.agg #[.int .i64 (W : Int), .slice (some ⟨qq, 0, none⟩) K K, .int .i64 (T : Nat)], .int .i64 (k : Nat)] V fun e w' => ∃ B2 cap2, e = .returned (.slice B2 rl cap2) ∧ Rv w' V.heap.size B2 cap2 x.row ∧ Below V.heap.size V w') := fun V hV => Lib.hid (stays_any (HRr.out.kept hV) W K T k HKL hK6 x hx rl hrl (by omega))
      have HSN := Lib.hid hSn
      have HRL := Lib.hid hrl
      have HROW := Lib.hid hrow
      clear hx hrow hlive hfst hlv hSn hS HKL LB BB hrl
      go_upto_region 9 with fail
      go_cut [60] from 46 to 59 (fun v60 wx => v60 = .bool false ∧ Below wr.heap.size wr wx)
      case first =>
        refine wp_region_noPanic ?_
        have d0 : ((S : Int) != (S : Int)) = false := by simp
        have d1 : ((S : Int) == (S : Int)) = true := by simp
        have d2 : decide ((lv : Int) < (rl : Int)) = false := by simp; omega
        have hb0 : Below wr.heap.size wr wr.drew := (Below.refl _ wr).drew
        go_region_with ((first
          | (go_at_call 16; refine (HFS _ (by assumption)).out.mono ?_; rintro e W2 ⟨rfl, hbc⟩; have hb2 := on (by assumption : Below wr.heap.size wr _) (by assumption : Below wr.heap.size wr _).size hbc; have LL := HLr.out.kept hb2; have s0 : W2.cell? ⟨w5.heap.size, 0, none⟩ = some (.int .i64 (W : Int)) := LL.cell 0; have s1 : W2.cell? ⟨w5.heap.size, 1, none⟩ = some (.slice (some ⟨qq, 0, none⟩) K K) := LL.cell 1; have s2 : W2.cell? ⟨w5.heap.size, 2, none⟩ = some (.int .i64 (T : Nat)) := LL.cell 2; clear LL hbc)
          | (go_at_call 15; refine (HLS _ (by assumption)).out.mono ?_; rintro e W3 ⟨rfl, hbc⟩; have hb3 := on (by assumption : Below wr.heap.size wr _) (by assumption : Below wr.heap.size wr _).size hbc; have LL := HLr.out.kept hb3; have s0 : W3.cell? ⟨w5.heap.size, 0, none⟩ = some (.int .i64 (W : Int)) := LL.cell 0; have s1 : W3.cell? ⟨w5.heap.size, 1, none⟩ = some (.slice (some ⟨qq, 0, none⟩) K K) := LL.cell 1; have s2 : W3.cell? ⟨w5.heap.size, 2, none⟩ = some (.int .i64 (T : Nat)) := LL.cell 2; clear LL hbc)
          | (go_at_call 14; refine (HSS _ (by assumption)).out.mono ?_; rintro e W4 ⟨B2, cap2, rfl, -, hbc⟩; have hb4 := on (by assumption : Below wr.heap.size wr _) (by assumption : Below wr.heap.size wr _).size hbc; have LL := HLr.out.kept hb4; have s0 : W4.cell? ⟨w5.heap.size, 0, none⟩ = some (.int .i64 (W : Int)) := LL.cell 0; have s1 : W4.cell? ⟨w5.heap.size, 1, none⟩ = some (.slice (some ⟨qq, 0, none⟩) K K) := LL.cell 1; have s2 : W4.cell? ⟨w5.heap.size, 2, none⟩ = some (.int .i64 (T : Nat)) := LL.cell 2; clear LL hbc)
          | fail))
        all_goals (refine NoPanic.normal ?_; go_wp2_with fail; go_meet; exact ⟨by first | rfl | rw [decide_eq_false (show ¬ lv < rl by omega)], by assumption⟩)
      case rest =>
      obtain ⟨rfl, hc⟩ := hcut
      have LL := HLr.out.kept hc
      have s0 : _ = some (Value.int .i64 (W : Int)) := LL.cell 0
      have s1 : _ = some (Value.slice (some ⟨qq, 0, none⟩) K K) := LL.cell 1
      have s2 : _ = some (Value.int .i64 (T : Nat)) := LL.cell 2
      clear LL t0 t1 t2 hlt
      go_wp2_with fail
      refine (HLS _ hc).out.mono ?_
      rintro e w9 ⟨rfl, hb9⟩
      have hc9 := on hc hc.size hb9
      have LL := HLr.out.kept hc9
      have t0 : w9.cell? ⟨w5.heap.size, 0, none⟩ = some (.int .i64 (W : Int)) := LL.cell 0
      have t1 : w9.cell? ⟨w5.heap.size, 1, none⟩ = some (.slice (some ⟨qq, 0, none⟩) K K) := LL.cell 1
      have t2 : w9.cell? ⟨w5.heap.size, 2, none⟩ = some (.int .i64 (T : Nat)) := LL.cell 2
      clear LL s0 s1 s2 hb9 hc
      go_wp2_with fail
      refine (HSS _ hc9).out.mono ?_
      rintro e w10 ⟨B2, cap2, rfl, RV, hb10⟩
      have HC10 := Lib.hid (on hc9 hc9.size hb10)
      have HRV := Lib.hid RV
      clear hb10 RV t0 t1 t2 hc9 HFS HLS HSS
      go_wp2
      go_loopw [70] (fun i wq => ∃ j : Nat, j ≤ rl ∧ i = .int .i64 j ∧ Below w10.heap.size w10 wq) (fun i _ => rl - (intOf i).toNat)
      case atStart => exact ⟨0, Nat.zero_le _, rfl, Below.refl _ _⟩
      case round =>
        obtain ⟨j, hj, rfl, B11⟩ := hrel
        have hc11 := on HC10.out HC10.out.size B11
        have LL := HLr.out.kept hc11
        have t0 : wr.cell? ⟨w5.heap.size, 0, none⟩ = some (.int .i64 (W : Int)) := LL.cell 0
        have t1 : wr.cell? ⟨w5.heap.size, 1, none⟩ = some (.slice (some ⟨qq, 0, none⟩) K K) := LL.cell 1
        have t2 : wr.cell? ⟨w5.heap.size, 2, none⟩ = some (.int .i64 (T : Nat)) := LL.cell 2
        by_cases hlt : j < rl
        · have j0 : (0 : Int) ≤ (j : Int) := by omega
          have j1 : (j : Int) < (rl : Int) := by omega
          obtain ⟨ad, qB, rfl, -, cj, -⟩ := (HRV.out.below B11).at_ (show j < x.row.length by rw [HRL.out]; exact hlt)
          have hjl : j < x.row.length := by rw [HRL.out]; exact hlt
          have hmem : x.row.getD j 0 ∈ stayR (Mk.bit ws) W k (adr 0 obs) := by
            rw [← HROW.out, List.getD_eq_getElem?_getD, List.getElem?_eq_getElem hjl]
            exact List.getElem_mem hjl
          obtain ⟨a, ea, hak, o, hao⟩ := stay_at hmem
          have ha6 : a ≤ 65536 := by
            have := adr_lt hao
            rw [HTOP.out] at this; simp at this; omega
          rw [ea] at cj
          have HC11 := Lib.hid hc11
          have HB11 := Lib.hid B11
          have HAT := Lib.hid (show Calls Try.prog 17 #[.agg #[.int .i64 (W : Int), .slice (some ⟨qq, 0, none⟩) K K, .int .i64 (T : Nat)], .int .i64 (a : Nat)] wr fun e w' => e = .returned (.int .i64 ((k : Nat) : Int)) ∧ Below wr.heap.size wr w' from by have := at_any wr W qq K T a hW1 (by omega) ha6; rw [hak] at this; exact this)
          have d3 : ((k : Int) != (k : Int)) = false := by simp
          clear hmem ea hak hao hjl B11 hc11 LL
          go_wp2_with fail
          refine HAT.out.mono ?_
          rintro e w12 ⟨rfl, hb12⟩
          have HB12 := Lib.hid (on HB11.out HB11.out.size hb12)
          clear hb12 t0 t1 t2 cj HAT
          go_wp2
          exact ⟨⟨j + 1, by omega, by go_num, HB12.out⟩, by simp [intOf]; omega⟩
        · obtain rfl : j = rl := by omega
          have HC11 := Lib.hid hc11
          clear hc11 B11 LL t0 t1 t2
          go_wp2
          exact ⟨⟨k + 1, by omega, by go_num, by rw [← HSN.out]; go_num, on HBB.out HBB.out.size HC11.out⟩, by simp [intOf]; omega⟩
    · obtain rfl : k = K := by omega
      rw [← HT.out]
      have d4 : ((T : Int) == (T : Int)) = true := by simp
      clear LB BB
      go_wp2_with fail
      refine (total_any wr W qq k T).mono ?_
      rintro e w8 ⟨rfl, hb8⟩
      have HB8 := Lib.hid (on HBr.out HBr.out.size hb8)
      clear hb8 t0 t1 t2
      go_wp2
      go_ret
      exact ⟨rfl, HB8.out⟩

end Go.Proofs.Ythjbechbioeglaa
