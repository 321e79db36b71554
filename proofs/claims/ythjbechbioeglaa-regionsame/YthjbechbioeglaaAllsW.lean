/- RegionAlls: where it plays, and where not. -/
import Derived.Test.YthjbechbioeglaaSumL
import Derived.Deep.CutRange
import Derived.Deep.CutBlock
import Derived.BigQuiet
import Derived.Deep.RegionHeld3
namespace Go.Proofs.Ythjbechbioeglaa
open Go.RowKit
set_option linter.unusedVariables false
set_option linter.unusedSimpArgs false

set_option maxRecDepth 100000 in
set_option maxHeartbeats 1000000 in
theorem alls_far (A0 B0 C0 : Option Addr) (n cN m cR q cZ : Nat) (ds : List Nd) (w : World) (hd : CameN w A0 n ds) (hm : m ≤ maxLen) (hq : q ≤ maxLen) (h : fewB ds m = false ∨ 40 < q) :
    Calls Try.prog 5 #[.agg #[.slice A0 n cN, .slice B0 m cR], .slice C0 q cZ] w fun e w' => e = .returned (.bool true) ∧ Below w.heap.size w w' := by
  have HD := Lib.hid hd
  have bX := below_one w (.cells #[.slice A0 n cN, .slice B0 m cR] 25)
  have LX : Lies (w.alloc (.cells #[.slice A0 n cN, .slice B0 m cR] 25)) w.heap.size 25 [.slice A0 n cN, .slice B0 m cR] := Lies.new w 25 [_, _]
  have HBX := Lib.hid bX
  have HLX := Lib.hid LX
  unfold maxLen at hm hq
  clear hd bX LX
  go_enter Try.func5, Try.ntmps5
  go_wp2_with fail
  refine (awake_any _).mono ?_
  rintro e w1 ⟨rfl, hb1⟩
  have L1 := HLX.out.kept hb1
  have x0 : w1.cell? ⟨w.heap.size, 0, none⟩ = some (.slice A0 n cN) := L1.cell 0
  have x1 : w1.cell? ⟨w.heap.size, 1, none⟩ = some (.slice B0 m cR) := L1.cell 1
  have HB1 := Lib.hid (on HBX.out HBX.out.size hb1)
  clear hb1 L1
  go_wp2_with fail
  refine (few_any A0 B0 n cN m cR ds ⟨HD.out.1, HD.out.2.1.kept HB1.out, HD.out.2.2⟩ (by unfold maxLen; exact hm)).mono ?_
  rintro e w2 ⟨rfl, hb2⟩
  have HB2 := Lib.hid (on HB1.out HB1.out.size hb2)
  clear hb2 x0 x1
  cases hf : fewB ds m with
  | false =>
    clear hf h
    go_wp2_with fail
    refine (awake_any _).mono ?_
    rintro e w3 ⟨rfl, hb3⟩
    have HB3 := Lib.hid (on HB2.out HB2.out.size hb3)
    clear hb3
    go_wp2
    go_ret
    exact ⟨rfl, HB3.out⟩
  | true =>
    have hq40 : 40 < q := by rcases h with h | h; · rw [hf] at h; cases h
                             · exact h
    have d1 : decide ((40 : Int) < (q : Int)) = true := by simp; omega
    clear hf h
    go_wp2_with fail
    refine (awake_any _).mono ?_
    rintro e w3 ⟨rfl, hb3⟩
    have HB3 := Lib.hid (on HB2.out HB2.out.size hb3)
    clear hb3
    go_wp2
    go_ret
    exact ⟨rfl, HB3.out⟩

theorem adr_ge : ∀ {a : Nat} {obs : List Ob} {x : Nat × Ob}, x ∈ adr a obs → a ≤ x.1
  | _, [], x, h => by simp [adr] at h
  | a, o :: l, x, h => by
    rw [adr] at h
    rcases List.mem_cons.1 h with rfl | h
    · exact Nat.le_refl _
    · have := adr_ge h
      omega
/-- In regions of one word each that stays is alone. -/
theorem alone (f : Nat → Bool) : ∀ {a : Nat} {obs : List Ob} {x : Nat × Ob}, x ∈ adr a obs → keepB f x = true → inR f 1 x.1 (adr a obs) = [x]
  | _, [], x, h, _ => by simp [adr] at h
  | a, o :: l, x, h, hk => by
    rw [adr] at h ⊢
    unfold inR
    rw [List.filter_cons]
    rcases List.mem_cons.1 h with rfl | h
    · rw [if_pos (by simp [hk])]
      congr 1
      rw [List.filter_eq_nil_iff]
      intro y hy
      have := adr_ge hy
      simp; intro _; omega
    · have h1 := adr_ge h
      have h2 := alone f h hk
      unfold inR at h2
      rw [if_neg (by simp; intro _; omega)]
      exact h2
theorem stay_at2 {f : Nat → Bool} {n k : Nat} {L : List (Nat × Ob)} {z : Int} (h : z ∈ stayR f n k L) : ∃ a : Nat, z = (a : Int) ∧ ∃ o, (a, o) ∈ L ∧ keepB f (a, o) = true := by
  unfold stayR inR at h
  obtain ⟨x, hx, rfl⟩ := List.mem_map.1 h
  obtain ⟨h1, h2⟩ := List.mem_filter.1 hx
  simp only [Bool.and_eq_true, decide_eq_true_eq] at h2
  exact ⟨x.1, rfl, x.2, h1, h2.1⟩
theorem hold6 {wr W w' : World} {b c : Nat} {x0 x1 x2 y0 y1 y2 : Value} (hk : Below W.heap.size W w') (h : Below wr.heap.size wr W ∧ W.cell? ⟨b, 0, none⟩ = some x0 ∧ W.cell? ⟨b, 1, none⟩ = some x1 ∧ W.cell? ⟨b, 2, none⟩ = some x2 ∧ W.cell? ⟨c, 0, none⟩ = some y0 ∧ W.cell? ⟨c, 1, none⟩ = some y1 ∧ W.cell? ⟨c, 2, none⟩ = some y2) :
    Below wr.heap.size wr w' ∧ w'.cell? ⟨b, 0, none⟩ = some x0 ∧ w'.cell? ⟨b, 1, none⟩ = some x1 ∧ w'.cell? ⟨b, 2, none⟩ = some x2 ∧ w'.cell? ⟨c, 0, none⟩ = some y0 ∧ w'.cell? ⟨c, 1, none⟩ = some y1 ∧ w'.cell? ⟨c, 2, none⟩ = some y2 :=
  ⟨on h.1 h.1.size hk, (hk.cell (block_lt_of_cell h.2.1)).trans h.2.1, (hk.cell (block_lt_of_cell h.2.2.1)).trans h.2.2.1, (hk.cell (block_lt_of_cell h.2.2.2.1)).trans h.2.2.2.1, (hk.cell (block_lt_of_cell h.2.2.2.2.1)).trans h.2.2.2.2.1, (hk.cell (block_lt_of_cell h.2.2.2.2.2.1)).trans h.2.2.2.2.2.1, (hk.cell (block_lt_of_cell h.2.2.2.2.2.2)).trans h.2.2.2.2.2.2⟩
theorem in_one (f : Nat → Bool) {n : Nat} {L : List (Nat × Ob)} (h : ∀ x ∈ L, x.1 < n) : inR f n 0 L = L.filter (keepB f) := by
  unfold inR
  refine List.filter_congr fun x hx => ?_
  rw [Nat.div_eq_of_lt (h x hx)]; simp
theorem in_many (f : Nat → Bool) {n : Nat} {L : List (Nat × Ob)} (h : ∀ x ∈ L, x.1 < n) : firstR f 1 L n = sumL (L.filter (keepB f)) := by
  rw [first_sum]
  congr 1
  refine List.filter_congr fun x hx => ?_
  have := h x hx
  simp [this]
theorem kdiv_one {top : Nat} (h : 1 ≤ top) (h2 : top ≤ 65536) : (top + 65536 - 1) / 65536 = 1 := by omega

set_option maxRecDepth 1000000 in
set_option maxHeartbeats 4000000 in
theorem alls_near (A0 B0 C0 : Option Addr) (n cN m cR q cZ : Nat) (ds : List Nd) (rs zs : List Int) (w : World) (hd : CameN w A0 n ds) (hr : Mk.Came .u8 w B0 m rs) (hz : Mk.Came .u8 w C0 q zs) (hf : fewB ds m = true) (hq : q ≤ 40) :
    Calls Try.prog 5 #[.agg #[.slice A0 n cN, .slice B0 m cR], .slice C0 q cZ] w fun e w' => e = .returned (.bool true) ∧ Below w.heap.size w w' := by
  have HD := Lib.hid hd
  have HR := Lib.hid hr
  have HZ := Lib.hid hz
  have HF := Lib.hid hf
  have hfew := hf
  unfold fewB at hfew
  simp only [Bool.and_eq_true, List.all_eq_true, decide_eq_true_eq] at hfew
  obtain ⟨he, hn14, hm14⟩ := hfew
  rw [hd.1] at hn14
  have HE := Lib.hid he
  have bX := below_one w (.cells #[.slice A0 n cN, .slice B0 m cR] 25)
  have LX : Lies (w.alloc (.cells #[.slice A0 n cN, .slice B0 m cR] 25)) w.heap.size 25 [.slice A0 n cN, .slice B0 m cR] := Lies.new w 25 [_, _]
  have HBX := Lib.hid bX
  have HLX := Lib.hid LX
  have d1 : decide ((40 : Int) < (q : Int)) = false := by simp; omega
  clear hd hr hz hf he bX LX
  go_enter Try.func5, Try.ntmps5
  go_wp2_with fail
  refine (awake_any _).mono ?_
  rintro e w1 ⟨rfl, hb1⟩
  have L1 := HLX.out.kept hb1
  have x0 : w1.cell? ⟨w.heap.size, 0, none⟩ = some (.slice A0 n cN) := L1.cell 0
  have x1 : w1.cell? ⟨w.heap.size, 1, none⟩ = some (.slice B0 m cR) := L1.cell 1
  have HL1 := Lib.hid L1
  have HB1 := Lib.hid (on HBX.out HBX.out.size hb1)
  clear hb1 L1
  go_wp2_with fail
  refine (few_any A0 B0 n cN m cR ds ⟨HD.out.1, HD.out.2.1.kept HB1.out, HD.out.2.2⟩ (by unfold maxLen; omega)).mono ?_
  rintro e w2 ⟨rfl, hb2⟩
  rw [HF.out]
  have L2 := HL1.out.kept hb2
  have x2 : w2.cell? ⟨w.heap.size, 0, none⟩ = some (.slice A0 n cN) := L2.cell 0
  have x3 : w2.cell? ⟨w.heap.size, 1, none⟩ = some (.slice B0 m cR) := L2.cell 1
  have HB2 := Lib.hid (on HB1.out HB1.out.size hb2)
  clear hb2 L2 x0 x1 HL1
  go_wp2_with fail
  refine (marked_any A0 B0 C0 n cN m cR q cZ ds rs zs ⟨HD.out.1, HD.out.2.1.kept HB2.out, HD.out.2.2⟩ ⟨HR.out.1, HR.out.2.1.kept HB2.out, HR.out.2.2⟩ ⟨HZ.out.1, HZ.out.2.1.kept HB2.out, HZ.out.2.2⟩ hn14 hm14 hq HE.out).mono ?_
  rintro e w3 ⟨g, gw, gb, base, obs, tail, A, n', c, xs, mg, mw, ws, rfl, MK⟩
  obtain ⟨Z, hZ⟩ : ∃ Z, sizeG ds 2 n = Z := ⟨_, rfl⟩
  rw [hZ] at MK ⊢
  have HB3 := Lib.hid (on HB2.out HB2.out.size MK.old)
  have bY := below_one w3 (.cells #[.int .i64 (Z : Int), .slice A n' c] 32)
  have HB4 := Lib.hid (on HB3.out HB3.out.size bY)
  have HMK := Lib.hid (MK.kept bY)
  have HLB := Lib.hid (show Lies (w3.alloc (.cells #[.int .i64 (Z : Int), .slice A n' c] 32)) w3.heap.size 32 [.int .i64 (Z : Int), .slice A n' c] from Lies.new w3 32 [_, _])
  obtain ⟨top, htop⟩ : ∃ top, (flat obs).length = top := ⟨_, rfl⟩
  have HTOP := Lib.hid htop
  have htop6 : top ≤ 65536 := by
    obtain ⟨B, cap, rts, hB⟩ := MK.heap
    have h1 := hB.st.lies.most
    have h2 := hB.st.lies.fits
    omega
  have HST : Hid (St (w3.alloc (.cells #[.int .i64 (Z : Int), .slice A n' c] 32)) g gw gb obs tail) := Lib.hid (by obtain ⟨B, cap, rts, hB⟩ := HMK.out.heap; exact hB.st)
  clear MK bY hZ htop x2 x3 HLX HBX HB1 HB2 HD HR HZ HE HF
  obtain ⟨W1, hW1⟩ : ∃ W1 : Nat, 65536 = W1 := ⟨_, rfl⟩
  obtain ⟨W2, hW2⟩ : ∃ W2 : Nat, 1 = W2 := ⟨_, rfl⟩
  obtain ⟨K1, hK1⟩ : ∃ K, (top + W1 - 1) / W1 = K := ⟨_, rfl⟩
  obtain ⟨K2, hK2⟩ : ∃ K, (top + W2 - 1) / W2 = K := ⟨_, rfl⟩
  have HO1 := Lib.hid (of_any HST.out HMK.out.map 65536 W1 K1 top (by rw [← hW1]; simp) HTOP.out hK1.symm (by unfold InR; omega))
  have HO2 := Lib.hid (show ∀ V, Below (w3.alloc (.cells #[.int .i64 (Z : Int), .slice A n' c] 32)).heap.size (w3.alloc (.cells #[.int .i64 (Z : Int), .slice A n' c] 32)) V → _ from fun V hV => of_any (HST.out.kept hV) (HMK.out.map.kept hV) 1 W2 K2 top (by rw [← hW2]; simp) HTOP.out hK2.symm (by unfold InR; omega))
  have HKE1 := Lib.hid hK1
  have HKE2 := Lib.hid hK2
  have HW1 := Lib.hid hW1
  have HW2 := Lib.hid hW2
  clear hW1 hW2 hK1 hK2
  go_wp2_with fail
  refine HO1.out.mono ?_
  rintro e w5 ⟨q1, l1, b1, T1, rfl, R1, G1, hT1, hb5, hq1⟩
  unfold rv
  have HI5 := Lib.hid hb5
  have HR1 := Lib.hid R1
  have HG1 := Lib.hid G1
  have HT1 := Lib.hid hT1
  clear hb5 R1 G1 hT1 HO1
  go_wp2_with fail
  refine (HO2.out _ HI5.out).mono ?_
  rintro e w6 ⟨q2, l2, b2, T2, rfl, R2, G2, hT2, hb6, hq2⟩
  unfold rv
  have HI6 := Lib.hid (on HI5.out HI5.out.size hb6)
  have HR1 := Lib.hid (HR1.out.kept hb6)
  have HR2 := Lib.hid R2
  have HG2 := Lib.hid G2
  have HT2 := Lib.hid hT2
  clear hb6 R2 G2 hT2 HO2
  have bZ : Below w6.heap.size w6 ((w6.alloc (.cells #[.int .i64 (W1 : Int), .slice (some ⟨q1, 0, none⟩) K1 K1, .int .i64 (T1 : Nat)] 37)).alloc (.cells #[.int .i64 (W2 : Int), .slice (some ⟨q2, 0, none⟩) K2 K2, .int .i64 (T2 : Nat)] 37)) := ((Below.refl _ w6).alloc (Nat.le_refl _) _).alloc (by simp) _
  have L1 : Lies ((w6.alloc (.cells #[.int .i64 (W1 : Int), .slice (some ⟨q1, 0, none⟩) K1 K1, .int .i64 (T1 : Nat)] 37)).alloc (.cells #[.int .i64 (W2 : Int), .slice (some ⟨q2, 0, none⟩) K2 K2, .int .i64 (T2 : Nat)] 37)) w6.heap.size 37 [.int .i64 (W1 : Int), .slice (some ⟨q1, 0, none⟩) K1 K1, .int .i64 (T1 : Nat)] := (Lies.new w6 37 [_, _, _]).kept (below_one _ _)
  have L2 : Lies ((w6.alloc (.cells #[.int .i64 (W1 : Int), .slice (some ⟨q1, 0, none⟩) K1 K1, .int .i64 (T1 : Nat)] 37)).alloc (.cells #[.int .i64 (W2 : Int), .slice (some ⟨q2, 0, none⟩) K2 K2, .int .i64 (T2 : Nat)] 37)) (w6.heap.size + 1) 37 [.int .i64 (W2 : Int), .slice (some ⟨q2, 0, none⟩) K2 K2, .int .i64 (T2 : Nat)] := by
    have := Lies.new (w6.alloc (.cells #[.int .i64 (W1 : Int), .slice (some ⟨q1, 0, none⟩) K1 K1, .int .i64 (T1 : Nat)] 37)) 37 [.int .i64 (W2 : Int), .slice (some ⟨q2, 0, none⟩) K2 K2, .int .i64 (T2 : Nat)]
    rw [World.size_alloc] at this; exact this
  have HI7 := Lib.hid (on HI6.out HI6.out.size bZ)
  have HR1 := Lib.hid (HR1.out.kept bZ)
  have HR2 := Lib.hid (HR2.out.kept bZ)
  have HL1 := Lib.hid L1
  have HL2 := Lib.hid L2
  clear L1 L2 bZ
  obtain ⟨w7, hw7⟩ : ∃ w7, (w6.alloc (.cells #[.int .i64 (W1 : Int), .slice (some ⟨q1, 0, none⟩) K1 K1, .int .i64 (T1 : Nat)] 37)).alloc (.cells #[.int .i64 (W2 : Int), .slice (some ⟨q2, 0, none⟩) K2 K2, .int .i64 (T2 : Nat)] 37) = w7 := ⟨_, rfl⟩
  go_upto_region 5 with fail
  rw [hw7] at HI7 HR1 HR2 HL1 HL2
  clear hw7
  have HB7 := Lib.hid (on HB4.out HB4.out.size HI7.out)
  have HST7 := Lib.hid (HST.out.kept HI7.out)
  have HMK7 := Lib.hid (HMK.out.kept HI7.out)
  have HLB7 := Lib.hid (HLB.out.kept HI7.out)
  have HTH7 : Hid (Things w7 A obs) := Lib.hid (by obtain ⟨B, cap, rts, hB⟩ := HMK7.out.heap; exact hB.own.things)
  have HCNT : Hid (obs.length = n') := Lib.hid (by obtain ⟨B, cap, rts, hB⟩ := HMK7.out.heap; exact hB.count)
  have hn6 : n' ≤ 65536 := by
    have h1 := len_sum (adr 0 obs)
    rw [adr_len, sumL_adr, HTOP.out, HCNT.out] at h1
    omega
  have hK2t : K2 = top := by rw [← HKE2.out, ← HW2.out]; omega
  have HK2T := Lib.hid hK2t
  have HINL : Hid (∀ x ∈ adr 0 obs, x.1 < top) := Lib.hid fun x hx => by have := adr_lt hx; rw [HTOP.out] at this; omega
  clear hK2t HST HMK HLB HI5 HI6 HB3 HB4
  have LLB := HLB7.out
  have y1 : w7.cell? ⟨w3.heap.size, 1, none⟩ = some (.slice A n' c) := LLB.cell 1
  clear LLB
  go_wp2
  go_loopw [46, 10] (fun i lq wq => ∃ (j : Nat) (B2 : Option Addr) (cp rn : Nat), j ≤ n' ∧ i = .int .i64 j ∧ lq = .slice B2 rn cp ∧ (stayR (Mk.bit ws) W1 0 ((adr 0 obs).take j)).length = rn ∧ Rv wq w7.heap.size B2 cp (stayR (Mk.bit ws) W1 0 ((adr 0 obs).take j)) ∧ Below w7.heap.size w7 wq) (fun i _ _ => n' - (intOf i).toNat)
  case atStart => exact ⟨0, none, 0, 0, Nat.zero_le _, rfl, rfl, rfl, Rv.nil _ _, Below.refl _ _⟩
  case round =>
    obtain ⟨j, B2, cp, rn, hj, rfl, rfl, hrn, RV, B11⟩ := hrel
    obtain ⟨wi, rfl⟩ : ∃ wi, wi = wr := ⟨_, rfl⟩
    have HB11 := Lib.hid B11
    by_cases hlt2 : j < n'
    · obtain ⟨o, ho⟩ : ∃ o, obs[j]? = some o := ⟨_, List.getElem?_eq_getElem (by rw [HCNT.out]; exact hlt2)⟩
      have hat : (adr 0 obs)[j]? = some (atI obs j, o) := by have := adr_at (a := 0) ho; rw [Nat.zero_add] at this; exact this
      obtain ⟨ad, Bx, cx, rfl, c0, c1, c2, c3, c4, -⟩ := (HTH7.out.kept B11).at_ ho
      have hlt3 := at_lt ho
      have hsl := stay_live (Mk.bit ws) W1 0 ((adr 0 obs).take j)
      have hl0 := live_le (Mk.bit ws) W1 0 obs j
      have hst := stay_more (Mk.bit ws) W1 0 ((adr 0 obs).take j) (atI obs j, o)
      rw [← take_more hat] at hst
      rw [HTOP.out] at hlt3 hl0
      obtain ⟨p, hp⟩ : ∃ p, atI obs j = p := ⟨_, rfl⟩
      obtain ⟨nl, hnl⟩ : ∃ nl, o.2.length = nl := ⟨_, rfl⟩
      obtain ⟨s0, hs0⟩ : ∃ s0, o.1 % 16 = s0 := ⟨_, rfl⟩
      obtain ⟨l0, hl0'⟩ : ∃ l0, o.1 / 65536 = l0 := ⟨_, rfl⟩
      obtain ⟨r0, hr0⟩ : ∃ r0, o.1 % 65536 / 16 = r0 := ⟨_, rfl⟩
      obtain ⟨kb, hkb⟩ : ∃ kb, keepB (Mk.bit ws) (p, o) = kb := ⟨_, rfl⟩
      obtain ⟨R, hR⟩ : ∃ R, stayR (Mk.bit ws) W1 0 ((adr 0 obs).take j) = R := ⟨_, rfl⟩
      have hs1 : 0 ≤ o.1 % 16 := Int.emod_nonneg _ (by omega)
      rw [hl0'] at c2
      rw [hp] at c0 hst hlt3
      rw [hs0] at c1
      rw [hr0] at c3
      rw [hnl] at c4
      have hd : p / W1 = 0 := Nat.div_eq_of_lt (by rw [← HW1.out]; omega)
      simp only [hkb, hd] at hst
      rw [hR] at hst hrn RV hsl
      have hrn6 : rn ≤ 65536 := by omega
      have hls : ∀ V, Mk.At V mg mw Z ws → Calls Try.prog 13 #[.pointer (some ⟨mg, 0, none⟩), .agg #[.int .i64 (p : Nat), .int .i64 s0, .int .i64 l0, .int .i64 r0, .slice Bx nl cx]] V fun e w' => e = .returned (.bool kb) ∧ Below V.heap.size V w' := fun V M => by
        have := lstays_any M p o Bx cx nl hs1
        rw [hs0, hl0', hr0, hkb] at this
        exact this
      have HLST := Lib.hid hls
      have HST2 := Lib.hid hst
      have HRV := Lib.hid RV
      have HRN := Lib.hid hrn
      clear hat hsl hst hp hnl hs0 hl0' hr0 hkb hR hs1 hls RV hrn B11 hd hl0
      have j0 : (0 : Int) ≤ (j : Int) := by omega
      have j1 : (j : Int) < (n' : Int) := by omega
      have bY := below_one wi (.cells #[.int .i64 (p : Nat), .int .i64 s0, .int .i64 l0, .int .i64 r0, .slice Bx nl cx] 44)
      have HBY := Lib.hid bY
      clear bY
      go_wp2_with fail
      refine (HLST.out _ ((HMK7.out.map.kept HB11.out).kept HBY.out)).mono ?_
      rintro e w12 ⟨rfl, hb12⟩
      have LO := (Lies.new wi 44 [.int .i64 (p : Nat), .int .i64 s0, .int .i64 l0, .int .i64 r0, .slice Bx nl cx]).kept hb12
      have u0 : w12.cell? ⟨wi.heap.size, 0, none⟩ = some (.int .i64 (p : Nat)) := LO.cell 0
      have HW12 := Lib.hid (on HBY.out HBY.out.size hb12)
      have HB12 := Lib.hid (on HB11.out HB11.out.size HW12.out)
      clear LO hb12 c0 c1 c2 c3 c4
      cases kb with
      | false =>
        go_wp2
        refine ⟨⟨j + 1, B2, cp, rn, by omega, by go_num, rfl, ?_, ?_, HB12.out⟩, by simp [intOf]; omega⟩
        · rw [HST2.out]; simpa using HRN.out
        · rw [HST2.out]; simpa using HRV.out.below HW12.out
      | true =>
        have RV12 := HRV.out.below HW12.out
        have RV6 := Lib.hid (RV12.below (below_one w12 (.cells #[.int .i64 (p : Nat)] 3)))
        have cc : (w12.alloc (.cells #[.int .i64 (p : Nat)] 3)).cell? ⟨w12.heap.size, 0, none⟩ = some (.int .i64 (p : Nat)) := (Lies.new w12 3 [.int .i64 (p : Nat)]).cell 0
        have B6 := Lib.hid (on HB12.out HB12.out.size (below_one w12 (.cells #[.int .i64 (p : Nat)] 3)))
        clear RV12
        go_wp2_with (at_builtin; (have RV7 := RV6.out); refine wpList_append_rv (row := R) rfl (.tmp 53) (.tmp 56) rfl (by rw [HRN.out]; rfl) RV7 B6.out.size (by rw [HRN.out]; omega) ⟨w12.heap.size, 0, none⟩ (p : Nat) rfl cc ?_; intro B7 cap7 w7' R7 G7 M7; have HR7 := Lib.hid R7; have HB7' := Lib.hid (B6.out.grown G7 B6.out.size (fun k e => (RV6.out.blk_lt e).1)); rw [HRN.out]; clear R7 G7 M7 RV6 B6 cc RV7)
        refine ⟨⟨j + 1, B7, cap7, rn + 1, by omega, by go_num, rfl, ?_, ?_, HB7'.out⟩, by simp [intOf]; omega⟩
        · rw [HST2.out]; simp [HRN.out]
        · rw [HST2.out]; simpa using HR7.out
    · obtain rfl : j = n' := by omega
      have hall : (adr 0 obs).take j = adr 0 obs := List.take_of_length_le (by rw [adr_len, HCNT.out]; exact Nat.le_refl _)
      rw [hall] at hrn RV
      have HRV := Lib.hid RV
      have HRN := Lib.hid hrn
      have HSTi := Lib.hid (HST7.out.kept B11)
      have LA := HL1.out.kept (B11)
      have LC := HL2.out.kept (B11)
      have t0 : wi.cell? ⟨w6.heap.size, 0, none⟩ = some (.int .i64 (W1 : Int)) := LA.cell 0
      have t1 : wi.cell? ⟨w6.heap.size, 1, none⟩ = some (.slice (some ⟨q1, 0, none⟩) K1 K1) := LA.cell 1
      have t2 : wi.cell? ⟨w6.heap.size, 2, none⟩ = some (.int .i64 (T1 : Nat)) := LA.cell 2
      have t3 : wi.cell? ⟨w6.heap.size + 1, 0, none⟩ = some (.int .i64 (W2 : Int)) := LC.cell 0
      have t4 : wi.cell? ⟨w6.heap.size + 1, 1, none⟩ = some (.slice (some ⟨q2, 0, none⟩) K2 K2) := LC.cell 1
      have t5 : wi.cell? ⟨w6.heap.size + 1, 2, none⟩ = some (.int .i64 (T2 : Nat)) := LC.cell 2
      clear LA LC
      clear RV hrn hall hlt2 hj B11
      go_wp2_with fail
      refine (top_n HSTi.out top HTOP.out).mono ?_
      rintro e w13 ⟨rfl, rfl⟩
      by_cases h0 : top = 0
      · have hk1 : K1 = 0 := by rw [← HKE1.out, ← HW1.out, h0]
        have hk2 : K2 = 0 := by rw [HK2T.out, h0]
        have e0 : ((top : Int) == 0) = true := by rw [h0]; rfl
        have e1 : ((K1 : Int) == 0) = true := by rw [hk1]; rfl
        have e2 : ((K2 : Int) == 0) = true := by rw [hk2]; rfl
        clear h0 hk1 hk2
        go_wp2_with fail
        refine (len_any _ W1 q1 K1 T1).mono ?_
        rintro e w14 ⟨rfl, hb14⟩
        have HB14 := Lib.hid (on HB11.out HB11.out.size hb14)
        have LA := HL1.out.kept (HB14.out)
        have LC := HL2.out.kept (HB14.out)
        have t0 : w14.cell? ⟨w6.heap.size, 0, none⟩ = some (.int .i64 (W1 : Int)) := LA.cell 0
        have t1 : w14.cell? ⟨w6.heap.size, 1, none⟩ = some (.slice (some ⟨q1, 0, none⟩) K1 K1) := LA.cell 1
        have t2 : w14.cell? ⟨w6.heap.size, 2, none⟩ = some (.int .i64 (T1 : Nat)) := LA.cell 2
        have t3 : w14.cell? ⟨w6.heap.size + 1, 0, none⟩ = some (.int .i64 (W2 : Int)) := LC.cell 0
        have t4 : w14.cell? ⟨w6.heap.size + 1, 1, none⟩ = some (.slice (some ⟨q2, 0, none⟩) K2 K2) := LC.cell 1
        have t5 : w14.cell? ⟨w6.heap.size + 1, 2, none⟩ = some (.int .i64 (T2 : Nat)) := LC.cell 2
        clear LA LC
        clear hb14
        go_wp2_with fail
        refine (len_any _ W2 q2 K2 T2).mono ?_
        rintro e w15 ⟨rfl, hb15⟩
        have HB15 := Lib.hid (on HB14.out HB14.out.size hb15)
        clear hb15 t0 t1 t2 t3 t4 t5
        go_wp2
        go_ret
        exact ⟨rfl, on HB7.out HB7.out.size HB15.out⟩
      · have e0 : ((top : Int) == 0) = false := by simp; omega
        have hk1 : K1 = 1 := by rw [← HKE1.out, ← HW1.out]; exact kdiv_one (by omega) htop6
        obtain ⟨x1, hx1, hrow1, hlive1, hfst1⟩ := HG1.out.2 0 (by omega)
        have HKL1 := HG1.out.1
        have HKL2 := Lib.hid HG2.out.1
        have hT2 : x1.live = T2 := by
          rw [HT2.out, hlive1, ← HW2.out, HK2T.out, in_many _ HINL.out]
          unfold liveR
          rw [in_one _ (fun x hx => by have := HINL.out x hx; rw [← HW1.out]; omega)]
        obtain ⟨R, hR⟩ : ∃ R, stayR (Mk.bit ws) W1 0 (adr 0 obs) = R := ⟨_, rfl⟩
        have hrn6 : rn ≤ 65536 := by
          have h1 := stay_live (Mk.bit ws) W1 0 (adr 0 obs)
          rw [← hlive1] at h1
          have h2 := first_le (Mk.bit ws) W2 (adr 0 obs) K2
          rw [← HT2.out, sumL_adr, HTOP.out] at h2
          have h3 := HRN.out
          omega
        have hrl1 : x1.row.length = rn := by rw [hrow1]; exact HRN.out
        have HS1 : ∀ V, Below w7.heap.size w7 V → Hid (Calls Try.prog 14 #[.agg #[.int .i64 (W1 : Int), .slice (some ⟨q1, 0, none⟩) K1 K1, .int .i64 (T1 : Nat)], .int .i64 0] V fun e w' => ∃ B2 cap2, e = .returned (.slice B2 rn cap2) ∧ Rv w' V.heap.size B2 cap2 R ∧ Below V.heap.size V w') := fun V hV => Lib.hid (by
          have := stays_any (HR1.out.kept hV) W1 K1 T1 0 HKL1 (by omega) x1 hx1 rn hrl1 hrn6
          rw [hrow1, hR] at this
          exact this)
        have HS2 : ∀ V, Below w7.heap.size w7 V → Hid (Calls Try.prog 15 #[.agg #[.int .i64 (W1 : Int), .slice (some ⟨q1, 0, none⟩) K1 K1, .int .i64 (T1 : Nat)], .int .i64 0] V fun e w' => e = .returned (.int .i64 (T2 : Nat)) ∧ Below V.heap.size V w') := fun V hV => Lib.hid (by
          have := live_any (HR1.out.kept hV) W1 K1 T1 0 HKL1 (by omega) x1 hx1
          rw [hT2] at this
          exact this)
        have RVR := HRV.out
        have hrr := HRN.out
        rw [hR] at RVR hrr
        have HRR := Lib.hid hR
        have HRV := Lib.hid RVR
        have HRN := Lib.hid hrr
        have f1 : ((K1 : Int) != 1) = false := by rw [hk1]; rfl
        have f2 : ((K2 : Int) != (top : Int)) = false := by rw [HK2T.out]; simp
        have f3 : ((rn : Int) != (rn : Int)) = false := by simp
        have f4 : ((T2 : Int) != (T2 : Int)) = false := by simp
        clear hk1 hx1 hrow1 hlive1 hfst1 HKL1 hT2 hR hrl1 RVR hrr h0
        go_wp2_with fail
        refine (HS1 _ HB11.out).out.mono ?_
        rintro e w16 ⟨B3, cap3, rfl, RV3, hb16⟩
        have HB16 := Lib.hid (on HB11.out HB11.out.size hb16)
        have HRV3 := Lib.hid RV3
        have HRV := Lib.hid (HRV.out.below hb16)
        have HST16 := Lib.hid (HSTi.out.kept hb16)
        have LA := HL1.out.kept (HB16.out)
        have LC := HL2.out.kept (HB16.out)
        have t0 : w16.cell? ⟨w6.heap.size, 0, none⟩ = some (.int .i64 (W1 : Int)) := LA.cell 0
        have t1 : w16.cell? ⟨w6.heap.size, 1, none⟩ = some (.slice (some ⟨q1, 0, none⟩) K1 K1) := LA.cell 1
        have t2 : w16.cell? ⟨w6.heap.size, 2, none⟩ = some (.int .i64 (T1 : Nat)) := LA.cell 2
        have t3 : w16.cell? ⟨w6.heap.size + 1, 0, none⟩ = some (.int .i64 (W2 : Int)) := LC.cell 0
        have t4 : w16.cell? ⟨w6.heap.size + 1, 1, none⟩ = some (.slice (some ⟨q2, 0, none⟩) K2 K2) := LC.cell 1
        have t5 : w16.cell? ⟨w6.heap.size + 1, 2, none⟩ = some (.int .i64 (T2 : Nat)) := LC.cell 2
        clear LA LC
        clear RV3 hb16
        go_upto_region 15 with fail
        go_cut [95] from 72 to 94 (fun v wx => v = .bool false ∧ Below w16.heap.size w16 wx)
        case first =>
          have HTN := Lib.hid (show ∀ V, Below w16.heap.size w16 V → Calls Try.prog 12 #[.pointer (some ⟨g, 0, none⟩)] V fun e w' => e = .returned (.int .i64 (top : Int)) ∧ Below V.heap.size V w' from fun V hV => (top_n (HST16.out.kept hV) top HTOP.out).mono fun e w' h => ⟨h.1, by rw [← h.2]; exact Below.refl _ _⟩)
          have HL15 := Lib.hid (show ∀ V, Below w16.heap.size w16 V → Calls Try.prog 15 #[.agg #[.int .i64 (W1 : Int), .slice (some ⟨q1, 0, none⟩) K1 K1, .int .i64 (T1 : Nat)], .int .i64 0] V fun e w' => e = .returned (.int .i64 (T2 : Nat)) ∧ Below V.heap.size V w' from fun V hV => (HS2 _ (on HB16.out HB16.out.size hV)).out)
          have hb0 : Below w16.heap.size w16 w16.drew := (Below.refl _ w16).drew
          have I0 := Lib.hid (show Below w16.heap.size w16 w16.drew ∧ w16.drew.cell? ⟨w6.heap.size, 0, none⟩ = some (.int .i64 (W1 : Int)) ∧ w16.drew.cell? ⟨w6.heap.size, 1, none⟩ = some (.slice (some ⟨q1, 0, none⟩) K1 K1) ∧ w16.drew.cell? ⟨w6.heap.size, 2, none⟩ = some (.int .i64 (T1 : Nat)) ∧ w16.drew.cell? ⟨w6.heap.size + 1, 0, none⟩ = some (.int .i64 (W2 : Int)) ∧ w16.drew.cell? ⟨w6.heap.size + 1, 1, none⟩ = some (.slice (some ⟨q2, 0, none⟩) K2 K2) ∧ w16.drew.cell? ⟨w6.heap.size + 1, 2, none⟩ = some (.int .i64 (T2 : Nat)) from ⟨hb0, t0, t1, t2, t3, t4, t5⟩)
          go_region_held3 (fun W => Below w16.heap.size w16 W ∧ W.cell? ⟨w6.heap.size, 0, none⟩ = some (.int .i64 (W1 : Int)) ∧ W.cell? ⟨w6.heap.size, 1, none⟩ = some (.slice (some ⟨q1, 0, none⟩) K1 K1) ∧ W.cell? ⟨w6.heap.size, 2, none⟩ = some (.int .i64 (T1 : Nat)) ∧ W.cell? ⟨w6.heap.size + 1, 0, none⟩ = some (.int .i64 (W2 : Int)) ∧ W.cell? ⟨w6.heap.size + 1, 1, none⟩ = some (.slice (some ⟨q2, 0, none⟩) K2 K2) ∧ W.cell? ⟨w6.heap.size + 1, 2, none⟩ = some (.int .i64 (T2 : Nat)))
            (repeat (first | exact I0.out | refine hold6 (by assumption) ?_))
            ((first
            | (go_at_call 11; refine (len_any _ W1 q1 K1 T1).mono ?_; rintro e W3 ⟨rfl, hk⟩)
            | (go_at_call 11; refine (len_any _ W2 q2 K2 T2).mono ?_; rintro e W3 ⟨rfl, hk⟩)
            | (go_at_call 12; refine (HTN.out _ (And.left (by assumption))).mono ?_; rintro e W5 ⟨rfl, hk⟩)
            | (go_at_call 15; refine (HL15.out _ (And.left (by assumption))).mono ?_; rintro e W5 ⟨rfl, hk⟩)
            | (go_at_call 18; refine (total_any _ W2 q2 K2 T2).mono ?_; rintro e W3 ⟨rfl, hk⟩)))
          all_goals (go_wp2_with fail; go_meet; (rename_i hh; exact ⟨rfl, hh.1⟩))
        case rest =>
        obtain ⟨rfl, hc⟩ := hcut
        have HC := Lib.hid hc
        clear hc t0 t1 t2 t3 t4 t5 f1 f2 f3 f4
        go_wp2
        go_loopw [98] (fun i wz => ∃ j : Nat, j ≤ rn ∧ i = .int .i64 j ∧ Below w16.heap.size w16 wz) (fun i _ => rn - (intOf i).toNat)
        case atStart => exact ⟨0, Nat.zero_le _, rfl, HC.out⟩
        case round =>
          obtain ⟨i, hi, rfl, B17⟩ := hrel
          obtain ⟨wz, rfl⟩ : ∃ wz, wz = wr := ⟨_, rfl⟩
          have HBz := Lib.hid (on HB16.out HB16.out.size B17)
          have RVl := HRV.out.below B17
          have RVg := HRV3.out.below B17
          have HB17 := Lib.hid B17
          have LA := HL1.out.kept (HBz.out)
          have LC := HL2.out.kept (HBz.out)
          have t0 : wz.cell? ⟨w6.heap.size, 0, none⟩ = some (.int .i64 (W1 : Int)) := LA.cell 0
          have t1 : wz.cell? ⟨w6.heap.size, 1, none⟩ = some (.slice (some ⟨q1, 0, none⟩) K1 K1) := LA.cell 1
          have t2 : wz.cell? ⟨w6.heap.size, 2, none⟩ = some (.int .i64 (T1 : Nat)) := LA.cell 2
          have t3 : wz.cell? ⟨w6.heap.size + 1, 0, none⟩ = some (.int .i64 (W2 : Int)) := LC.cell 0
          have t4 : wz.cell? ⟨w6.heap.size + 1, 1, none⟩ = some (.slice (some ⟨q2, 0, none⟩) K2 K2) := LC.cell 1
          have t5 : wz.cell? ⟨w6.heap.size + 1, 2, none⟩ = some (.int .i64 (T2 : Nat)) := LC.cell 2
          clear LA LC
          clear B17
          by_cases hlt : i < rn
          · have i0 : (0 : Int) ≤ (i : Int) := by omega
            have i1 : (i : Int) < (rn : Int) := by omega
            have hil : i < R.length := by rw [HRN.out]; exact hlt
            have hmem : R.getD i 0 ∈ stayR (Mk.bit ws) W1 0 (adr 0 obs) := by
              rw [HRR.out, List.getD_eq_getElem?_getD, List.getElem?_eq_getElem hil]
              exact List.getElem_mem hil
            obtain ⟨a, ea, o, hao, hkp⟩ := stay_at2 hmem
            have hat := HINL.out _ hao
            obtain ⟨x2, hx2, hrow2, -, -⟩ := HG2.out.2 a (by rw [HK2T.out]; exact hat)
            have hrow3 : x2.row = [(a : Int)] := by
              rw [hrow2, ← HW2.out]
              unfold stayR
              rw [alone _ hao hkp]; rfl
            obtain ⟨u, hu⟩ : ∃ u : Nat, 1 = u := ⟨_, rfl⟩
            have hst := stays_any (HR2.out.kept HBz.out) W2 K2 T2 a HKL2.out (by rw [HK2T.out]; exact htop6) x2 hx2 u (by rw [hrow3, ← hu]; rfl) (by omega)
            rw [hrow3] at hst
            have HS3 := Lib.hid hst
            obtain ⟨adl, ql, rfl, -, cl, -⟩ := RVl.at_ hil
            rw [ea] at cl
            have HRVG := Lib.hid RVg
            have HEA := Lib.hid ea
            have HIL := Lib.hid hil
            have g1 : ((a : Int) != (a : Int)) = false := by simp
            have g2 : ((u : Int) != 1) = false := by rw [← hu]; rfl
            have g3 : (0 : Int) < (u : Int) := by omega
            clear hmem ea hao hkp hat hx2 hrow2 hrow3 hu hst RVl RVg hil
            go_wp2_with fail
            refine HS3.out.mono ?_
            rintro e w20 ⟨B5, cap5, rfl, RV5, hb20⟩
            obtain ⟨ad3, q3, rfl, -, cg, -⟩ := (HRVG.out.below hb20).at_ HIL.out
            obtain ⟨ad5, q5, rfl, rfl, c5, -⟩ := RV5.at_ (show 0 < [(a : Int)].length by simp)
            rw [HEA.out] at cg
            rw [add_at] at c5
            have c6 : w20.cell? ⟨q5, 0, none⟩ = some (.int .i64 (a : Int)) := c5
            have HB20 := Lib.hid (on HB17.out HB17.out.size hb20)
            clear c5 RV5 hb20 t0 t1 t2 t3 t4 t5 cl HS3
            go_wp2
            exact ⟨⟨i + 1, by omega, by go_num, HB20.out⟩, by simp [intOf]; omega⟩
          · obtain rfl : i = rn := by omega
            clear RVl RVg t0 t1 t2 t3 t4 t5
            go_wp2
            go_ret
            exact ⟨rfl, on HB7.out HB7.out.size HBz.out⟩

end Go.Proofs.Ythjbechbioeglaa
