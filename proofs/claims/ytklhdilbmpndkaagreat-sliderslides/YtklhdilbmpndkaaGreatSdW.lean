/- Slide: the heap of what stays. -/
import Derived.Test.YtklhdilbmpndkaaGreatKb
import Derived.Test.YtklhdilbmpndkaaGreatHc
import Derived.Test.YtklhdilbmpndkaaGreatJe
import Derived.Deep.RegionLaw
import Derived.Deep.DeepCutAuto
import Derived.BigQuiet
namespace Go.Proofs.YtklhdilbmpndkaaGreat
set_option maxRecDepth 20000
open Go.RowKit Go.Sort
set_option linter.unusedVariables false
set_option linter.unusedSimpArgs false


/-- Numbers in a row of the call's own. -/
theorem ow_lies {w : World} {base n cap g : Nat} {ys : List Int} (h : w.ownsRow base 3 1 (.slice (some ⟨g, 0, none⟩) n cap) n (ys.map (Value.int .i64))) : ∃ cs, Lies w g 3 cs ∧ base ≤ g ∧ n ≤ cap ∧ cap ≤ maxLen ∧ cs.length = cap ∧ cs.take n = ys.map (Value.int .i64) := by
  rcases h.2 with ⟨e, _⟩ | ⟨g', cap', cur, e, h1, h2, h3, h4, h5, h6⟩
  · cases e
  · injection e with e1 e2 e3
    injection e1 with e1
    injection e1 with e1
    subst e1; subst e3
    exact ⟨cur.toList, by unfold Lies; simpa using h2, h1, h3, h4, by simpa using h5, by simpa using h6⟩
theorem ow_cell {w : World} {base n cap g j : Nat} {ys : List Int} {z : Int} (h : w.ownsRow base 3 1 (.slice (some ⟨g, 0, none⟩) n cap) n (ys.map (Value.int .i64))) (hj : ys[j]? = some z) : w.cell? ⟨g, j, none⟩ = some (.int .i64 z) ∧ w.frozen? ⟨g, j, none⟩ = false ∧ g < w.heap.size := by
  obtain ⟨cs, h1, _, _, _, h5, h6⟩ := ow_lies h
  refine ⟨?_, h1.frozen j, h1.lt⟩
  rw [h1.cell]
  have hl : j < ys.length := (List.getElem?_eq_some_iff.1 hj).1
  have : (cs.take n)[j]? = some (.int .i64 z) := by rw [h6, List.getElem?_map, hj]; rfl
  rw [List.getElem?_take] at this
  split at this
  · exact this
  · cases this
theorem ow_set {w : World} {base n cap g j : Nat} {ys : List Int} {z : Int} (h : w.ownsRow base 3 1 (.slice (some ⟨g, 0, none⟩) n cap) n (ys.map (Value.int .i64))) (hj : j < n) : (w.setCell ⟨g, j, none⟩ (.int .i64 z)).ownsRow base 3 1 (.slice (some ⟨g, 0, none⟩) n cap) n ((ys.set j z).map (Value.int .i64)) := by
  obtain ⟨cs, h1, h2, h3, h4, h5, h6⟩ := ow_lies h
  refine ⟨by have := h.1; simpa using this, .inr ⟨g, cap, (cs.set j (.int .i64 z)).toArray, rfl, h2, h1.set j _, h3, h4, by simp [h5], ?_⟩⟩
  simp only [List.toList_toArray, Nat.mul_one]
  rw [List.take_set, h6, List.map_set]

set_option maxRecDepth 1000000 in
set_option maxHeartbeats 4000000 in
theorem slide_any {w : World} {A : Option Addr} {obs : List Ob} {st : List Bool} {f : Nat → Bool} (s : Int) (n c q : Nat) (hf : Fine obs) (h : Things w A obs) (hn : obs.length = n) (hm : (flat obs).length ≤ 65536) (hq : Lies w q 4 (st.map Value.bool)) (hst : Stb st f obs) (hr : rightB f (adr 0 obs) = true) (hcl : Clean obs) :
    Calls Tryz.prog 19 #[.agg #[.int .i64 s, .slice A n c], .slice (some ⟨q, 0, none⟩) n n] w fun e w' => ∃ A2 n2 c2, e = .returned (.agg #[.int .i64 s, .slice A2 n2 c2]) ∧ (newF f obs).length = n2 ∧ Things w' A2 (newF f obs) ∧ Below w.heap.size w w' := by
  have HH := Lib.hid h
  have HF := Lib.hid hf
  have HN := Lib.hid hn
  have HM := Lib.hid hm
  have HQ := Lib.hid hq
  have HST := Lib.hid hst
  have HR := Lib.hid hr
  have HCL := Lib.hid hcl
  have hn6 : n ≤ 65536 := by have := count_le obs; omega
  obtain ⟨w1, hw1⟩ : ∃ w1, (w.alloc (.cells #[.int .i64 s, .slice A n c] 34)).alloc (.cells #[.int .i64 0, .slice none 0 0] 34) = w1 := ⟨_, rfl⟩
  have b1 : Below w.heap.size w w1 := by rw [← hw1]; exact ((Below.refl _ w).alloc (Nat.le_refl _) _).alloc (by simp) _
  have LX : Lies w1 w.heap.size 34 [.int .i64 s, .slice A n c] := by rw [← hw1]; exact (Lies.new w 34 [_, _]).alloc _
  have LR : Lies w1 (w.heap.size + 1) 34 [.int .i64 0, .slice none 0 0] := by
    have := Lies.new (w.alloc (.cells #[.int .i64 s, .slice A n c] 34)) 34 [.int .i64 0, .slice none 0 0]
    rw [World.size_alloc] at this; rw [← hw1]; exact this
  have hs1 : w1.heap.size = w.heap.size + 2 := by rw [← hw1]; simp
  have HW1 := Lib.hid hw1
  have y0 : w1.cell? ⟨w.heap.size, 0, none⟩ = some (.int .i64 s) := LX.cell 0
  have HLX1 := Lib.hid LX
  have HLR1 := Lib.hid LR
  have HB1 := Lib.hid b1
  have HS1 := Lib.hid hs1
  clear h hf hn hm hq hst hr hcl hw1 LX LR b1 hs1
  go_enter Tryz.func19, Tryz.ntmps19
  go_upto_region 1 with fail
  rw [HW1.out]
  obtain ⟨w2, hw2⟩ : ∃ w2, w1.alloc (.cells #[.int .i64 s, .slice none 0 0] 34) = w2 := ⟨_, rfl⟩
  have b2 := below_one w1 (.cells #[.int .i64 s, .slice none 0 0] 34)
  have LO : Lies w2 w1.heap.size 34 [.int .i64 s, .slice none 0 0] := by rw [← hw2]; exact Lies.new w1 34 [_, _]
  rw [hw2] at b2
  have hs2 : w2.heap.size = w.heap.size + 3 := by rw [← hw2, World.size_alloc, HS1.out]
  have HW2 := Lib.hid hw2
  have HLX2 := Lib.hid (HLX1.out.kept b2)
  have HLR2 := Lib.hid (HLR1.out.kept b2)
  have HB2 := Lib.hid (on HB1.out HB1.out.size b2)
  have HS2 := Lib.hid hs2
  rw [HS1.out] at LO
  have HLO2 := Lib.hid LO
  clear b2 LO hw2 hs2
  go_upto_region 2 with fail
  obtain ⟨bx, hbx⟩ : ∃ bx, w.heap.size = bx := ⟨_, rfl⟩
  have HBX := Lib.hid hbx
  rw [HW2.out, HS1.out, HBX.out]
  rw [hbx] at HLX2 HLR2 HLO2
  have z1 : w2.cell? ⟨bx, 1, none⟩ = some (.slice A n c) := HLX2.out.cell 1
  clear y0 hbx
  go_wp2_with fail
  go_loopw [18] (fun i wr => ∃ (k n2 c2 : Nat) (A2 : Option Addr) (xs : List Value), k ≤ n ∧ i = .int .i64 (k : Nat) ∧ Lies wr (bx + 2) 34 [.int .i64 s, .slice A2 n2 c2] ∧ (newP f obs k).length = n2 ∧ Owned wr w2.heap.size A2 n2 c2 (newP f obs k) xs ∧ Lies wr bx 34 [.int .i64 s, .slice A n c] ∧ Lies wr (bx + 1) 34 [.int .i64 0, .slice none 0 0] ∧ Below bx w wr) (fun i _ => n - (intOf i).toNat)
  case atStart => exact ⟨0, 0, 0, none, [], Nat.zero_le _, rfl, HLO2.out, by rw [newP_zero]; rfl, by rw [newP_zero]; exact ⟨⟨rfl, .inl ⟨rfl, rfl⟩⟩, rfl⟩, HLX2.out, HLR2.out, by have := HB2.out; rw [HBX.out] at this; exact this⟩
  case round =>
    obtain ⟨k, n2, c2, A2, xs, hk, rfl, hLo, hn2, hO, hLx, hLr, hb⟩ := hrel
    obtain ⟨wN, rfl⟩ : ∃ wN, wN = wr := ⟨_, rfl⟩
    have HLo := Lib.hid hLo
    have HN2 := Lib.hid hn2
    have HO := Lib.hid hO
    have HLx := Lib.hid hLx
    have HLr := Lib.hid hLr
    have HB := Lib.hid hb
    have HBW := Lib.hid (show Below w.heap.size w wN by rw [HBX.out]; exact hb)
    clear hLo hn2 hO hLx hLr hb z1
    by_cases hkn : k < n
    · obtain ⟨o, ho⟩ : ∃ o, obs[k]? = some o := ⟨_, List.getElem?_eq_getElem (by rw [HN.out]; exact hkn)⟩
      have HOK := Lib.hid ho
      have HSU := Lib.hid (newP_succ (f := f) ho)
      obtain ⟨b, hbk⟩ : ∃ b, keepB f (atI obs k, o) = b := ⟨_, rfl⟩
      have HKB := Lib.hid hbk
      have cq : wN.cell? ⟨q, k, none⟩ = some (.bool b) := by
        rw [(HQ.out.kept HBW.out).cell, List.getElem?_map, HST.out.at_ k o ho, hbk]; rfl
      have eq1 : (⟨q, 0, none⟩ : Addr).add k = ⟨q, k, none⟩ := add_at _ _
      have i0 : (0 : Int) ≤ (k : Int) := by omega
      have i1 : (k : Int) < (n : Int) := by omega
      clear ho hbk
      cases b with
      | false =>
        go_wp2_with fail
        refine ⟨⟨k + 1, n2, c2, A2, xs, by omega, by go_num, HLo.out, ?_, ?_, HLx.out, HLr.out, HB.out⟩, by simp [intOf]; omega⟩
        · rw [HSU.out, if_neg (by rw [HKB.out]; simp)]; exact HN2.out
        · rw [HSU.out, if_neg (by rw [HKB.out]; simp)]; exact HO.out
      | true =>
        obtain ⟨ad, B1, cc, e1, c0, c1, c2', c3, c4, hrow, ⟨bd, ebd⟩, hadlt⟩ := (HH.out.kept HBW.out).at_ HOK.out
        subst e1; subst ebd
        have z1 : wN.cell? ⟨bx, 1, none⟩ = some (.slice (some ad) n c) := HLx.out.cell 1
        have HROW := Lib.hid hrow
        obtain ⟨p, hp⟩ : ∃ p, atI obs k = p := ⟨_, rfl⟩
        have HP := Lib.hid hp
        rw [hp] at c0
        obtain ⟨k1, hk1⟩ : ∃ x, o.1 % 16 = x := ⟨_, rfl⟩
        obtain ⟨k2, hk2⟩ : ∃ x, o.1 / 65536 = x := ⟨_, rfl⟩
        obtain ⟨k3, hk3⟩ : ∃ x, o.1 % 65536 / 16 = x := ⟨_, rfl⟩
        rw [hk1] at c1
        rw [hk2] at c2'
        rw [hk3] at c3
        obtain ⟨len, hlen⟩ : ∃ len, o.2.length = len := ⟨_, rfl⟩
        rw [hlen] at c4
        have HKK := Lib.hid (And.intro hk1 (And.intro hk2 (And.intro hk3 hlen)))
        clear hk1 hk2 hk3 hlen hrow hp
        go_upto_region 6 with fail
        have bX := below_one wN (.cells #[.int .i64 (p : Nat), .int .i64 k1, .int .i64 k2, .int .i64 k3, .slice (some bd) len cc] 66)
        have HLZ := Lib.hid (show Lies (wN.alloc (.cells #[.int .i64 (p : Nat), .int .i64 k1, .int .i64 k2, .int .i64 k3, .slice (some bd) len cc] 66)) wN.heap.size 66 [.int .i64 (p : Nat), .int .i64 k1, .int .i64 k2, .int .i64 k3, .slice (some bd) len cc] from Lies.new wN 66 [_, _, _, _, _])
        obtain ⟨wa, hwa⟩ : ∃ wa, wN.alloc (.cells #[.int .i64 (p : Nat), .int .i64 k1, .int .i64 k2, .int .i64 k3, .slice (some bd) len cc] 66) = wa := ⟨_, rfl⟩
        rw [hwa] at bX HLZ
        have HWA := Lib.hid hwa
        have HBX2 := Lib.hid bX
        have HROWa := Lib.hid (HROW.out.kept bX)
        obtain ⟨f1, f2, f3, f4, f5⟩ := ob_fine HF.out _ (List.mem_of_getElem? (adr_atI HOK.out))
        obtain ⟨pt, hpt⟩ : ∃ pt, ptrs o.1 = pt := ⟨_, rfl⟩
        have e3 : k3 = (pt : Int) := by
          have h1 : o.1 % 65536 / 16 = (ptrs o.1 : Nat) := f3
          rw [HKK.out.2.2.1, hpt] at h1; exact h1
        subst e3
        have hptl : pt ≤ len := by
          have h1 : ptrs o.1 ≤ o.2.length := f4
          rw [hpt, HKK.out.2.2.2] at h1; exact h1
        have hlen5 : len ≤ 4095 := by
          have h1 : o.2.length ≤ 4095 := f2
          rw [HKK.out.2.2.2] at h1; exact h1
        have HPT := Lib.hid hpt
        have HOB := Lib.hid (And.intro f1 f5)
        clear bX hwa f1 f2 f3 f4 f5 hpt
        have hwB : w2.heap.size ≤ wa.heap.size := by
          have h1 := HS2.out; have h2 := HBX.out; have h3 := HLo.out.lt; have h4 := HBX2.out.size; omega
        have ON := Lib.hid (own_new (B := wa.heap.size) wa (Nat.le_refl _))
        have CC := Lib.hid (show ∀ j u, (o.2.map (Value.int .i64))[j]? = some u → (wa.alloc (.cells #[] 3)).cell? (bd.add j) = some u from fun j u hu => by
          have hj : j < o.2.length := by have := (List.getElem?_eq_some_iff.1 hu).1; simpa using this
          obtain ⟨ad', e, _, hc⟩ := (HROWa.out.kept (below_one wa (.cells #[] 3))) (by omega)
          injection e with e
          subst e
          exact hc j u hu)
        have cz4 : (wa.alloc (.cells #[] 3)).cell? ⟨wN.heap.size, 4, none⟩ = some (.slice (some bd) len cc) := (HLZ.out.alloc _).cell 4
        obtain ⟨i0, z0, hi, hz, hs, hby, hzc, hzc2⟩ := info_3v
        clear hwB
        go_upto_region 7 with fail
        rw [HWA.out]
        go_upto_region 8 with (at_builtin; refine wpList_append_own _ rfl (.tmp 31) (.tmp 33) 30 rfl wa.heap.size 3 i0 z0 1 8 Tryz.underlying30 hi hz hs hby hzc (by decide) _ 0 [] rfl ON.out bd len cc (o.2.map (Value.int .i64)) rfl (by simp [HKK.out.2.2.2]) CC.out (ints_oneCell _ _) (by unfold maxLen; omega) (by omega) (by simp) ?_; intro v6 w6 O6 G6 N6; rw [Nat.zero_add, List.nil_append] at O6; (obtain ⟨g6, cap6, e6⟩ : ∃ g6 cap6, v6 = .slice (some ⟨g6, 0, none⟩) len cap6 := by (rcases O6.2 with ⟨e, _⟩ | ⟨g, cap', _, e, _⟩; exact absurd (N6.1 e).1 (by intro h; cases h); exact ⟨g, cap', e⟩)); subst e6; have HO6 := Lib.hid O6; have HB6 := Lib.hid ((on HBX2.out HBX2.out.size (below_one wa (.cells #[] 3))).grown G6 (on HBX2.out HBX2.out.size (below_one wa (.cells #[] 3))).size (fun k e => by injection e with e; have h4 := HBX2.out.size; show wN.heap.size ≤ k; rw [← e]; exact h4)); have HLZ6 := Lib.hid ((HLZ.out.kept (below_one wa (.cells #[] 3))).of_block (G6.block _ (HLZ.out.kept (below_one wa (.cells #[] 3))).lt (fun e => by have h5 := HLZ.out.lt; injection e with e; exact absurd e.symm (by show wa.heap.size ≠ wN.heap.size; omega)))); clear O6 G6 N6)
        have HK2 := Lib.hid (And.intro hkn hn6)
        have HPL := Lib.hid hptl
        clear c0 c1 c2' c3 c4 z1 cq eq1 i0 CC cz4 hi hz hs hby hzc hzc2 HROWa
        have HRW := Lib.hid (fun j (hj : j < pt) => right_word (j := j) HR.out HOK.out HKB.out (by rw [HPT.out]; exact hj) (by rw [HPT.out, HKK.out.2.2.2]; exact HPL.out))
        have HLO' := Lib.hid HLo.out.lt
        go_wp2_with fail
        obtain ⟨bz, hbz⟩ : ∃ bz, wN.heap.size = bz := ⟨_, rfl⟩
        rw [hbz] at HLZ6
        have HBZ := Lib.hid hbz
        rw [HBZ.out]
        clear hbz
        go_loopw [9] (fun i wr => ∃ j : Nat, j ≤ pt ∧ i = .int .i64 (j : Nat) ∧ wr.ownsRow wa.heap.size 3 1 (.slice (some ⟨g6, 0, none⟩) len cap6) len ((turnW f obs o.2 j).map (Value.int .i64)) ∧ Below wN.heap.size wN wr ∧ Lies wr bz 66 [.int .i64 (p : Nat), .int .i64 k1, .int .i64 k2, .int .i64 (pt : Int), .slice (some bd) len cc]) (fun i _ => pt - (intOf i).toNat)
        case atStart => exact ⟨0, Nat.zero_le _, rfl, by rw [turnW_zero]; exact HO6.out, HB6.out, HLZ6.out⟩
        case round =>
          obtain ⟨j, hj, rfl, hO7, hb7, hLz⟩ := hrel
          have HO7 := Lib.hid hO7
          have HB7 := Lib.hid hb7
          have HLZ7 := Lib.hid hLz
          have HBW7 := Lib.hid (on HBW.out HBW.out.size hb7)
          have HLx7 := Lib.hid (HLx.out.kept hb7)
          have zz3 : wr.cell? ⟨bz, 3, none⟩ = some (.int .i64 (pt : Int)) := hLz.cell 3
          have y0 : wr.cell? ⟨bx, 0, none⟩ = some (.int .i64 s) := HLx7.out.cell 0
          have y1 : wr.cell? ⟨bx, 1, none⟩ = some (.slice (some ad) n c) := HLx7.out.cell 1
          clear hO7 hb7 hLz
          by_cases hjp : j < pt
          · have hjl : j < o.2.length := by rw [HKK.out.2.2.2]; have := HPL.out; omega
            obtain ⟨z, hzz⟩ : ∃ z, o.2.getD j 0 = z := ⟨_, rfl⟩
            have hcell := ow_cell HO7.out (turnW_get (f := f) (obs := obs) hjl)
            rw [hzz] at hcell
            have y2 : wr.cell? ⟨g6, j, none⟩ = some (.int .i64 z) := hcell.1
            have HZZ := Lib.hid hzz
            have HJL := Lib.hid hjl
            have hok := HRW.out j hjp
            rw [hzz] at hok
            have hinz : InR z := by
              rw [← hzz]
              have : o.2.getD j 0 = o.2[j] := by rw [List.getD_eq_getElem?_getD, List.getElem?_eq_getElem hjl]; rfl
              rw [this]
              exact (HCL.out o (List.mem_of_getElem? HOK.out)).1 _ (List.getElem_mem hjl)
            obtain ⟨v, hv⟩ : ∃ v, mvW f (adr 0 obs) z = v := ⟨_, rfl⟩
            have HV := Lib.hid hv
            have HWD := Lib.hid (fun V (hV : Below wr.heap.size wr V) => by
              have h1 := dword_any (w := V) s n c q z hinz HF.out (HH.out.kept (on HBW7.out HBW7.out.size hV)) HN.out HM.out (HQ.out.kept (on HBW7.out HBW7.out.size hV)) HST.out
              rw [hok, if_pos rfl, hv] at h1
              exact h1)
            have ea : (⟨g6, 0, none⟩ : Addr).add j = ⟨g6, j, none⟩ := add_at _ _
            have j0 : (0 : Int) ≤ (j : Int) := by omega
            have j1 : (j : Int) < (len : Int) := by have := HPL.out; omega
            clear hjl hzz hcell hok hinz hv
            go_upto_region 11 with fail
            have hmx : Tryz.prog.follows .mixedOrders = true := by kernel_rfl
            have y0 : ∀ d os, (grow (redrawn wr d) os).cell? ⟨bx, 0, none⟩ = some (.int .i64 s) := fun d os => cell_regrown y0 d os
            have y1 : ∀ d os, (grow (redrawn wr d) os).cell? ⟨bx, 1, none⟩ = some (.slice (some ad) n c) := fun d os => cell_regrown y1 d os
            have y2 : ∀ d os, (grow (redrawn wr d) os).cell? ⟨g6, j, none⟩ = some (.int .i64 z) := fun d os => cell_regrown y2 d os
            have c0 : ∀ d os, Hid (Calls Tryz.prog 20 #[.agg #[.int .i64 s, .slice (some ad) n c], .slice (some ⟨q, 0, none⟩) n n, .int .i64 z] (grow (redrawn wr d) os) fun e w' => e = .returned (.tuple #[.int .i64 v, .bool true]) ∧ Below (grow (redrawn wr d) os).heap.size (grow (redrawn wr d) os) w') := fun d os => Lib.hid (HWD.out _ (below_regrown wr d os))
            refine wp_region_quiet_below hmx (by kernel_rfl) ?_
            repeat (with_reducible refine wpQuiet_step ?_; intro K hK; go_simp; first | (with_reducible refine hK _ ?_; clear hK K) | (with_reducible apply Exists.intro; with_reducible refine ⟨fun _ => ?_, hK _ ?_⟩; (first | (with_reducible exact Calls.regrown_of (c0 _ _).out)); clear hK K))
            with_reducible refine wpQuiet_nil ?_
            rintro wq ⟨pp, rfl⟩
            have hq := below_regrown wr pp.d pp.os
            generalize grow (redrawn wr pp.d) pp.os = wq at *
            have HO8 := Lib.hid (owns_any HO7.out hq)
            have hc8 := ow_cell HO8.out (turnW_get (f := f) (obs := obs) HJL.out)
            rw [HZZ.out] at hc8
            have x2 := hc8.1
            have x3 := hc8.2.1
            have x4 := hc8.2.2
            have HB8 := Lib.hid (on HB7.out HB7.out.size hq)
            have HLZ8 := Lib.hid (HLZ7.out.kept hq)
            have HG6 : Hid (bz < g6) := Lib.hid (by obtain ⟨_, _, h1, _⟩ := ow_lies HO8.out; have h2 := HLZ.out.lt; have h3 := HBZ.out; omega)
            clear hc8 zz3
            go_wp2_with fail
            refine ⟨⟨j + 1, by omega, by go_num, ?_, ?_, ?_⟩, by simp [intOf]; omega⟩
            · have h9 := ow_set (z := v) HO8.out (j := j) (by have := HPL.out; omega)
              rw [← HV.out, ← HZZ.out, turnW_set HJL.out] at h9
              rw [← HV.out, ← HZZ.out]
              exact h9
            · exact HB8.out.setCell (p := ⟨g6, j, none⟩) (by rw [HBZ.out]; exact Nat.le_of_lt HG6.out) _
            · exact HLZ8.out.far (p := ⟨g6, j, none⟩) (Nat.ne_of_lt HG6.out) _
          · obtain rfl : j = pt := by omega
            have z1 : wr.cell? ⟨bx + 2, 1, none⟩ = some (.slice A2 n2 c2) := (HLo.out.kept HB7.out).cell 1
            have zz1 : wr.cell? ⟨bz, 1, none⟩ = some (.int .i64 k1) := HLZ7.out.cell 1
            have zz2 : wr.cell? ⟨bz, 2, none⟩ = some (.int .i64 k2) := HLZ7.out.cell 2
            obtain ⟨E, hE⟩ : ∃ E, endS f obs k = E := ⟨_, rfl⟩
            have HE := Lib.hid hE
            have HTO := Lib.hid (fun V (hV : Below wr.heap.size wr V) => by
              have h1 := dto_any (w := V) s n c q k HF.out (HH.out.kept (on HBW7.out HBW7.out.size hV)) HN.out HM.out (HQ.out.kept (on HBW7.out HBW7.out.size hV)) HST.out (Nat.le_of_lt HK2.out.1)
              rw [hE] at h1
              exact h1)
            have HOB7 := Lib.hid (HO.out.kept HB7.out)
            have HLO7 := Lib.hid (HLo.out.kept HB7.out)
            have HLR7 := Lib.hid (HLr.out.kept HB7.out)
            have hn26 : n2 ≤ 70000 := by
              have h1 := HN2.out
              have h2 := count_le (newP f obs k)
              rw [newP_len] at h2
              have h3 := end_le f obs k
              have h4 := at_lt HOK.out
              have h5 := HM.out
              omega
            have HBW2 := Lib.hid (fun V (hV : Below wr.heap.size wr V) => show w2.heap.size ≤ V.heap.size by have h1 := HS2.out; have h2 := HBX.out; have h3 := HLO7.out.lt; have h4 := hV.size; omega)
            have HFIN : Hid (∀ (wd w7 : World) (A7 : Option Addr) (c7 : Nat), Below wr.heap.size wr wd → w7.ownsRow w2.heap.size 66 5 (.slice A7 (n2 + 1) c7) (n2 + 1) (xs ++ [.int .i64 (E : Nat), .int .i64 k1, .int .i64 k2, .int .i64 (j : Int), .slice (some ⟨g6, 0, none⟩) len cap6]) → wd.grownBy w7 (Value.slice A2 n2 c2).ownBlock →
                Lies (w7.setCell ⟨bx + 2, 1, none⟩ (.slice A7 (n2 + 1) c7)) (bx + 2) 34 [.int .i64 s, .slice A7 (n2 + 1) c7] ∧ (newP f obs (k + 1)).length = n2 + 1 ∧ Owned (w7.setCell ⟨bx + 2, 1, none⟩ (.slice A7 (n2 + 1) c7)) w2.heap.size A7 (n2 + 1) c7 (newP f obs (k + 1)) (xs ++ [.int .i64 (E : Nat), .int .i64 k1, .int .i64 k2, .int .i64 (j : Int), .slice (some ⟨g6, 0, none⟩) len cap6]) ∧ Lies (w7.setCell ⟨bx + 2, 1, none⟩ (.slice A7 (n2 + 1) c7)) bx 34 [.int .i64 s, .slice (some ad) n c] ∧ Lies (w7.setCell ⟨bx + 2, 1, none⟩ (.slice A7 (n2 + 1) c7)) (bx + 1) 34 [.int .i64 0, .slice none 0 0] ∧ Below bx w (w7.setCell ⟨bx + 2, 1, none⟩ (.slice A7 (n2 + 1) c7))) := Lib.hid (by
              intro wd w7 A7 c7 hb7 ho7 hg7
              have hown := owns_any HOB7.out.own hb7
              have hnew := HSU.out
              rw [if_pos HKB.out, HP.out] at hnew
              have L1 := lies_grown (HLO7.out.kept hb7) hown (by decide) hg7
              have hpt : ptrs o.1 = j := HPT.out
              have hw6 := owns_any HO7.out hb7
              have hw6w : wd.ownsRow w2.heap.size 3 1 (.slice (some ⟨g6, 0, none⟩) len cap6) len ((turnW f obs o.2 j).map (Value.int .i64)) := by
                refine ⟨hw6.1, hw6.2.imp id ?_⟩
                rintro ⟨g, cap', cur, e1, e2, e3⟩
                exact ⟨g, cap', cur, e1, by have h1 := HBW2.out wr (Below.refl _ _); have h2 := HS2.out; have h3 := HBX.out; have h4 := HBX2.out.size; have h5 := HLo.out.lt; omega, e3⟩
              have hmv2 : (mvF f obs (p, o)).2 = turnW f obs o.2 j := by rw [← hpt]; exact turnW_all (by rw [hpt, HKK.out.2.2.2]; exact HPL.out)
              have hmvl : (mvF f obs (p, o)).2.length = len := by rw [(mv_head f obs (p, o)).2]; exact HKK.out.2.2.2
              have hk3 : o.1 % 65536 / 16 = (j : Int) := HKK.out.2.2.1
              have hE0 : 0 + (flat (newP f obs k)).length = E := by rw [newP_len, HE.out]; omega
              have hcell : CellsO wd w2.heap.size (0 + (flat (newP f obs k)).length) [mvF f obs (p, o)] [.int .i64 (E : Nat), .int .i64 k1, .int .i64 k2, .int .i64 (j : Int), .slice (some ⟨g6, 0, none⟩) len cap6] := by
                refine ⟨g6, cap6, [], ?_, ?_, rfl⟩
                · unfold thing
                  rw [hE0, hmvl, (mv_head f obs (p, o)).1]
                  show _ = [Value.int .i64 (E : Nat), .int .i64 (o.1 % 16), .int .i64 (o.1 / 65536), .int .i64 (o.1 % 65536 / 16), .slice (some ⟨g6, 0, none⟩) len cap6] ++ []
                  rw [HKK.out.1, HKK.out.2.1, hk3]; rfl
                · rw [hmvl, hmv2]; exact hw6w
              have hcells := (HOB7.out.cells.kept hb7).append hcell
              have hcg := CellsO.grown hown hg7 hcells
              have hfar := CellsO.far (b := bx + 2) L1 (by decide) 1 (.slice A7 (n2 + 1) c7) hcg
              have hne : bx ≠ bx + 2 := by omega
              have hne2 : bx + 1 ≠ bx + 2 := by omega
              refine ⟨L1.set 1 _, ?_, ⟨owns_far ho7 L1 (by decide) 1 _, ?_⟩, (lies_grown (HLx7.out.kept hb7) hown (by decide) hg7).far (p := ⟨bx + 2, 1, none⟩) hne _, (lies_grown (HLR7.out.kept hb7) hown (by decide) hg7).far (p := ⟨bx + 2, 1, none⟩) hne2 _, ?_⟩
              · rw [hnew, List.length_append, HN2.out]; rfl
              · rw [hnew]; exact hfar
              · refine Below.setCell (p := ⟨bx + 2, 1, none⟩) ?_ (by show bx ≤ bx + 2; omega) _
                have h1 : Below bx w wd := on HB.out (Nat.le_of_lt (Nat.lt_of_le_of_lt (Nat.le_add_right _ _) HLo.out.lt)) (on HB7.out HB7.out.size hb7)
                refine h1.grown hg7 (Nat.le_trans (Nat.le_add_right _ _) (Nat.le_of_lt (HLO7.out.kept hb7).lt)) fun k' e => ?_
                rcases hown.2 with ⟨e1, _⟩ | ⟨g, cap', cur, e1, e2, _⟩
                · rw [e1] at e; cases e
                · rw [e1] at e; injection e with e; have h2 := HS2.out; have h3 := HBX.out; show bx ≤ k'; rw [← e]; show bx ≤ g; omega)
            have hen := enters_of (P := Tryz.prog) Tryz.func37 (by kernel_rfl) rfl
            clear hE
            go_upto_region 13 with fail
            refine wp_region_noPanic ?_
            go_region_law (first
              | (refine step_call rfl 37 #[.tmp 58, .tmp 59, .tmp 60] #[34, 35, 3] rfl #[.agg #[.int .i64 s, .slice (some ad) n c], .slice (some ⟨q, 0, none⟩) n n, .int .i64 (k : Nat)] (by simp [Act.eval, Act.put]) hen (fun v w' => v = .int .i64 (E : Nat) ∧ Below wr.heap.size wr.drew w') ((HTO.out _ (Below.refl _ _).drew).mono (by rintro e w' ⟨rfl, hh⟩; exact ⟨_, rfl, rfl, hh⟩)) ?_; rintro v wc ⟨rfl, hbc⟩; (have HBC : Hid (Below wr.heap.size wr wc) := Lib.hid (on (Below.refl _ wr).drew (by exact Nat.le_refl _) hbc)); (have x1 : wc.cell? ⟨bx + 2, 1, none⟩ = some (.slice A2 n2 c2) := (HLO7.out.kept HBC.out).cell 1); (have x2 : wc.cell? ⟨bz, 1, none⟩ = some (.int .i64 k1) := (HLZ7.out.kept HBC.out).cell 1); (have x3 : wc.cell? ⟨bz, 2, none⟩ = some (.int .i64 k2) := (HLZ7.out.kept HBC.out).cell 2); (have x4 : wc.cell? ⟨bz, 3, none⟩ = some (.int .i64 (j : Int)) := (HLZ7.out.kept HBC.out).cell 3); (have x5 : (wc.alloc (.cells #[.int .i64 (E : Nat), .int .i64 k1, .int .i64 k2, .int .i64 (j : Int), .slice (some ⟨g6, 0, none⟩) len cap6] 66)).cell? ⟨bx + 2, 1, none⟩ = some (.slice A2 n2 c2) := ((HLO7.out.kept HBC.out).alloc _).cell 1); clear hbc)
              | (refine step_obj rfl (.tmp 57) (.tmp 66) rfl w2.heap.size (.slice A2 n2 c2) n2 xs (by simp [Act.eval, Act.put]) (owns_any HOB7.out.own (on HBC.out HBC.out.size (below_one wc (.cells #[.int .i64 (E : Nat), .int .i64 k1, .int .i64 k2, .int .i64 (j : Int), .slice (some ⟨g6, 0, none⟩) len cap6] 66)))) wc.heap.size 1 1 #[.int .i64 (E : Nat), .int .i64 k1, .int .i64 k2, .int .i64 (j : Int), .slice (some ⟨g6, 0, none⟩) len cap6] (0, 0) 66 (by simp [Act.eval, Act.put]) (Lies.new wc 66 [_, _, _, _, _]) (by simp) (by simp [Value.oneCell']) (by omega) (HBW2.out _ (on HBC.out HBC.out.size (below_one wc (.cells #[.int .i64 (E : Nat), .int .i64 k1, .int .i64 k2, .int .i64 (j : Int), .slice (some ⟨g6, 0, none⟩) len cap6] 66)))) ?_; intro v7 w7 O7 G7; (have HBD := Lib.hid (on HBC.out HBC.out.size (below_one wc (.cells #[.int .i64 (E : Nat), .int .i64 k1, .int .i64 k2, .int .i64 (j : Int), .slice (some ⟨g6, 0, none⟩) len cap6] 66)))); (obtain ⟨A7, c7, e7⟩ : ∃ A7 c7, v7 = .slice A7 (n2 + 1) c7 := by (rcases O7.2 with ⟨_, h0⟩ | ⟨g, cap', _, e, _⟩; exact absurd h0 (by omega); exact ⟨_, _, e⟩)); subst e7; (have HO7b := Lib.hid O7); (have HG7 := Lib.hid G7); (have HLO8 := Lib.hid (lies_grown (HLO7.out.kept HBD.out) (owns_any HOB7.out.own HBD.out) (by decide) G7)); (have s1 := HLO8.out.cell 1); (have s2 := HLO8.out.frozen 1); (have s3 := HLO8.out.lt); clear O7 G7)
              | fail)
            all_goals
              refine NoPanic.normal ?_
              go_wp2_with fail
              obtain ⟨r1, r2, r3, r4, r5, r6⟩ := HFIN.out _ _ _ _ HBD.out HO7b.out HG7.out
              exact ⟨⟨k + 1, n2 + 1, c7, A7, _, by omega, by go_num, r1, r2, r3, r4, r5, r6⟩, by simp [intOf]; omega⟩
    · obtain rfl : k = n := by omega
      have m0 : wN.cell? ⟨bx + 2, 0, none⟩ = some (.int .i64 s) := HLo.out.cell 0
      have m1 : wN.cell? ⟨bx + 2, 1, none⟩ = some (.slice A2 n2 c2) := HLo.out.cell 1
      have r0 : wN.cell? ⟨bx + 1, 0, none⟩ = some (.int .i64 0) := HLr.out.cell 0
      have r1 : wN.cell? ⟨bx + 1, 1, none⟩ = some (.slice none 0 0) := HLr.out.cell 1
      have r2 := HLr.out.frozen 0
      have r3 := HLr.out.frozen 1
      have r4 := HLr.out.lt
      have hne : bx + 2 ≠ bx + 1 := by omega
      go_wp2
      refine bodyPost_ret (v := .agg #[.int .i64 s, .slice A2 n2 c2]) (by simp [results, Tryz.results19, go_sem, r0, r1, r2, r3, r4]) rfl ?_
      have hall : newP f obs k = newF f obs := by unfold newF; rw [HN.out]
      have hO1 := HO.out.far (b := bx + 1) HLr.out (by decide) (by decide) 0 (.int .i64 s)
      have hO2 := hO1.far (b := bx + 1) (HLr.out.set 0 (.int .i64 s)) (by decide) (by decide) 1 (.slice A2 n2 c2)
      refine ⟨A2, n2, c2, rfl, by rw [← hall]; exact HN2.out, by rw [← hall]; exact hO2.things, ?_⟩
      rw [HBX.out]
      exact (HB.out.setCell (p := ⟨bx + 1, 0, none⟩) (by show bx ≤ bx + 1; omega) _).setCell (p := ⟨bx + 1, 1, none⟩) (by show bx ≤ bx + 1; omega) _
end Go.Proofs.YtklhdilbmpndkaaGreat
