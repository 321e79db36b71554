/- claim. -/
import Derived.Test.YtklhdilbmpndkaaGreatHf
import Derived.Deep.RegionHeld3
import Derived.Deep.DeepCutAuto
namespace Go.Proofs.YtklhdilbmpndkaaGreat
set_option maxRecDepth 20000
open Go.RowKit Go.Sort
attribute [local go_sem] store_func
set_option linter.unusedVariables false
set_option linter.unusedSimpArgs false


section
variable {w0 : W2} {w : World} {C : Cx} {M : Ms}
theorem Sl.bgAt (h : Sl w0 w C M) (r : Nat) (hr : r ≤ C.K) : w.cell? ⟨C.sb, r, none⟩ = some (.int .i64 ((bgR C.W C.L C.top r : Nat) : Int)) := by
  obtain ⟨q, cs, h1, h2, h3, h4, h5, h6⟩ := h.bg.some_ (by simp [beginsL])
  injection h1 with h1; injection h1 with h1 _; subst h1
  rw [h3.cell, h6 r (by simp [beginsL]; omega)]
  simp [beginsL, List.getD, Cx.L]
  rw [List.getElem?_range (by omega)]
  rfl

theorem Sl.six {j : Nat} {k : Wk} (h : Sl w0 w C (M.upd j k)) (hj : j < C.n) (cl K sb br up : Nat) (hr : k.region = (cl : Nat)) (hc : cl < K) (hK : C.K = K) (hsb : C.sb = sb) (hbr : bgR C.W C.L C.top cl = br) (hup : bgR C.W C.L C.top (cl + 1) = up) :
    w.cell? ⟨C.wk j, 0, none⟩ = some (.pointer (some ⟨C.S, 0, none⟩)) ∧ w.cell? ⟨C.wk j, 3, none⟩ = some (.int .i64 (cl : Nat)) ∧ w.cell? ⟨C.S, 0, none⟩ = some (.pointer (some ⟨C.b, 0, none⟩)) ∧ w.cell? ⟨C.S, 3, none⟩ = some (.slice (some ⟨sb, 0, none⟩) (K + 1) C.bcap) ∧ w.cell? ⟨sb, cl, none⟩ = some (.int .i64 (br : Nat)) ∧ w.cell? ⟨sb, cl + 1, none⟩ = some (.int .i64 (up : Nat)) := by
  have L5 := h.wks j hj
  rw [upd_at] at L5
  refine ⟨L5.cell 0, by rw [← hr]; exact L5.cell 3, h.own.cell 0, by rw [← hsb, ← hK]; exact h.own.cell 3, by rw [← hsb, ← hbr]; exact h.bgAt cl (by omega), by rw [← hsb, ← hup]; exact h.bgAt (cl + 1) (by omega)⟩

/-- What claim makes. -/
def claimP (C : Cx) (cl : Nat) : Ph := if C.K ≤ cl then .rest else if 0 < (C.sts cl).length then .await cl else turnP C cl [] [] (C.fr0 cl)

set_option maxRecDepth 100000 in
set_option maxHeartbeats 4000000 in
theorem claim_any (h : Sl w0 w C M) (j : Nat) (hj : j < C.n) (cl : Nat) (hl : Lk C (M.wks j) .claim) (hs0 : 0 < M.signs.length) (hcl : M.signs.getD 0 0 = (cl : Nat)) (hc6 : cl ≤ 2 ^ 60) :
    Calls Tryz.prog 30 #[.pointer (some ⟨C.wk j, 0, none⟩)] w fun e w' => e = .returned (.tuple #[]) ∧ ∃ k', Sl w0 w' C ({ M with signs := M.signs.set 0 ((cl + 1 : Nat) : Int), touches := IntKind.i64.wrap (M.touches + 1) }.upd j k') ∧ Lk C k' (claimP C cl) := by
  obtain ⟨l1, l2, l3⟩ := hl
  have L := h.wks j hj
  have z0 : w.cell? ⟨C.wk j, 0, none⟩ = some (.pointer (some ⟨C.S, 0, none⟩)) := L.cell 0
  have zS : w.cell? ⟨C.S, 2, none⟩ = some (.pointer (some ⟨C.g2, 0, none⟩)) := h.own.cell 2
  have HWL := Lib.hid (wadd2 h j 0 1 hj hs0)
  rw [hcl, show wrap64 ((cl : Int) + 1) = ((cl + 1 : Nat) : Int) by rw [IntWalk.wrap64_in _ (by omega)]; omega] at HWL
  obtain ⟨tt, htt⟩ : ∃ tt, IntKind.i64.wrap (M.touches + 1) = tt := ⟨_, rfl⟩
  obtain ⟨sg, hsg⟩ : ∃ sg, M.signs.set 0 ((cl + 1 : Nat) : Int) = sg := ⟨_, rfl⟩
  rw [htt, hsg] at HWL ⊢
  have HL := Lib.hid (And.intro l2 l3)
  clear h L l1 l2 l3 htt hsg hcl hs0
  obtain ⟨M1, hM1⟩ : ∃ M1, ({ M with signs := sg, touches := tt } : Ms) = M1 := ⟨_, rfl⟩
  have hk1 : M1.wks j = M.wks j := by rw [← hM1]
  rw [hM1] at HWL ⊢
  rw [← hk1] at HL
  have HM1 := Lib.hid hM1
  clear hM1 hk1
  go_enter Tryz.func30, Tryz.ntmps30
  go_wp2_with fail
  refine HWL.out.mono ?_
  rintro e w2 ⟨rfl, h2, -⟩
  have L2 := h2.wks j hj
  have y3 : w2.cell? ⟨C.wk j, 3, none⟩ = some (.int .i64 (M1.wks j).region) := L2.cell 3
  have f3 := L2.frozen 3
  have lt2 := L2.lt
  have S3 := h2.upd hj 3 (.int .i64 (cl : Nat)) { M1.wks j with region := (cl : Nat) } rfl (h2.rows j hj)
  obtain ⟨w3, hw3⟩ : ∃ w3, w2.setCell ⟨C.wk j, 3, none⟩ (.int .i64 (cl : Nat)) = w3 := ⟨_, rfl⟩
  rw [hw3] at S3
  have HW3 := Lib.hid hw3
  have HS3 := Lib.hid S3
  clear h2 L2 S3 hw3 z0 zS HWL
  go_upto_region 1 with fail
  rw [HW3.out]
  clear y3 f3 lt2 HW3
  obtain ⟨K, hK⟩ : ∃ K, C.K = K := ⟨_, rfl⟩
  obtain ⟨W, hW⟩ : ∃ W, C.W = W := ⟨_, rfl⟩
  obtain ⟨T, hT⟩ : ∃ T, C.T = T := ⟨_, rfl⟩
  have HK := Lib.hid hK
  have S3 := HS3.out
  have hk65 := S3.fo.k65
  rw [hK] at hk65
  obtain ⟨q, F⟩ := fq_of (S3.fo.kept S3.old)
  rw [hK, hW, hT] at F
  have HF := Lib.hid F
  have L3 := S3.wks j hj
  rw [upd_at] at L3
  have x0 : w3.cell? ⟨C.wk j, 0, none⟩ = some (.pointer (some ⟨C.S, 0, none⟩)) := L3.cell 0
  have x3 : w3.cell? ⟨C.wk j, 3, none⟩ = some (.int .i64 (cl : Nat)) := L3.cell 3
  have xS : w3.cell? ⟨C.S, 0, none⟩ = some (.pointer (some ⟨C.b, 0, none⟩)) := S3.own.cell 0
  have xb0 := F.c0 w3 (Below.refl _ w3)
  have xb1 := F.c1 w3 (Below.refl _ w3)
  have xb2 := F.c2 w3 (Below.refl _ w3)
  have HT := Lib.hid hT
  have HW := Lib.hid hW
  clear S3 L3 F hK hW hT
  have hmx : Tryz.prog.follows .mixedOrders = true := by kernel_rfl
  have y0 : ∀ d os, (grow (redrawn w3 d) os).cell? ⟨C.wk j, 0, none⟩ = some (.pointer (some ⟨C.S, 0, none⟩)) := fun d os => cell_regrown x0 d os
  have y1 : ∀ d os, (grow (redrawn w3 d) os).cell? ⟨C.wk j, 3, none⟩ = some (.int .i64 (cl : Nat)) := fun d os => cell_regrown x3 d os
  have y2 : ∀ d os, (grow (redrawn w3 d) os).cell? ⟨C.S, 0, none⟩ = some (.pointer (some ⟨C.b, 0, none⟩)) := fun d os => cell_regrown xS d os
  have y3 : ∀ d os, (grow (redrawn w3 d) os).cell? ⟨C.b, 0, none⟩ = some (.int .i64 (W : Nat)) := fun d os => cell_regrown xb0 d os
  have y4 : ∀ d os, (grow (redrawn w3 d) os).cell? ⟨C.b, 1, none⟩ = some (.slice (some ⟨q, 0, none⟩) K K) := fun d os => cell_regrown xb1 d os
  have y5 : ∀ d os, (grow (redrawn w3 d) os).cell? ⟨C.b, 2, none⟩ = some (.int .i64 (T : Nat)) := fun d os => cell_regrown xb2 d os
  have c0 : ∀ d os, Hid (Calls Tryz.prog 50 #[.agg #[.int .i64 (W : Nat), .slice (some ⟨q, 0, none⟩) K K, .int .i64 (T : Nat)]] (grow (redrawn w3 d) os) fun e w' => e = .returned (.int .i64 (K : Nat)) ∧ Below (grow (redrawn w3 d) os).heap.size (grow (redrawn w3 d) os) w') := fun d os => Lib.hid (HF.out.len _)
  refine wp_region_quiet_below hmx (by kernel_rfl) ?_
  repeat (with_reducible refine wpQuiet_step ?_; intro K hK; go_simp; first | (with_reducible refine hK _ ?_; clear hK K) | (with_reducible apply Exists.intro; with_reducible refine ⟨fun _ => ?_, hK _ ?_⟩; (first | (with_reducible exact Calls.regrown_of (c0 _ _).out)); clear hK K))
  with_reducible refine wpQuiet_nil ?_
  rintro wq ⟨pp, rfl⟩
  have hq := below_regrown w3 pp.d pp.os
  generalize grow (redrawn w3 pp.d) pp.os = wq at *
  have S4 := HS3.out.kept hq
  have L4 := S4.wks j hj
  rw [upd_at] at L4
  have HS4 := Lib.hid S4
  have HF4 := Lib.hid (HF.out.kept hq)
  clear x0 x3 xS xb0 xb1 xb2 y0 y1 y2 y3 y4 y5 c0 hq hmx
  by_cases hge : K ≤ cl
  · have d0 : decide ((cl : Int) ≥ (K : Int)) = true := by simp; omega
    have v2 : wq.cell? ⟨C.wk j, 2, none⟩ = some (.func (.func (M1.wks j).next) #[] #[]) := L4.cell 2
    have f2 := L4.frozen 2
    have lt4 := L4.lt
    clear S4 L4
    go_wp2_with fail
    refine bodyPost_ret (results_none rfl _ _ _) rfl ?_
    have S5 := HS4.out.upd2 hj 2 (.func (.func 61) #[] #[]) { M1.wks j with next := 61, region := (cl : Nat) } rfl (by have := HS4.out.rows j hj; rw [upd_at] at this; exact this)
    refine ⟨rfl, _, S5, ?_⟩
    unfold claimP
    rw [HK.out, if_pos hge]
    rfl
  · have d0 : decide ((cl : Int) ≥ (K : Int)) = false := by simp; omega
    have hck : cl < K := by omega
    have q0 : wq.cell? ⟨C.wk j, 0, none⟩ = some (.pointer (some ⟨C.S, 0, none⟩)) := L4.cell 0
    have q3 : wq.cell? ⟨C.wk j, 3, none⟩ = some (.int .i64 (cl : Nat)) := L4.cell 3
    have qS : wq.cell? ⟨C.S, 0, none⟩ = some (.pointer (some ⟨C.b, 0, none⟩)) := S4.own.cell 0
    have qb0 := HF4.out.c0 wq (Below.refl _ wq)
    have qb1 := HF4.out.c1 wq (Below.refl _ wq)
    have qb2 := HF4.out.c2 wq (Below.refl _ wq)
    have HSB := Lib.hid S4.size
    have HST := Lib.hid (fun V (hV : Below wq.heap.size wq V) => HF4.out.stays V hV cl hck)
    have hsl : (inR C.f W cl (adr 0 C.obs)).length = (C.sts cl).length := by unfold Cx.sts; rw [HW.out]; rfl
    have hsr : stayR C.f W cl (adr 0 C.obs) = addrs (C.sts cl) := by unfold Cx.sts; rw [HW.out]; rfl
    rw [hsl, hsr] at HST
    clear S4 L4 hsl hsr
    go_upto_region 3 with fail
    go_cut [] (fun wx => ∃ SB sc, Sl w0 wx C (M1.upd j { M1.wks j with region := (cl : Nat), SB := SB, sc := sc, stays := addrs (C.sts cl) }))
    case first =>
      go_region_with ((first | (go_at_call 62; refine (HST.out _ (by first | exact (Below.refl _ _).drew | exact Below.refl _ _)).mono ?_; rintro e w6 ⟨AB, ac, rfl, R6, hb6⟩; (have hb66 : Below wq.heap.size wq w6 := on ((Below.refl wq.heap.size wq).drew) (Nat.le_refl _) hb6); (have S6 := HS4.out.kept hb66); (have LW6 := S6.wks j hj); rw [upd_at] at LW6; (have y46 : w6.cell? ⟨C.wk j, 4, none⟩ = some (.slice (M1.wks j).SB (M1.wks j).stays.length (M1.wks j).sc) := LW6.cell 4); (have f46 := LW6.frozen 4); (have l46 := LW6.lt); (have HS6 := Lib.hid S6); (have HR6 := Lib.hid R6); clear S6 LW6 hb6 hb66 R6) | fail))
      all_goals
        go_wp2_with fail
        go_meet
        refine ⟨AB, ac, HS6.out.upd2 hj 4 (.slice AB (C.sts cl).length ac) _ (by unfold Wk.cells; simp [addrs]) ⟨Sq.of_rv HR6.out HSB.out, ?_⟩⟩
        have := (HS6.out.rows j hj).2
        rw [upd_at] at this
        exact this
    case rest =>
    obtain ⟨SB, sc, S5⟩ := hcut
    have HS5 := Lib.hid S5
    clear q0 q3 qS qb0 qb1 qb2 HSB HST S5
    go_upto_region 4 with fail
    go_cut [] (fun wx => Sl w0 wx C (M1.upd j { M1.wks j with region := (cl : Nat), SB := SB, sc := sc, stays := addrs (C.sts cl), frm := ((C.fr0 cl : Nat) : Int), upTo := ((C.up cl : Nat) : Int) }))
    case first =>
      have S5 := HS5.out
      have L5 := S5.wks j hj
      rw [upd_at] at L5
      obtain ⟨sb, hsb⟩ : ∃ sb, C.sb = sb := ⟨_, rfl⟩
      obtain ⟨br, hbr⟩ : ∃ br, bgR C.W C.L C.top cl = br := ⟨_, rfl⟩
      obtain ⟨up, hup⟩ : ∃ up, bgR C.W C.L C.top (cl + 1) = up := ⟨_, rfl⟩
      have z0 : wc.cell? ⟨C.wk j, 0, none⟩ = some (.pointer (some ⟨C.S, 0, none⟩)) := L5.cell 0
      have z3 : wc.cell? ⟨C.wk j, 3, none⟩ = some (.int .i64 (cl : Nat)) := L5.cell 3
      have zS : wc.cell? ⟨C.S, 0, none⟩ = some (.pointer (some ⟨C.b, 0, none⟩)) := S5.own.cell 0
      have zS3 : wc.cell? ⟨C.S, 3, none⟩ = some (.slice (some ⟨sb, 0, none⟩) (K + 1) C.bcap) := by rw [← hsb, ← HK.out]; exact S5.own.cell 3
      have zr : wc.cell? ⟨sb, cl, none⟩ = some (.int .i64 (br : Nat)) := by rw [← hsb, ← hbr]; exact S5.bgAt cl (by rw [HK.out]; omega)
      have zu : wc.cell? ⟨sb, cl + 1, none⟩ = some (.int .i64 (up : Nat)) := by rw [← hsb, ← hup]; exact S5.bgAt (cl + 1) (by rw [HK.out]; omega)
      have HTP := Lib.hid (fun V (hV : Below wc.heap.size wc V) => ftop_any ((S5.fo.kept S5.old).kept hV))
      rw [HT.out] at HTP
      have i0 : (cl : Int) < ((K : Int) + 1) := by omega
      have i1 : (cl : Int) + 1 < ((K : Int) + 1) := by omega
      have i2 : (cl : Int) < (K : Int) := by omega
      have i3 : (0 : Int) ≤ (cl : Int) + 1 := by omega
      have i4 : cl < K + 1 := by omega
      have i5 : cl + 1 < K + 1 := by omega
      have hw1 : IntKind.i64.wrap ((cl : Int) + 1) = (cl : Int) + 1 := IntWalk.i64_in _ (by omega)
      have H6 := Lib.hid (fun (V : World) (k : Wk) (h : Sl w0 V C (M1.upd j k)) (hr : k.region = (cl : Nat)) => h.six hj cl K sb br up hr hck HK.out hsb hbr hup)
      have HSB := Lib.hid hsb
      have HBR := Lib.hid hbr
      have HUP := Lib.hid hup
      have H6d := Lib.hid (H6.out wc.drew _ (HS5.out.kept ((Below.refl _ wc).drew)) rfl)
      clear S5 L5 hsb hbr hup z0 z3 zS zS3 zr zu
      have H5s := Lib.hid (fun (V : World) (h : Sl w0 V C (M1.upd j { M1.wks j with region := (cl : Nat), SB := SB, sc := sc, stays := addrs (C.sts cl) })) => h.upd2 hj 5 (.int .i64 (if br < T then ((T : Nat) : Int) else ((br : Nat) : Int))) { M1.wks j with region := (cl : Nat), SB := SB, sc := sc, stays := addrs (C.sts cl), frm := (if br < T then ((T : Nat) : Int) else ((br : Nat) : Int)) } rfl (by have := h.rows j hj; rw [upd_at] at this; exact this))
      have H6s := Lib.hid (fun (V : World) (h : Sl w0 V C (M1.upd j { M1.wks j with region := (cl : Nat), SB := SB, sc := sc, stays := addrs (C.sts cl), frm := (if br < T then ((T : Nat) : Int) else ((br : Nat) : Int)) })) => h.upd2 hj 6 (.int .i64 ((up : Nat) : Int)) { M1.wks j with region := (cl : Nat), SB := SB, sc := sc, stays := addrs (C.sts cl), frm := (if br < T then ((T : Nat) : Int) else ((br : Nat) : Int)), upTo := ((up : Nat) : Int) } rfl (by have := h.rows j hj; rw [upd_at] at this; exact this))
      go_region_held3 (fun W => W.cell? ⟨C.wk j, 0, none⟩ = some (.pointer (some ⟨C.S, 0, none⟩)) ∧ W.cell? ⟨C.wk j, 3, none⟩ = some (.int .i64 (cl : Nat)) ∧ W.cell? ⟨C.S, 0, none⟩ = some (.pointer (some ⟨C.b, 0, none⟩)) ∧ W.cell? ⟨C.S, 3, none⟩ = some (.slice (some ⟨sb, 0, none⟩) (K + 1) C.bcap) ∧ W.cell? ⟨sb, cl, none⟩ = some (.int .i64 (br : Nat)) ∧ W.cell? ⟨sb, cl + 1, none⟩ = some (.int .i64 (up : Nat)))
        (first | exact H6d.out | exact H6.out _ _ HS6.out rfl | exact H6.out _ _ (H5s.out _ HS6.out) rfl | exact H6.out _ _ (H6s.out _ (H5s.out _ HS6.out)) rfl)
        ((first
        | (go_at_call 34; refine (HTP.out _ (by first | exact (Below.refl _ _).drew | exact Below.refl _ _)).mono ?_; rintro e w6 ⟨rfl, hb6⟩; (have hb66 : Below wc.heap.size wc w6 := on ((Below.refl wc.heap.size wc).drew) (Nat.le_refl _) hb6); (have S6 := HS5.out.kept hb66); (have LW6 := S6.wks j hj); rw [upd_at] at LW6; (have y56 : w6.cell? ⟨C.wk j, 5, none⟩ = some (.int .i64 (M1.wks j).frm) := LW6.cell 5); (have y66 : w6.cell? ⟨C.wk j, 6, none⟩ = some (.int .i64 (M1.wks j).upTo) := LW6.cell 6); (have f56 := LW6.frozen 5); (have f66 := LW6.frozen 6); (have l66 := LW6.lt); (have HS6 := Lib.hid S6); clear S6 LW6 hb6 hb66)
        | fail))
      all_goals
        go_wp2_with fail
        all_goals
          go_meet
          have hfin := H6s.out _ (H5s.out _ HS6.out)
          have e1 : (if br < T then ((T : Nat) : Int) else ((br : Nat) : Int)) = ((C.fr0 cl : Nat) : Int) := by unfold Cx.fr0; rw [HBR.out, HT.out]; split <;> omega
          have e2 : up = C.up cl := by rw [← HUP.out]; rfl
          have e2' : ((C.up cl : Nat) : Int) = ((up : Nat) : Int) := by rw [← e2]
          rw [e2', ← e1]
          by_cases hbt : br < T
          · rw [if_pos hbt] at hfin ⊢
            first | exact hfin | omega
          · rw [if_neg hbt] at hfin ⊢
            first | exact hfin | omega
    case rest =>
    have S7 := hcut
    have L7 := S7.wks j hj
    rw [upd_at] at L7
    have v4 : wc.cell? ⟨C.wk j, 4, none⟩ = some (.slice SB (addrs (C.sts cl)).length sc) := L7.cell 4
    have v2 : wc.cell? ⟨C.wk j, 2, none⟩ = some (.func (.func (M1.wks j).next) #[] #[]) := L7.cell 2
    have f2 := L7.frozen 2
    have lt7 := L7.lt
    have hal : (addrs (C.sts cl)).length = (C.sts cl).length := by simp [addrs]
    obtain ⟨n, hn⟩ : ∃ n, (C.sts cl).length = n := ⟨_, rfl⟩
    rw [hal, hn] at v4
    have HN := Lib.hid hn
    have HS7 := Lib.hid S7
    clear S7 L7 hal hn hcut
    by_cases h0 : 0 < n
    · have d1 : decide ((n : Int) > 0) = true := by simp; omega
      go_wp2_with fail
      refine bodyPost_ret (results_none rfl _ _ _) rfl ?_
      have S8 := HS7.out.upd2 hj 2 (.func (.func 63) #[] #[]) { M1.wks j with next := 63, region := (cl : Nat), SB := SB, sc := sc, stays := addrs (C.sts cl), frm := ((C.fr0 cl : Nat) : Int), upTo := ((C.up cl : Nat) : Int) } rfl (by have := HS7.out.rows j hj; rw [upd_at] at this; exact this)
      refine ⟨rfl, _, S8, ?_⟩
      unfold claimP
      rw [HK.out, if_neg hge, HN.out, if_pos h0]
      exact ⟨rfl, rfl, rfl, HL.out.2, rfl, rfl⟩
    · have d1 : decide ((n : Int) > 0) = false := by simp; omega
      have hst0 : C.sts cl = [] := List.eq_nil_of_length_eq_zero (by rw [HN.out]; omega)
      have HT := Lib.hid (turn_ph HS7.out j hj cl (C.fr0 cl) [] [] (by rw [upd_at]; exact HL.out.2) (by rw [upd_at]; show addrs (C.sts cl) = _; rw [hst0]) (by rw [upd_at]) (by rw [upd_at]) (fun x hx => by cases hx))
      clear hst0
      go_wp2_with fail
      refine HT.out.mono ?_
      rintro e w8 ⟨rfl, k', h8, l8⟩
      rw [upd_upd] at h8
      have H8 := Lib.hid h8
      have HL8 := Lib.hid l8
      clear h8 l8 HT
      go_wp2_with fail
      go_end0
      refine ⟨rfl, k', H8.out, ?_⟩
      unfold claimP
      rw [HK.out, if_neg hge, HN.out, if_neg h0]
      exact HL8.out
end
end Go.Proofs.YtklhdilbmpndkaaGreat
