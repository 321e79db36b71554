/- nought. tell. put. Step, through what is next. -/
import Derived.Test.YtklhdilbmpndkaaGreatHf
import Derived.Deep.DeepCutAuto
import Derived.Test.YtklhdilbmpndkaaGreatGs
namespace Go.Proofs.YtklhdilbmpndkaaGreat
set_option maxRecDepth 20000
open Go.RowKit Go.Sort
attribute [local go_sem] store_func
set_option linter.unusedVariables false
set_option linter.unusedSimpArgs false


section
variable {w0 : W2} {w : World} {C : Cx} {M : Ms}
set_option maxRecDepth 100000 in
set_option maxHeartbeats 4000000 in
theorem nought_any (h : Sl w0 w C M) (j : Nat) (hj : j < C.n) (r fr : Nat) (hl : Lk C (M.wks j) (.nought r fr)) (hp : fr < M.cells.length) (hm : M.cells.length ≤ 65536) :
    Calls Tryz.prog 97 #[.pointer (some ⟨C.wk j, 0, none⟩)] w fun e w' => e = .returned (.tuple #[]) ∧ ∃ k', Sl w0 w' C ({ M with cells := M.cells.set fr 0, left := IntKind.i64.wrap (M.left - 1), touches := IntKind.i64.wrap (M.touches + 1) }.upd j k') ∧ Lk C k' (turnP C r [] [] (fr + 1)) := by
  obtain ⟨l1, l2, l3, l4, l5⟩ := hl
  have L := h.wks j hj
  have z5 : w.cell? ⟨C.wk j, 5, none⟩ = some (.int .i64 (fr : Nat)) := by rw [← l4]; exact L.cell 5
  have HWS := Lib.hid (wstore1 h j fr 0 hj hp)
  obtain ⟨tt, htt⟩ : ∃ tt, IntKind.i64.wrap (M.touches + 1) = tt := ⟨_, rfl⟩
  obtain ⟨ll, hll⟩ : ∃ ll, IntKind.i64.wrap (M.left - 1) = ll := ⟨_, rfl⟩
  rw [htt, hll] at HWS ⊢
  have hw : IntKind.i64.wrap ((fr : Int) + 1) = (fr : Int) + 1 := IntWalk.i64_in _ (by omega)
  have HLK := Lib.hid (And.intro l2 (And.intro l3 (And.intro l4 l5)))
  clear h L l1 l2 l3 l4 l5 htt hll hm hp
  go_enter Tryz.func97, Tryz.ntmps97
  go_wp2_with fail
  refine HWS.out.mono ?_
  rintro e w2 ⟨rfl, h2, -⟩
  have L2 := h2.wks j hj
  have y5 : w2.cell? ⟨C.wk j, 5, none⟩ = some (.int .i64 (fr : Nat)) := by rw [← HLK.out.2.2.1]; exact L2.cell 5
  have f5 := L2.frozen 5
  have lt2 := L2.lt
  have S3 := h2.upd hj 5 (.int .i64 ((fr : Int) + 1)) { M.wks j with frm := (fr : Int) + 1 } rfl (h2.rows j hj)
  have HT := Lib.hid (turn_ph S3 j hj r (fr + 1) [] [] (by rw [upd_at]; exact HLK.out.2.1) (by rw [upd_at]; exact HLK.out.1) (by rw [upd_at]; show (fr : Int) + 1 = _; omega) (by rw [upd_at]; exact HLK.out.2.2.2) (fun x hx => by cases hx))
  clear h2 L2 S3 z5
  go_wp2_with fail
  refine HT.out.mono ?_
  rintro e w3 ⟨rfl, k', h3, l3⟩
  rw [upd_upd] at h3
  have H3' := Lib.hid h3
  have HL3 := Lib.hid l3
  clear h3 l3 HT
  go_wp2_with fail
  go_end0
  exact ⟨rfl, k', H3'.out, HL3.out⟩
end
end Go.Proofs.YtklhdilbmpndkaaGreat

namespace Go.Proofs.YtklhdilbmpndkaaGreat
set_option maxRecDepth 20000
open Go.RowKit Go.Sort
attribute [local go_sem] store_func
set_option linter.unusedVariables false
set_option linter.unusedSimpArgs false


section
variable {w0 : W2} {w : World} {C : Cx} {M : Ms}
set_option maxRecDepth 100000 in
set_option maxHeartbeats 4000000 in
theorem tell_any (h : Sl w0 w C M) (j : Nat) (hj : j < C.n) (r a : Nat) (aw : List Nat) (st : List (Nat × Ob)) (fr : Nat) (hl : Lk C (M.wks j) (.tell r a aw st fr)) (hp : a + 1 < M.signs.length) (hm : M.signs.length ≤ 65537) (hk : ∀ x ∈ st, isK C.f C.L x.1 = true) :
    Calls Tryz.prog 95 #[.pointer (some ⟨C.wk j, 0, none⟩)] w fun e w' => e = .returned (.tuple #[]) ∧ ∃ k', Sl w0 w' C ({ M with signs := M.signs.set (a + 1) (wrap64 (M.signs.getD (a + 1) 0 + -1)), touches := IntKind.i64.wrap (M.touches + 1) }.upd j k') ∧ Lk C k' (turnP C r aw st fr) := by
  obtain ⟨l1, l2, l3, l4, l5⟩ := hl
  have L := h.wks j hj
  have e3 : (M.wks j).awaiting = (a : Int) :: natZ aw := by rw [l3]; rfl
  have hsq := (h.rows j hj).2
  rw [e3] at hsq
  obtain ⟨q, o, hAB, hcell, hql, hqB⟩ := hsq.head
  have hcap := hsq.1
  simp only [List.length_cons] at hcap
  have z0 : w.cell? ⟨C.wk j, 0, none⟩ = some (.pointer (some ⟨C.S, 0, none⟩)) := L.cell 0
  have zS : w.cell? ⟨C.S, 2, none⟩ = some (.pointer (some ⟨C.g2, 0, none⟩)) := h.own.cell 2
  have z14 : w.cell? ⟨C.wk j, 14, none⟩ = some (.slice (M.wks j).AB (M.wks j).awaiting.length (M.wks j).ac) := L.cell 14
  rw [e3, hAB] at z14
  simp only [List.length_cons] at z14
  obtain ⟨sl, hsl⟩ : ∃ sl, (natZ aw).length = sl := ⟨_, rfl⟩
  obtain ⟨sc, hsc⟩ : ∃ sc, (M.wks j).ac = sc := ⟨_, rfl⟩
  rw [hsl] at hcap z14
  rw [hsc] at hcap z14
  have HSL := Lib.hid hsl
  have HSC := Lib.hid hsc
  have HAB := Lib.hid hAB
  have HE3 := Lib.hid e3
  have HL := Lib.hid (And.intro l2 (And.intro l4 l5))
  have hrw : (1 : Int) + (a : Int) = ((a + 1 : Nat) : Int) := by omega
  have HRW := Lib.hid hrw
  have ha2 : a ≤ 65536 := by omega
  have hw : IntKind.i64.wrap ((1 : Int) + (a : Int)) = (1 : Int) + (a : Int) := IntWalk.i64_in _ (by omega)
  have HWL := Lib.hid (fun V (hV : Below w.heap.size w V) => wadd2 (h.kept hV) j (a + 1) (-1) hj hp)
  obtain ⟨tt, htt⟩ : ∃ tt, IntKind.i64.wrap (M.touches + 1) = tt := ⟨_, rfl⟩
  obtain ⟨sg, hsg⟩ : ∃ sg, M.signs.set (a + 1) (wrap64 (M.signs.getD (a + 1) 0 + -1)) = sg := ⟨_, rfl⟩
  rw [htt, hsg] at HWL ⊢
  have i0 : (0 : Int) < ((sl + 1 : Nat) : Int) := by omega
  have i1 : (1 : Int) ≤ ((sl + 1 : Nat) : Int) := by omega
  have i2 : ((sl + 1 : Nat) : Int) ≤ (sc : Int) := by omega
  have i3 : (1 : Int) ≤ (sc : Int) := by omega
  have HK := Lib.hid hk
  clear h L hsq e3 hAB hsl hsc hp hm htt hsg hrw l1 l2 l3 l4 l5 hk
  go_enter Tryz.func95, Tryz.ntmps95
  go_upto_region 0 with fail
  go_still_tail 15, (by kernel_rfl)
  change wpList _ _ _ _ _ w.drew
  go_wp2_with fail
  rw [HRW.out]
  refine (HWL.out _ (Below.refl _ w).drew).mono ?_
  rintro e w2 ⟨rfl, h2, -⟩
  have L2 := h2.wks j hj
  have y14 : w2.cell? ⟨C.wk j, 14, none⟩ = some (.slice (M.wks j).AB (M.wks j).awaiting.length (M.wks j).ac) := L2.cell 14
  rw [HE3.out, HAB.out, HSC.out] at y14
  simp only [List.length_cons] at y14
  rw [HSL.out] at y14
  have f14 := L2.frozen 14
  have lt2 := L2.lt
  have hsq2 := (h2.rows j hj).2
  have hst1 : Sq w2 C.B2 (some ⟨q, o, none⟩) sc ((a : Int) :: natZ aw) := by
    have h1 := hsq2
    simp only [HE3.out, HAB.out, HSC.out] at h1
    exact h1
  have HST := Lib.hid hst1
  have H2 := Lib.hid h2
  clear h2 L2 hsq2 hst1 z0 zS z14 hcell
  by_cases hc : sc = 1
  · obtain rfl : sl = 0 := by omega
    have hs0 : natZ aw = [] := List.eq_nil_of_length_eq_zero HSL.out
    obtain rfl : aw = [] := by cases aw with
      | nil => rfl
      | cons _ _ => simp [natZ] at hs0
    subst hc
    have S3 := H2.out.upd hj 14 (.slice (some ⟨q, o, none⟩) 0 0) { M.wks j with AB := (some ⟨q, o, none⟩), ac := 0, awaiting := [] } rfl ⟨(H2.out.rows j hj).1, Sq.nil _ _ _ _⟩
    have HT := Lib.hid (turn_ph S3 j hj r fr [] st (by rw [upd_at]; rfl) (by rw [upd_at]; exact HL.out.1) (by rw [upd_at]; exact HL.out.2.1) (by rw [upd_at]; exact HL.out.2.2) HK.out)
    clear S3 hs0
    go_wp2_with fail
    refine HT.out.mono ?_
    rintro e w3 ⟨rfl, k', h3, l3⟩
    rw [upd_upd] at h3
    have H3' := Lib.hid h3
    have HL3 := Lib.hid l3
    clear h3 l3 HT
    go_wp2_with fail
    go_end0
    exact ⟨rfl, k', H3'.out, HL3.out⟩
  · have hc2 : ¬ (sc - 1 = 0) := by omega
    have S3 := H2.out.upd hj 14 (.slice (some ⟨q, o + 1, none⟩) sl (sc - 1)) { M.wks j with AB := (some ⟨q, o + 1, none⟩), ac := sc - 1, awaiting := natZ aw } (by unfold Wk.cells; simp [HSL.out]) ⟨(H2.out.rows j hj).1, HST.out.tail (some ⟨q, o + 1, none⟩) (fun _ => rfl)⟩
    have HT := Lib.hid (turn_ph S3 j hj r fr aw st (by rw [upd_at]) (by rw [upd_at]; exact HL.out.1) (by rw [upd_at]; exact HL.out.2.1) (by rw [upd_at]; exact HL.out.2.2) HK.out)
    clear S3
    go_wp2_with fail
    refine HT.out.mono ?_
    rintro e w3 ⟨rfl, k', h3, l3⟩
    rw [upd_upd] at h3
    have H3' := Lib.hid h3
    have HL3 := Lib.hid l3
    clear h3 l3 HT
    go_wp2_with fail
    go_end0
    exact ⟨rfl, k', H3'.out, HL3.out⟩
end
end Go.Proofs.YtklhdilbmpndkaaGreat

namespace Go.Proofs.YtklhdilbmpndkaaGreat
set_option maxRecDepth 20000
open Go.RowKit Go.Sort
attribute [local go_sem] store_func
set_option linter.unusedVariables false
set_option linter.unusedSimpArgs false


section
variable {w0 : W2} {w : World} {C : Cx} {M : Ms}
set_option maxRecDepth 100000 in
set_option maxHeartbeats 4000000 in
theorem put_more (h : Sl w0 w C M) (j : Nat) (hj : j < C.n) (r : Nat) (x : Nat × Ob) (i : Nat) (v : Int) (st : List (Nat × Ob)) (fr : Nat) (hl : Lk C (M.wks j) (.put r x i v st fr)) (hp : goS C.f C.L x.1 + i < M.cells.length) (hm : M.cells.length ≤ 65536) (hi : i + 1 ≤ x.2.2.length) :
    Calls Tryz.prog 107 #[.pointer (some ⟨C.wk j, 0, none⟩)] w fun e w' => e = .returned (.tuple #[]) ∧ ∃ k', Sl w0 w' C ({ M with cells := M.cells.set (goS C.f C.L x.1 + i) v, left := IntKind.i64.wrap (M.left - 1), touches := IntKind.i64.wrap (M.touches + 1) }.upd j k') ∧ Lk C k' (.take r x (i + 1) st fr) := by
  obtain ⟨l1, l2, l3, l4, l5, l6, l7, l8, l9, l10⟩ := hl
  have L := h.wks j hj
  have z8 : w.cell? ⟨C.wk j, 8, none⟩ = some (.int .i64 (goS C.f C.L x.1 : Nat)) := by rw [← l7]; exact L.cell 8
  have z12 : w.cell? ⟨C.wk j, 12, none⟩ = some (.int .i64 (i : Nat)) := by rw [← l8]; exact L.cell 12
  have z13 : w.cell? ⟨C.wk j, 13, none⟩ = some (.int .i64 v) := by rw [← l10]; exact L.cell 13
  have HLK := Lib.hid (show Lk C (M.wks j) (.put r x i v st fr) from ⟨l1, l2, l3, l4, l5, l6, l7, l8, l9, l10⟩)
  obtain ⟨len, hlen⟩ : ∃ len, x.2.2.length = len := ⟨_, rfl⟩
  have hgl : (M.wks j).hl = (len : Nat) := by rw [l9.2.1, hlen]
  obtain ⟨t0, hto⟩ : ∃ t0, goS C.f C.L x.1 = t0 := ⟨_, rfl⟩
  rw [hto] at z8 hp ⊢
  rw [hlen] at hi
  have HWS := Lib.hid (fun V (hV : Below w.heap.size w V) => wstore1 (h.kept hV) j (t0 + i) v hj hp)
  obtain ⟨tt, htt⟩ : ∃ tt, IntKind.i64.wrap (M.touches + 1) = tt := ⟨_, rfl⟩
  obtain ⟨ll, hll⟩ : ∃ ll, IntKind.i64.wrap (M.left - 1) = ll := ⟨_, rfl⟩
  obtain ⟨cs, hcs⟩ : ∃ cs, M.cells.set (t0 + i) v = cs := ⟨_, rfl⟩
  rw [htt, hll, hcs] at HWS ⊢
  have hw : IntKind.i64.wrap ((t0 : Int) + (i : Int)) = (t0 : Int) + (i : Int) := IntWalk.i64_in _ (by omega)
  have hw2 : IntKind.i64.wrap ((i : Int) + 1) = (i : Int) + 1 := IntWalk.i64_in _ (by omega)
  have HRW := Lib.hid (show (t0 : Int) + (i : Int) = ((t0 + i : Nat) : Int) by omega)
  have HTO := Lib.hid hto
  have HLEN := Lib.hid hlen
  have HGL := Lib.hid hgl
  have ht6 : t0 ≤ 65536 := by omega
  have hi6 : i ≤ 65536 := by omega
  have HH := Lib.hid h
  clear h L l1 l2 l3 l4 l5 l6 l7 l8 l9 l10 htt hll hcs hm hp hto hlen hgl
  go_enter Tryz.func107, Tryz.ntmps107
  go_upto_region 0 with fail
  go_still_tail 14, (by kernel_rfl)
  change wpList _ _ _ _ _ w.drew
  go_wp2_with fail
  rw [HRW.out]
  refine (HWS.out _ (Below.refl _ w).drew).mono ?_
  rintro e w2 ⟨rfl, h2, -⟩
  have L2 := h2.wks j hj
  have y12 : w2.cell? ⟨C.wk j, 12, none⟩ = some (.int .i64 (i : Nat)) := by rw [← HLK.out.2.2.2.2.2.2.2.1]; exact L2.cell 12
  have f12 := L2.frozen 12
  have lt2 := L2.lt
  have S3 := h2.upd hj 12 (.int .i64 ((i : Int) + 1)) { M.wks j with many := (i : Int) + 1 } rfl (h2.rows j hj)
  obtain ⟨w3, hw3⟩ : ∃ w3, w2.setCell ⟨C.wk j, 12, none⟩ (.int .i64 ((i : Int) + 1)) = w3 := ⟨_, rfl⟩
  rw [hw3] at S3
  have HW3 := Lib.hid hw3
  have HS3 := Lib.hid S3
  have L3 := S3.wks j hj
  rw [upd_at] at L3
  have x12 : w3.cell? ⟨C.wk j, 12, none⟩ = some (.int .i64 ((i : Int) + 1)) := L3.cell 12
  have x10 : w3.cell? ⟨C.wk j, 10, none⟩ = some (.int .i64 (len : Nat)) := by rw [← HGL.out]; exact L3.cell 10
  clear h2 L2 S3 L3 hw3 z8 z12 z13
  go_upto_region 2 with fail
  rw [HW3.out]
  clear y12 f12 lt2
  · have d1 : decide (((i : Int) + 1) ≤ (len : Int)) = true := by simp; omega
    go_region
    obtain ⟨w4, hw4⟩ : ∃ w4, w3.drew = w4 := ⟨_, rfl⟩
    rw [hw4]
    have S4 := HS3.out.kept (w' := w4) (by rw [← hw4]; exact (Below.refl _ w3).drew)
    clear hw4 x12 x10
    have L4 := S4.wks j hj
    rw [upd_at] at L4
    have y2 : w4.cell? ⟨C.wk j, 2, none⟩ = some (.func (.func (M.wks j).next) #[] #[]) := L4.cell 2
    have f2 := L4.frozen 2
    have lt4 := L4.lt
    have HS4 := Lib.hid S4
    clear S4 L4
    go_wp2_with fail
    refine bodyPost_ret (results_none rfl _ _ _) rfl ?_
    have S7 := HS4.out.upd2 hj 2 (.func (.func 96) #[] #[]) { M.wks j with next := 96, many := (i : Int) + 1 } rfl (by have := HS4.out.rows j hj; rw [upd_at] at this; exact this)
    obtain ⟨l1, l2, l3, l4, l5, l6, l7, l8, l9, l10⟩ := HLK.out
    exact ⟨rfl, _, S7, rfl, l2, l3, l4, l5, l6, l7, rfl, fun _ => l9⟩

set_option maxRecDepth 100000 in
set_option maxHeartbeats 4000000 in
theorem put_last (h : Sl w0 w C M) (j : Nat) (hj : j < C.n) (r : Nat) (x : Nat × Ob) (i : Nat) (v : Int) (st : List (Nat × Ob)) (fr : Nat) (hl : Lk C (M.wks j) (.put r x i v st fr)) (hp : goS C.f C.L x.1 + i < M.cells.length) (hm : M.cells.length ≤ 65536) (hi : ¬ i + 1 ≤ x.2.2.length) (hi4 : i ≤ 4095) (hx4 : x.2.2.length ≤ 4095) (hx1 : x.1 ≤ 65536) (hk : ∀ x ∈ st, isK C.f C.L x.1 = true) :
    Calls Tryz.prog 107 #[.pointer (some ⟨C.wk j, 0, none⟩)] w fun e w' => e = .returned (.tuple #[]) ∧ ∃ k', Sl w0 w' C ({ M with cells := M.cells.set (goS C.f C.L x.1 + i) v, left := IntKind.i64.wrap (M.left - 1), touches := IntKind.i64.wrap (M.touches + 1), moved := IntKind.i64.wrap (M.moved + 1) }.upd j k') ∧ Lk C k' (turnP C r (awL C.f C.W C.K C.L x) st fr) := by
  obtain ⟨l1, l2, l3, l4, l5, l6, l7, l8, l9, l10⟩ := hl
  have L := h.wks j hj
  have z8 : w.cell? ⟨C.wk j, 8, none⟩ = some (.int .i64 (goS C.f C.L x.1 : Nat)) := by rw [← l7]; exact L.cell 8
  have z12 : w.cell? ⟨C.wk j, 12, none⟩ = some (.int .i64 (i : Nat)) := by rw [← l8]; exact L.cell 12
  have z13 : w.cell? ⟨C.wk j, 13, none⟩ = some (.int .i64 v) := by rw [← l10]; exact L.cell 13
  have HLK := Lib.hid (show Lk C (M.wks j) (.put r x i v st fr) from ⟨l1, l2, l3, l4, l5, l6, l7, l8, l9, l10⟩)
  obtain ⟨len, hlen⟩ : ∃ len, x.2.2.length = len := ⟨_, rfl⟩
  have hgl : (M.wks j).hl = (len : Nat) := by rw [l9.2.1, hlen]
  obtain ⟨t0, hto⟩ : ∃ t0, goS C.f C.L x.1 = t0 := ⟨_, rfl⟩
  rw [hto] at z8 hp ⊢
  rw [hlen] at hi
  have HWS := Lib.hid (fun V (hV : Below w.heap.size w V) => wstore1 (h.kept hV) j (t0 + i) v hj hp)
  obtain ⟨tt, htt⟩ : ∃ tt, IntKind.i64.wrap (M.touches + 1) = tt := ⟨_, rfl⟩
  obtain ⟨ll, hll⟩ : ∃ ll, IntKind.i64.wrap (M.left - 1) = ll := ⟨_, rfl⟩
  obtain ⟨cs, hcs⟩ : ∃ cs, M.cells.set (t0 + i) v = cs := ⟨_, rfl⟩
  rw [htt, hll, hcs] at HWS ⊢
  have hw : IntKind.i64.wrap ((t0 : Int) + (i : Int)) = (t0 : Int) + (i : Int) := IntWalk.i64_in _ (by omega)
  have hw2 : IntKind.i64.wrap ((i : Int) + 1) = (i : Int) + 1 := IntWalk.i64_in _ (by omega)
  have HRW := Lib.hid (show (t0 : Int) + (i : Int) = ((t0 + i : Nat) : Int) by omega)
  have HTO := Lib.hid hto
  have HLEN := Lib.hid hlen
  have HGL := Lib.hid hgl
  have ht6 : t0 ≤ 65536 := by omega
  have hi6 : i ≤ 65536 := by omega
  have HH := Lib.hid h
  obtain ⟨M0, hM0⟩ : ∃ M0, M.moved = M0 := ⟨_, rfl⟩
  obtain ⟨mm, hmm⟩ : ∃ mm, IntKind.i64.wrap (M.moved + 1) = mm := ⟨_, rfl⟩
  rw [hmm]
  rw [hM0] at hmm
  have HMM := Lib.hid hmm
  have HM0 := Lib.hid hM0
  have HX1 := Lib.hid hx1
  have HX4 := Lib.hid hx4
  have HK := Lib.hid hk
  clear hmm hM0 hx1 hx4 hk
  clear h L l1 l2 l3 l4 l5 l6 l7 l8 l9 l10 htt hll hcs hm hp hto hlen hgl
  go_enter Tryz.func107, Tryz.ntmps107
  go_upto_region 0 with fail
  go_still_tail 14, (by kernel_rfl)
  change wpList _ _ _ _ _ w.drew
  go_wp2_with fail
  rw [HRW.out]
  refine (HWS.out _ (Below.refl _ w).drew).mono ?_
  rintro e w2 ⟨rfl, h2, -⟩
  have L2 := h2.wks j hj
  have y12 : w2.cell? ⟨C.wk j, 12, none⟩ = some (.int .i64 (i : Nat)) := by rw [← HLK.out.2.2.2.2.2.2.2.1]; exact L2.cell 12
  have f12 := L2.frozen 12
  have lt2 := L2.lt
  have S3 := h2.upd hj 12 (.int .i64 ((i : Int) + 1)) { M.wks j with many := (i : Int) + 1 } rfl (h2.rows j hj)
  obtain ⟨w3, hw3⟩ : ∃ w3, w2.setCell ⟨C.wk j, 12, none⟩ (.int .i64 ((i : Int) + 1)) = w3 := ⟨_, rfl⟩
  rw [hw3] at S3
  have HW3 := Lib.hid hw3
  have HS3 := Lib.hid S3
  have L3 := S3.wks j hj
  rw [upd_at] at L3
  have x12 : w3.cell? ⟨C.wk j, 12, none⟩ = some (.int .i64 ((i : Int) + 1)) := L3.cell 12
  have x10 : w3.cell? ⟨C.wk j, 10, none⟩ = some (.int .i64 (len : Nat)) := by rw [← HGL.out]; exact L3.cell 10
  clear h2 L2 S3 L3 hw3 z8 z12 z13
  go_upto_region 2 with fail
  rw [HW3.out]
  clear y12 f12 lt2
  · have d1 : decide (((i : Int) + 1) ≤ (len : Int)) = false := by simp; omega
    go_region
    obtain ⟨w4, hw4⟩ : ∃ w4, w3.drew = w4 := ⟨_, rfl⟩
    rw [hw4]
    have S4 := HS3.out.kept (w' := w4) (by rw [← hw4]; exact (Below.refl _ w3).drew)
    clear hw4 x12 x10
    have L4 := S4.wks j hj
    rw [upd_at] at L4
    have y0 : w4.cell? ⟨C.wk j, 0, none⟩ = some (.pointer (some ⟨C.S, 0, none⟩)) := L4.cell 0
    have yS : w4.cell? ⟨C.S, 7, none⟩ = some (.int .i64 M.moved) := S4.own.cell 7
    have fS := S4.own.frozen 7
    have lS := S4.own.lt
    have S5 := S4.setS 7 (.int .i64 mm) ll tt mm rfl
    have yS2 : w4.cell? ⟨C.S, 7, none⟩ = some (.int .i64 M0) := by rw [← HM0.out]; exact yS
    have hmm := HMM.out
    obtain ⟨w5, hw5⟩ : ∃ w5, w4.setCell ⟨C.S, 7, none⟩ (.int .i64 mm) = w5 := ⟨_, rfl⟩
    rw [hw5] at S5
    have S5' : Sl w0 w5 C ({ M with cells := cs, left := ll, touches := tt, moved := mm }.upd j { M.wks j with many := (i : Int) + 1 }) := S5
    have HS5 := Lib.hid S5'
    have HW5 := Lib.hid hw5
    clear S4 L4 S5 S5' hw5 yS
    go_upto_region 5 with fail
    rw [HW5.out]
    have S5 := HS5.out
    have L5 := S5.wks j hj
    rw [upd_at] at L5
    obtain ⟨hkv, hhkv⟩ : ∃ hkv, (M.wks j).hk = hkv := ⟨_, rfl⟩
    obtain ⟨hpv, hhpv⟩ : ∃ hpv, (M.wks j).hp = hpv := ⟨_, rfl⟩
    obtain ⟨xa, hxa⟩ : ∃ xa, x.1 = xa := ⟨_, rfl⟩
    have u0 : w5.cell? ⟨C.wk j, 0, none⟩ = some (.pointer (some ⟨C.S, 0, none⟩)) := L5.cell 0
    have u7 : w5.cell? ⟨C.wk j, 7, none⟩ = some (.int .i64 (xa : Nat)) := by rw [← hxa, ← HLK.out.2.2.2.2.2.1]; exact L5.cell 7
    have u9 : w5.cell? ⟨C.wk j, 9, none⟩ = some (.int .i64 hkv) := by rw [← hhkv]; exact L5.cell 9
    have u10 : w5.cell? ⟨C.wk j, 10, none⟩ = some (.int .i64 (len : Nat)) := by rw [← HGL.out]; exact L5.cell 10
    have u11 : w5.cell? ⟨C.wk j, 11, none⟩ = some (.int .i64 hpv) := by rw [← hhpv]; exact L5.cell 11
    obtain ⟨q, F⟩ := fq_of (S5.fo.kept S5.old)
    have HAW := Lib.hid (fun V (hV : Below w5.heap.size w5 V) => awaiting_any (F.kept hV) (fun k => fo_first_le S5.fo k) (by have := S5.fo.k65; omega) C.S (fun V2 hV2 => (S5.kept (on hV hV.size hV2)).own.cell 0) x HX1.out hkv hpv len HLEN.out (by rw [← HLEN.out]; exact HX4.out))
    rw [hxa] at HAW
    have HXA := Lib.hid hxa
    have f14 : w5.cell? ⟨C.wk j, 14, none⟩ = some (.slice (M.wks j).AB (M.wks j).awaiting.length (M.wks j).ac) := L5.cell 14
    have hB5 := S5.size
    have HB5 := Lib.hid hB5
    clear S5 L5 F hhkv hhpv hxa y0 yS2 fS lS hmm hB5 f14
    go_region_with ((first | (go_at_call 55; refine (HAW.out _ (by first | exact (Below.refl _ _).drew | exact Below.refl _ _)).mono ?_; rintro e w6 ⟨AB, ac, rfl, R6, hb6⟩; (have hb66 : Below w5.heap.size w5 w6 := on ((Below.refl w5.heap.size w5).drew) (Nat.le_refl _) hb6); (have S6 := HS5.out.kept hb66); (have LW6 := S6.wks j hj); rw [upd_at] at LW6; (have y146 : w6.cell? ⟨C.wk j, 14, none⟩ = some (.slice (M.wks j).AB (M.wks j).awaiting.length (M.wks j).ac) := LW6.cell 14); (have f146 := LW6.frozen 14); (have l146 := LW6.lt); (have HS6 := Lib.hid S6); (have HR6 := Lib.hid R6); clear S6 LW6 hb6 hb66 R6) | fail))
    all_goals
      have S7 := HS6.out.upd2 hj 14 (.slice AB (awL C.f C.W C.K C.L x).length ac) { M.wks j with many := (i : Int) + 1, AB := AB, ac := ac, awaiting := natZ (awL C.f C.W C.K C.L x) } (by unfold Wk.cells; simp [natZ]) ⟨by have := (HS6.out.rows j hj).1; rw [upd_at] at this; exact this, Sq.of_rv HR6.out HB5.out⟩
      have HT := Lib.hid (turn_ph S7 j hj r fr (awL C.f C.W C.K C.L x) st (by rw [upd_at]) (by rw [upd_at]; exact HLK.out.2.1) (by rw [upd_at]; exact HLK.out.2.2.2.1) (by rw [upd_at]; exact HLK.out.2.2.2.2.1) HK.out)
      clear S7
      go_wp2_with fail
      refine HT.out.mono ?_
      rintro e w7 ⟨rfl, k', h7, l7⟩
      rw [upd_upd] at h7
      have H7' := Lib.hid h7
      have HL7 := Lib.hid l7
      clear h7 l7 HT
      go_wp2_with fail
      go_end0
      exact ⟨rfl, k', H7'.out, HL7.out⟩
end
end Go.Proofs.YtklhdilbmpndkaaGreat

namespace Go.Proofs.YtklhdilbmpndkaaGreat
set_option maxRecDepth 20000
open Go.RowKit Go.Sort
attribute [local go_sem] store_func
set_option linter.unusedVariables false
set_option linter.unusedSimpArgs false


section
variable {w0 : W2} {w : World} {C : Cx} {M : Ms}
set_option maxRecDepth 100000 in
set_option maxHeartbeats 2000000 in
theorem step_go (h : Sl w0 w C M) (i : Nat) (hi : i < C.n) (hl : M.left ≠ 0) (hnn : (M.wks i).next = 30 ∨ (M.wks i).next = 61 ∨ (M.wks i).next = 63 ∨ (M.wks i).next = 95 ∨ (M.wks i).next = 96 ∨ (M.wks i).next = 97 ∨ (M.wks i).next = 107) (Q : World → Prop) (hc : Calls Tryz.prog (M.wks i).next #[.pointer (some ⟨C.wk i, 0, none⟩)] w fun e w' => e = .returned (.tuple #[]) ∧ Q w') :
    Calls Tryz.prog 11 #[.pointer (some ⟨C.S, 0, none⟩), .int .i64 (i : Nat)] w fun e w' => e = .returned (.int .i64 0) ∧ Q w' := by
  have c0 : w.cell? ⟨C.S, 4, none⟩ = some (.slice (some ⟨C.wb, 0, none⟩) C.n C.wcap) := h.own.cell 4
  obtain ⟨cs, h1, h2⟩ := h.wrow
  have c1 : w.cell? ⟨C.wb, i, none⟩ = some (.pointer (some ⟨C.wk i, 0, none⟩)) := by rw [h1.cell]; exact h2 i hi
  have L := h.wks i hi
  obtain ⟨nx, hnx⟩ : ∃ nx, (M.wks i).next = nx := ⟨_, rfl⟩
  have c2 : w.cell? ⟨C.wk i, 2, none⟩ = some (.func (.func nx) #[] #[]) := by rw [← hnx]; exact L.cell 2
  rw [hnx] at hc hnn
  have HC := Lib.hid hc
  have HO := Lib.hid (over_any h)
  have hlf : decide (M.left = 0) = false := by simp [hl]
  rw [hlf] at HO
  have hn := h.n2
  have d0 : decide ((i : Int) < 0) = false := by simp
  have d1 : decide ((C.n : Int) ≤ (i : Int)) = false := by simp; omega
  have d2 : (i : Int) < (C.n : Int) := by omega
  clear h hl h1 h2 L hnx hc hlf
  rcases hnn with rfl | rfl | rfl | rfl | rfl | rfl | rfl
  all_goals
    go_enter Tryz.func11, Tryz.ntmps11
    go_wp2_with fail
    refine HO.out.mono ?_
    rintro e w2 ⟨rfl, rfl⟩
    go_wp2_with fail
    refine HC.out.mono ?_
    rintro e w3 ⟨rfl, hQ⟩
    have HQ := Lib.hid hQ
    clear hQ c0 c1 c2
    go_wp2_with fail
    go_ret
    exact ⟨rfl, HQ.out⟩

set_option maxHeartbeats 400000 in
theorem rest_any (j : Nat) : Calls Tryz.prog 61 #[.pointer (some ⟨C.wk j, 0, none⟩)] w fun e w' => e = .returned (.tuple #[]) ∧ w' = w := by
  go_enter Tryz.func61, Tryz.ntmps61
  go_wp2
  go_end0
  exact ⟨rfl, rfl⟩
end
end Go.Proofs.YtklhdilbmpndkaaGreat
