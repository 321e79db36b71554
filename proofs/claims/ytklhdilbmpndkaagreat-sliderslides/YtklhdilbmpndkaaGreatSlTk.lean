/- take: the next word of an object. -/
import Derived.Test.YtklhdilbmpndkaaGreatHf
import Derived.Deep.DeepCutAuto
namespace Go.Proofs.YtklhdilbmpndkaaGreat
set_option maxRecDepth 20000
open Go.RowKit Go.Sort
attribute [local go_sem] store_func
set_option linter.unusedVariables false
set_option linter.unusedSimpArgs false


/-- An object's words, its head first; and what they become. -/
def srcW (x : Nat × Ob) (i : Nat) : Int := if i = 0 then x.2.1 else x.2.2.getD (i - 1) 0
def dstW (f : Nat → Bool) (L : List (Nat × Ob)) (x : Nat × Ob) (i : Nat) : Int := if i = 0 then x.2.1 else if i ≤ ptrs x.2.1 then mvW f L (x.2.2.getD (i - 1) 0) else x.2.2.getD (i - 1) 0
section
variable {w0 : W2} {w : World} {C : Cx} {M : Ms}
theorem Sl.touched (M : Ms) (t : Int) (j : Nat) : ({ M with touches := t } : Ms).wks j = M.wks j := rfl

set_option maxRecDepth 100000 in
set_option maxHeartbeats 4000000 in
theorem take_any (h : Sl w0 w C M) (j : Nat) (hj : j < C.n) (r : Nat) (x : Nat × Ob) (i : Nat) (st : List (Nat × Ob)) (fr : Nat) (hl : Lk C (M.wks j) (.take r x i st fr)) (hp : x.1 + i < M.cells.length) (hm : M.cells.length ≤ 65536) (hz : M.cells.getD (x.1 + i) 0 = srcW x i)
    (hh : headB x.2.1 = true) (hln : x.2.1 / 65536 = (x.2.2.length : Nat)) (hpt : x.2.1 % 65536 / 16 = (ptrs x.2.1 : Nat)) (hok : ∀ i, 1 ≤ i → i ≤ ptrs x.2.1 → okW C.f C.L (x.2.2.getD (i - 1) 0) = true) (hir : ∀ i, InR (x.2.2.getD i 0)) :
    Calls Tryz.prog 96 #[.pointer (some ⟨C.wk j, 0, none⟩)] w fun e w' => e = .returned (.tuple #[]) ∧ ∃ k', Sl w0 w' C ({ M with touches := IntKind.i64.wrap (M.touches + 1) }.upd j k') ∧ Lk C k' (.put r x i (dstW C.f C.L x i) st fr) := by
  obtain ⟨l1, l2, l3, l4, l5, l6, l7, l8, l9⟩ := hl
  have L := h.wks j hj
  have z0 : w.cell? ⟨C.wk j, 0, none⟩ = some (.pointer (some ⟨C.S, 0, none⟩)) := L.cell 0
  have z7 : w.cell? ⟨C.wk j, 7, none⟩ = some (.int .i64 (x.1 : Nat)) := by rw [← l6]; exact L.cell 7
  have z12 : w.cell? ⟨C.wk j, 12, none⟩ = some (.int .i64 (i : Nat)) := by rw [← l8]; exact L.cell 12
  have zS : w.cell? ⟨C.S, 1, none⟩ = some (.pointer (some ⟨C.g1, 0, none⟩)) := h.own.cell 1
  have hrw : (x.1 : Int) + (i : Int) = ((x.1 + i : Nat) : Int) := by omega
  have HH := Lib.hid h
  have HWL := Lib.hid (fun V (hV : Below w.heap.size w V) => wload1 (h.kept hV) j (x.1 + i) hj hp)
  rw [hz] at HWL
  obtain ⟨z, hzz⟩ : ∃ z, srcW x i = z := ⟨_, rfl⟩
  rw [hzz] at HWL
  have HZ := Lib.hid hzz
  have hxl : x.1 + i < 65536 := by omega
  have hx1 : x.1 ≤ 65536 := by omega
  have hi1 : i ≤ 65536 := by omega
  have HHH := Lib.hid hh
  have HLN := Lib.hid hln
  have HPT := Lib.hid hpt
  have HOK := Lib.hid hok
  have HIR := Lib.hid hir
  have HLK := Lib.hid (show Lk C (M.wks j) (.take r x i st fr) from ⟨l1, l2, l3, l4, l5, l6, l7, l8, l9⟩)
  obtain ⟨tt, htt⟩ : ∃ tt, IntKind.i64.wrap (M.touches + 1) = tt := ⟨_, rfl⟩
  rw [htt] at HWL ⊢
  have HTT := Lib.hid htt
  clear htt
  obtain ⟨at0, hat0⟩ : ∃ at0, x.1 = at0 := ⟨_, rfl⟩
  rw [hat0] at z7 hrw HWL hxl hx1
  have HAT := Lib.hid hat0
  have hw : IntKind.i64.wrap ((at0 : Int) + (i : Int)) = (at0 : Int) + (i : Int) := IntWalk.i64_in _ (by omega)
  have HRW := Lib.hid hrw
  clear hrw
  clear h L hz hzz hp hm hat0 hh hln hpt hok hir l1 l2 l3 l4 l5 l6 l7 l8 l9
  go_enter Tryz.func96, Tryz.ntmps96
  go_upto_region 0 with fail
  go_cut [] (fun wx => Sl w0 wx C ({ M with touches := tt }.upd j { M.wks j with word := z }))
  case first =>
    go_region_with ((first | (go_at_call 94; rw [HRW.out]; refine (HWL.out _ (by first | exact (Below.refl _ _).drew | exact Below.refl _ _)).mono ?_; rintro e w2 ⟨rfl, h2, -⟩; (have L2 := h2.wks j hj); (have y13 : w2.cell? ⟨C.wk j, 13, none⟩ = some (.int .i64 (M.wks j).word) := L2.cell 13); (have f13 := L2.frozen 13); (have lt2 := L2.lt); (have H2 := Lib.hid h2); clear h2 L2) | fail))
    all_goals
      go_wp2_with fail
      go_meet
      exact H2.out.upd hj 13 (.int .i64 z) { M.wks j with word := z } rfl (H2.out.rows j hj)
  case rest =>
  obtain ⟨w3, hw3⟩ : ∃ w3, wc = w3 := ⟨_, rfl⟩
  rw [hw3] at hcut ⊢
  have HS3 := Lib.hid hcut
  have L3 := hcut.wks j hj
  rw [upd_at] at L3
  have hlk := HLK.out
  have x12 : w3.cell? ⟨C.wk j, 12, none⟩ = some (.int .i64 (i : Nat)) := by rw [← hlk.2.2.2.2.2.2.2.1]; exact L3.cell 12
  have x13 : w3.cell? ⟨C.wk j, 13, none⟩ = some (.int .i64 z) := L3.cell 13
  have x2 : w3.cell? ⟨C.wk j, 2, none⟩ = some (.func (.func (M.wks j).next) #[] #[]) := L3.cell 2
  have fx2 := L3.frozen 2
  have ltx := L3.lt
  clear hcut L3 hw3 z0 z7 z12 zS HWL hlk
  go_upto_region 1 with fail
  by_cases hi0 : i = 0
  · subst hi0
    have hz0 : z = x.2.1 := by rw [← HZ.out]; rfl
    have hd : dstW C.f C.L x 0 = z := by rw [hz0]; rfl
    subst hz0
    go_wp2_with fail
    refine (unpack_yes x.2.1 _ HHH.out).mono ?_
    rintro e w4 ⟨rfl, hb4⟩
    have S4 := HS3.out.kept hb4
    have L4 := S4.wks j hj
    rw [upd_at] at L4
    have y9 : w4.cell? ⟨C.wk j, 9, none⟩ = some (.int .i64 (M.wks j).hk) := L4.cell 9
    have y10 : w4.cell? ⟨C.wk j, 10, none⟩ = some (.int .i64 (M.wks j).hl) := L4.cell 10
    have y11 : w4.cell? ⟨C.wk j, 11, none⟩ = some (.int .i64 (M.wks j).hp) := L4.cell 11
    have y2 : w4.cell? ⟨C.wk j, 2, none⟩ = some (.func (.func (M.wks j).next) #[] #[]) := L4.cell 2
    have f9 := L4.frozen 9
    have f10 := L4.frozen 10
    have f11 := L4.frozen 11
    have f2 := L4.frozen 2
    have l4 := L4.lt
    have HS4 := Lib.hid S4
    clear S4 L4 hb4 x12 x13 x2 fx2 ltx
    go_wp2_with fail
    go_end0
    have S5 := HS4.out.upd2 hj 9 (.int .i64 (x.2.1 % 16)) { M.wks j with word := x.2.1, hk := x.2.1 % 16 } rfl (by have := HS4.out.rows j hj; rw [upd_at] at this; exact this)
    have S6 := S5.upd2 hj 10 (.int .i64 (x.2.1 / 65536)) { M.wks j with word := x.2.1, hk := x.2.1 % 16, hl := x.2.1 / 65536 } rfl (by have := S5.rows j hj; rw [upd_at] at this; exact this)
    have S7 := S6.upd2 hj 11 (.int .i64 (x.2.1 % 65536 / 16)) { M.wks j with word := x.2.1, hk := x.2.1 % 16, hl := x.2.1 / 65536, hp := x.2.1 % 65536 / 16 } rfl (by have := S6.rows j hj; rw [upd_at] at this; exact this)
    have S8 := S7.upd2 hj 2 (.func (.func 107) #[] #[]) { M.wks j with next := 107, word := x.2.1, hk := x.2.1 % 16, hl := x.2.1 / 65536, hp := x.2.1 % 65536 / 16 } rfl (by have := S7.rows j hj; rw [upd_at] at this; exact this)
    obtain ⟨l1, l2, l3, l4, l5, l6, l7, l8, l9⟩ := HLK.out
    exact ⟨rfl, _, S8, rfl, l2, l3, l4, l5, l6, l7, l8, ⟨rfl, HLN.out, HPT.out⟩, rfl⟩
  · have hii : 1 ≤ i := by omega
    obtain ⟨l1, l2, l3, l4, l5, l6, l7, l8, l9⟩ := HLK.out
    obtain ⟨g1, g2, g3⟩ := l9 hii
    have S3 := HS3.out
    have L3 := S3.wks j hj
    rw [upd_at] at L3
    obtain ⟨P, hP⟩ : ∃ P, ptrs x.2.1 = P := ⟨_, rfl⟩
    have x11 : w3.cell? ⟨C.wk j, 11, none⟩ = some (.int .i64 (P : Nat)) := by rw [← hP, ← g3]; exact L3.cell 11
    have d1 : ((i : Int) == 0) = false := by simp; omega
    have HP := Lib.hid hP
    have HG := Lib.hid (And.intro g1 (And.intro g2 g3))
    have HII := Lib.hid hii
    by_cases hiP : i ≤ P
    · have d2 : decide ((i : Int) ≤ (P : Int)) = true := by simp; omega
      have hz2 : x.2.2.getD (i - 1) 0 = z := by rw [← HZ.out]; unfold srcW; rw [if_neg hi0]
      have hok2 : okW C.f C.L z = true := by rw [← hz2]; exact HOK.out i hii (by omega)
      have HTO := Lib.hid (fun V (hV : Below w3.heap.size w3 V) => word_any ((S3.fo.kept S3.old).kept hV) z (by rw [← hz2]; exact HIR.out _))
      have hdst : dstW C.f C.L x i = mvW C.f C.L z := by unfold dstW; rw [if_neg hi0, if_pos (by omega), hz2]
      have HD := Lib.hid hdst
      rw [show adr 0 C.obs = C.L from rfl, hok2] at HTO
      simp only [if_true] at HTO
      obtain ⟨mv, hmv⟩ : ∃ mv, mvW C.f C.L z = mv := ⟨_, rfl⟩
      rw [hmv] at HTO
      have HMV := Lib.hid hmv
      have x0 : w3.cell? ⟨C.wk j, 0, none⟩ = some (.pointer (some ⟨C.S, 0, none⟩)) := L3.cell 0
      have xS : w3.cell? ⟨C.S, 0, none⟩ = some (.pointer (some ⟨C.b, 0, none⟩)) := S3.own.cell 0
      clear l1 l2 l3 l4 l5 l6 l7 l8 l9 g1 g2 g3 S3 L3 hP hi0 hii hz2 hok2 hdst hmv
      go_upto_region 3 with fail
      go_region
      go_upto_region 4 with fail
      obtain ⟨w4, hw4⟩ : ∃ w4, w3.drew = w4 := ⟨_, rfl⟩
      have HW4 := Lib.hid hw4
      have b4 : Below w3.heap.size w3 w4 := by rw [← hw4]; exact (Below.refl _ w3).drew
      have S4 := HS3.out.kept b4
      have L4 := S4.wks j hj
      rw [upd_at] at L4
      have v0 : w4.cell? ⟨C.wk j, 0, none⟩ = some (.pointer (some ⟨C.S, 0, none⟩)) := L4.cell 0
      have v13 : w4.cell? ⟨C.wk j, 13, none⟩ = some (.int .i64 z) := L4.cell 13
      have vS : w4.cell? ⟨C.S, 0, none⟩ = some (.pointer (some ⟨C.b, 0, none⟩)) := S4.own.cell 0
      have HS4 := Lib.hid S4
      have HTO4 := Lib.hid (fun V (hV : Below w4.heap.size w4 V) => HTO.out V (on b4 b4.size hV))
      rw [hw4]
      clear S4 L4 b4 hw4 x0 x2 x11 x12 x13 xS fx2 ltx
      go_region_with ((first | (go_at_call 35; refine (HTO4.out _ (by first | exact (Below.refl _ _).drew | exact Below.refl _ _)).mono ?_; rintro e w5 ⟨rfl, hb5⟩; (have hb55 : Below w4.heap.size w4 w5 := on ((Below.refl w4.heap.size w4).drew) (Nat.le_refl _) hb5); (have S5 := HS4.out.kept hb55); (have LW5 := S5.wks j hj); rw [upd_at] at LW5; (have y135 : w5.cell? ⟨C.wk j, 13, none⟩ = some (.int .i64 z) := LW5.cell 13); (have f135 := LW5.frozen 13); (have y25 : w5.cell? ⟨C.wk j, 2, none⟩ = some (.func (.func (M.wks j).next) #[] #[]) := LW5.cell 2); (have f25 := LW5.frozen 2); (have l85 := LW5.lt); (have HS5 := Lib.hid S5); clear S5 LW5 hb5 hb55) | fail))
      all_goals
        go_wp2_with fail
        go_end0
        have S6 := HS5.out.upd2 hj 13 (.int .i64 mv) { M.wks j with word := mv } rfl (by have := HS5.out.rows j hj; rw [upd_at] at this; exact this)
        have S7 := S6.upd2 hj 2 (.func (.func 107) #[] #[]) { M.wks j with next := 107, word := mv } rfl (by have := S6.rows j hj; rw [upd_at] at this; exact this)
        obtain ⟨l1, l2, l3, l4, l5, l6, l7, l8, l9⟩ := HLK.out
        exact ⟨rfl, _, S7, rfl, l2, l3, l4, l5, l6, l7, l8, HG.out, by rw [HD.out, HMV.out]⟩
    · have d2 : decide ((i : Int) ≤ (P : Int)) = false := by simp; omega
      clear l1 l2 l3 l4 l5 l6 l7 l8 l9 g1 g2 g3 S3 L3 hP hi0 hii
      go_upto_region 3 with fail
      go_region
      have S4 := HS3.out.kept ((Below.refl _ w3).drew)
      have L4 := S4.wks j hj
      rw [upd_at] at L4
      have y2 : w3.drew.cell? ⟨C.wk j, 2, none⟩ = some (.func (.func (M.wks j).next) #[] #[]) := L4.cell 2
      have f2 := L4.frozen 2
      have l4 := L4.lt
      have HS4 := Lib.hid S4
      clear S4 L4 x2 x11 x12 x13 fx2 ltx
      go_wp2_with fail
      go_end0
      have S7 := HS4.out.upd2 hj 2 (.func (.func 107) #[] #[]) { M.wks j with next := 107, word := z } rfl (by have := HS4.out.rows j hj; rw [upd_at] at this; exact this)
      obtain ⟨l1, l2, l3, l4, l5, l6, l7, l8, l9⟩ := HLK.out
      have hii := HII.out
      have hpp := HP.out
      exact ⟨rfl, _, S7, rfl, l2, l3, l4, l5, l6, l7, l8, HG.out, by rw [← HZ.out]; unfold srcW dstW; rw [if_neg (by omega), if_neg (by omega), if_neg (by omega)]⟩
end
end Go.Proofs.YtklhdilbmpndkaaGreat
