/- firstSigns: what waits for what, ahead of the first step. -/
import Derived.Test.YtklhdilbmpndkaaGreatJe
import Derived.Test.YtklhdilbmpndkaaGreatGr
import Derived.WalkMore
namespace Go.Proofs.YtklhdilbmpndkaaGreat
set_option maxRecDepth 20000
open Go.RowKit Go.Shelf Go.Sort
attribute [local go_sem] Oper.semAt_some
set_option linter.unusedVariables false
set_option linter.unusedSimpArgs false


def sgL (f : Nat → Bool) (W K : Nat) (L M : List (Nat × Ob)) : List Int := 0 :: (List.range K).map fun k => ((waitN f W K L M k : Nat) : Int)
theorem sg_nil (f : Nat → Bool) (W K : Nat) (L : List (Nat × Ob)) : sgL f W K L [] = List.replicate (K + 1) 0 := by
  unfold sgL
  rw [List.replicate_succ]
  congr 1
  refine List.ext_getElem? fun i => ?_
  by_cases h : i < K
  · simp [h, waitN]
  · rw [List.getElem?_eq_none (by simp; omega), List.getElem?_eq_none (by simp; omega)]
/-- What lies there while the objects are gone through. -/
structure SgI (w : World) (Sb g bs gs K : Nat) (row : List Int) (Wd : World) : Prop where
  old : Below w.heap.size w Wd
  l0 : Lies Wd bs 38 [.pointer (some ⟨Sb, 0, none⟩)]
  l1 : Lies Wd (bs + 1) 29 [.pointer (some ⟨g, 0, none⟩)]
  l2 : Lies Wd (bs + 1 + 1) 30 [.slice none 0 0]
  l3 : Lies Wd (bs + 1 + 1 + 1) 39 [.int .i64 0]
  lv : Lies Wd (gs + 1) 30 [.slice (some ⟨gs, 0, none⟩) (K + 1) (K + 1)]
  row : Lies Wd gs 3 (row.map (Value.int .i64))
section
variable {w Wd W' : World} {Sb g bs gs K : Nat} {row : List Int}
theorem SgI.kept (h : SgI w Sb g bs gs K row Wd) (hb : Below Wd.heap.size Wd W') : SgI w Sb g bs gs K row W' :=
  ⟨on h.old h.old.size hb, h.l0.kept hb, h.l1.kept hb, h.l2.kept hb, h.l3.kept hb, h.lv.kept hb, h.row.kept hb⟩
theorem SgI.grown {B : Nat} {r : Option Nat} (h : SgI w Sb g bs gs K row Wd) (hB : w.heap.size ≤ B) (hg : Wd.grownBy W' r) (hr : ∀ k, r = some k → B ≤ k ∧ ∃ o : Obj, Wd.heap[k]? = some o ∧ o.isCells = false) : SgI w Sb g bs gs K row W' :=
  ⟨h.old.grown hg h.old.size (fun k e => Nat.le_trans hB (hr k e).1), h.l0.grown hg (fun k e => (hr k e).2), h.l1.grown hg (fun k e => (hr k e).2), h.l2.grown hg (fun k e => (hr k e).2), h.l3.grown hg (fun k e => (hr k e).2), h.lv.grown hg (fun k e => (hr k e).2), h.row.grown hg (fun k e => (hr k e).2)⟩
theorem SgI.set (h : SgI w Sb g bs gs K row Wd) (hbs : w.heap.size = bs) (hgs : bs + 4 ≤ gs) (i : Nat) (v : Int) : SgI w Sb g bs gs K (row.set i v) (Wd.setCell ⟨gs, i, none⟩ (.int .i64 v)) :=
  ⟨h.old.setCell (p := ⟨gs, i, none⟩) (by show w.heap.size ≤ gs; omega) _, h.l0.far (p := ⟨gs, i, none⟩) (by show bs ≠ gs; omega) _, h.l1.far (p := ⟨gs, i, none⟩) (by show bs + 1 ≠ gs; omega) _, h.l2.far (p := ⟨gs, i, none⟩) (by show bs + 1 + 1 ≠ gs; omega) _, h.l3.far (p := ⟨gs, i, none⟩) (by show bs + 1 + 1 + 1 ≠ gs; omega) _, h.lv.far (p := ⟨gs, i, none⟩) (by show gs + 1 ≠ gs; omega) _, by rw [List.map_set]; exact h.row.set i _⟩
end
theorem sg_skip {f : Nat → Bool} {W K : Nat} {L M : List (Nat × Ob)} {x : Nat × Ob} (h : keepB f x = false) : sgL f W K L (M ++ [x]) = sgL f W K L M := by
  unfold sgL
  congr 1
  refine List.map_congr_left fun k _ => ?_
  rw [wait_more, h]; simp
def sgT (f : Nat → Bool) (W K : Nat) (L M : List (Nat × Ob)) (AW : List Nat) (j : Nat) : List Int := 0 :: (List.range K).map fun k => ((waitN f W K L M k + (AW.take j).count k : Nat) : Int)
theorem sgT_zero {f : Nat → Bool} {W K : Nat} {L M : List (Nat × Ob)} {AW : List Nat} : sgT f W K L M AW 0 = sgL f W K L M := by simp [sgT, sgL]
theorem sgT_end {f : Nat → Bool} {W K : Nat} {L M : List (Nat × Ob)} {x : Nat × Ob} (h : keepB f x = true) : sgT f W K L M (awL f W K L x) (awL f W K L x).length = sgL f W K L (M ++ [x]) := by
  unfold sgT sgL
  congr 1
  refine List.map_congr_left fun k _ => ?_
  rw [wait_more, h, List.take_length]; simp
theorem sgT_at {f : Nat → Bool} {W K : Nat} {L M : List (Nat × Ob)} {AW : List Nat} {j kk : Nat} (hk : kk < K) : (sgT f W K L M AW j)[kk + 1]? = some ((waitN f W K L M kk + (AW.take j).count kk : Nat) : Int) := by
  unfold sgT
  rw [List.getElem?_cons_succ]; simp [hk]
theorem sgT_next {f : Nat → Bool} {W K : Nat} {L M : List (Nat × Ob)} {AW : List Nat} {j kk : Nat} (hj : AW[j]? = some kk) (hk : kk < K) (v : Nat) (hv : waitN f W K L M kk + (AW.take j).count kk = v) : (sgT f W K L M AW j).set (kk + 1) ((v : Int) + 1) = sgT f W K L M AW (j + 1) := by
  unfold sgT
  rw [List.set_cons_succ]
  congr 1
  have hjl := (List.getElem?_eq_some_iff.1 hj).1
  have htk : AW.take (j + 1) = AW.take j ++ [kk] := by rw [List.take_add_one, hj]; rfl
  refine List.ext_getElem? fun i => ?_
  rw [List.getElem?_set]
  by_cases h : kk = i
  · subst h
    rw [if_pos rfl, if_pos (by simp [hk])]
    simp [hk, htk, List.count_append, ← hv]
    omega
  · rw [if_neg h]
    by_cases h2 : i < K
    · simp [h2, htk, List.count_append, List.count_singleton, h]
    · rw [List.getElem?_eq_none (by simp; omega), List.getElem?_eq_none (by simp; omega)]
theorem sg_len (f : Nat → Bool) (W K : Nat) (L M : List (Nat × Ob)) : (sgL f W K L M).length = K + 1 := by simp [sgL]

set_option maxRecDepth 1000000 in
set_option maxHeartbeats 4000000 in
theorem signs_in {w : World} {g gw gb b W K T top : Nat} {f : Nat → Bool} {obs : List Ob} {tail : List Int} (S : St w g gw gb obs tail) (F : Fo w b W K T top f obs) (Sb : Nat) (hSb : ∀ V, Below w.heap.size w V → V.cell? ⟨Sb, 0, none⟩ = some (.pointer (some ⟨b, 0, none⟩))) (hin : ∀ o ∈ obs, ∀ z ∈ o.2, InR z) (hK1 : K + 1 ≤ 65536) :
    CallsIn Fence.wide 6 Tryz.prog 27 #[.pointer (some ⟨Sb, 0, none⟩), .pointer (some ⟨g, 0, none⟩)] w fun e w' => ∃ B cap, e = .returned (.tuple #[.slice B (if rightB f (adr 0 obs) then K + 1 else 0) cap, .int .i64 (if rightB f (adr 0 obs) then 0 else 5)]) ∧ (rightB f (adr 0 obs) = true → Rv w' w.heap.size B cap (sgL f W K (adr 0 obs) (adr 0 obs))) ∧ Below w.heap.size w w' := by
  have hgl := S.lies.own.lt
  have hgwl := S.lies.words.lt
  have hgbl := S.lies.begins.lt
  have hK65 := F.k65
  obtain ⟨q, FQ⟩ := fq_of F
  have HSS := Lib.hid S
  have HF := Lib.hid F
  have HQ := Lib.hid FQ
  have HSB := Lib.hid hSb
  have HIN := Lib.hid hin
  clear S F hSb hin FQ
  refine callsIn_of_wp_marks Tryz.func27 rfl trivial ?_ rfl
  simp only [Tryz.ntmps27, List.size_toArray, List.length_cons, List.length_nil, Nat.reduceAdd, Nat.reduceSub, Array.replicate_succ, Array.replicate_zero, List.push_toArray, List.append_toArray, List.nil_append, List.cons_append]
  refine wpIn_wide.2 ?_
  go_upto_region 1 with fail
  go_step3
  obtain ⟨bs, hbs⟩ : ∃ bs, w.heap.size = bs := ⟨_, rfl⟩
  have b0 : Below w.heap.size w ((((w.alloc (.cells #[.pointer (some ⟨Sb, 0, none⟩)] 38)).alloc (.cells #[.pointer (some ⟨g, 0, none⟩)] 29)).alloc (.cells #[.slice none 0 0] 30)).alloc (.cells #[.int .i64 0] 39)) := ((((Below.refl _ w).alloc (Nat.le_refl _) _).alloc (by simp) _).alloc (by simp; omega) _).alloc (by simp; omega) _
  have L0 := (((Lies.new w 38 [.pointer (some ⟨Sb, 0, none⟩)]).alloc (.cells #[.pointer (some ⟨g, 0, none⟩)] 29)).alloc (.cells #[.slice none 0 0] 30)).alloc (.cells #[.int .i64 0] 39)
  have L1 : Lies ((((w.alloc (.cells #[.pointer (some ⟨Sb, 0, none⟩)] 38)).alloc (.cells #[.pointer (some ⟨g, 0, none⟩)] 29)).alloc (.cells #[.slice none 0 0] 30)).alloc (.cells #[.int .i64 0] 39)) (w.heap.size + 1) 29 [.pointer (some ⟨g, 0, none⟩)] := by
    have := ((Lies.new (w.alloc (.cells #[.pointer (some ⟨Sb, 0, none⟩)] 38)) 29 [.pointer (some ⟨g, 0, none⟩)]).alloc (.cells #[.slice none 0 0] 30)).alloc (.cells #[.int .i64 0] 39)
    simpa using this
  have L2 : Lies ((((w.alloc (.cells #[.pointer (some ⟨Sb, 0, none⟩)] 38)).alloc (.cells #[.pointer (some ⟨g, 0, none⟩)] 29)).alloc (.cells #[.slice none 0 0] 30)).alloc (.cells #[.int .i64 0] 39)) (w.heap.size + 1 + 1) 30 [.slice none 0 0] := by
    have := (Lies.new ((w.alloc (.cells #[.pointer (some ⟨Sb, 0, none⟩)] 38)).alloc (.cells #[.pointer (some ⟨g, 0, none⟩)] 29)) 30 [.slice none 0 0]).alloc (.cells #[.int .i64 0] 39)
    simpa using this
  have L3 : Lies ((((w.alloc (.cells #[.pointer (some ⟨Sb, 0, none⟩)] 38)).alloc (.cells #[.pointer (some ⟨g, 0, none⟩)] 29)).alloc (.cells #[.slice none 0 0] 30)).alloc (.cells #[.int .i64 0] 39)) (w.heap.size + 1 + 1 + 1) 39 [.int .i64 0] := by
    have := Lies.new (((w.alloc (.cells #[.pointer (some ⟨Sb, 0, none⟩)] 38)).alloc (.cells #[.pointer (some ⟨g, 0, none⟩)] 29)).alloc (.cells #[.slice none 0 0] 30)) 39 [.int .i64 0]
    simpa using this
  have s0 : ((((w.alloc (.cells #[.pointer (some ⟨Sb, 0, none⟩)] 38)).alloc (.cells #[.pointer (some ⟨g, 0, none⟩)] 29)).alloc (.cells #[.slice none 0 0] 30)).alloc (.cells #[.int .i64 0] 39)).heap.size = w.heap.size + 4 := by simp
  obtain ⟨w1, hw1⟩ : ∃ w1, ((((w.alloc (.cells #[.pointer (some ⟨Sb, 0, none⟩)] 38)).alloc (.cells #[.pointer (some ⟨g, 0, none⟩)] 29)).alloc (.cells #[.slice none 0 0] 30)).alloc (.cells #[.int .i64 0] 39)) = w1 := ⟨_, rfl⟩
  rw [hw1] at b0 L0 L1 L2 L3 s0 ⊢
  rw [hbs] at L0 L1 L2 L3 s0 ⊢
  have z0 := HQ.out.c0 w1 b0
  have z1 := HQ.out.c1 w1 b0
  have z2 := HQ.out.c2 w1 b0
  have zS := HSB.out w1 b0
  have zb : w1.cell? ⟨bs, 0, none⟩ = some (.pointer (some ⟨Sb, 0, none⟩)) := L0.cell 0
  have HB0 := Lib.hid b0
  have HL0 := Lib.hid L0
  have HL1 := Lib.hid L1
  have HL2 := Lib.hid L2
  have HL3 := Lib.hid L3
  have HBS := Lib.hid hbs
  have HS0 := Lib.hid s0
  clear b0 L0 L1 L2 L3 hbs s0 hw1
  go_wp2_with fail
  refine (HQ.out.len w1).mono ?_
  rintro e w2 ⟨rfl, hb2⟩
  have hmk : (Instr.makeSlice 30 (.int .i64 (1 + (K : Int))) (.int .i64 (1 + (K : Int)))).run Tryz.prog w2 = .ok (.slice (some ⟨w2.heap.size, 0, none⟩) (K + 1) (K + 1)) (w2.alloc (.cells (noughts (K + 1)).toArray 3)) := by
    have := make51 (K + 1) hK1 w2
    rwa [show ((K + 1 : Nat) : Int) = 1 + (K : Int) by omega] at this
  have HB2 := Lib.hid (on HB0.out HB0.out.size hb2)
  have HL0 := Lib.hid (HL0.out.kept hb2)
  have HL1 := Lib.hid (HL1.out.kept hb2)
  have HL2 := Lib.hid (HL2.out.kept hb2)
  have HL3 := Lib.hid (HL3.out.kept hb2)
  have hs2 : bs + 4 ≤ w2.heap.size := by rw [← HS0.out]; exact hb2.size
  clear hb2 z0 z1 z2 zS zb
  obtain ⟨gs, hgs⟩ : ∃ gs, w2.heap.size = gs := ⟨_, rfl⟩
  have LR : Lies ((w2.alloc (.cells (noughts (K + 1)).toArray 3)).alloc (.cells #[.slice (some ⟨gs, 0, none⟩) (K + 1) (K + 1)] 30)) w2.heap.size 3 ((sgL f W K (adr 0 obs) []).map (Value.int .i64)) := by
    rw [sg_nil, ← noughts_eq]
    exact (Lies.new w2 3 (noughts (K + 1))).alloc _
  have LV : Lies ((w2.alloc (.cells (noughts (K + 1)).toArray 3)).alloc (.cells #[.slice (some ⟨gs, 0, none⟩) (K + 1) (K + 1)] 30)) (w2.heap.size + 1) 30 [.slice (some ⟨gs, 0, none⟩) (K + 1) (K + 1)] := by
    have := Lies.new (w2.alloc (.cells (noughts (K + 1)).toArray 3)) 30 [.slice (some ⟨gs, 0, none⟩) (K + 1) (K + 1)]
    simpa using this
  have b3 : Below w2.heap.size w2 ((w2.alloc (.cells (noughts (K + 1)).toArray 3)).alloc (.cells #[.slice (some ⟨gs, 0, none⟩) (K + 1) (K + 1)] 30)) := ((Below.refl _ _).alloc (Nat.le_refl _) _).alloc (by simp) _
  go_upto_region 2 with fail
  go_step3
  obtain ⟨w3, hw3⟩ : ∃ w3, (w2.alloc (.cells (noughts (K + 1)).toArray 3)).alloc (.cells #[.slice (some ⟨gs, 0, none⟩) (K + 1) (K + 1)] 30) = w3 := ⟨_, rfl⟩
  have s3 : w3.heap.size = gs + 2 := by rw [← hw3, ← hgs]; simp
  rw [hw3] at LR LV b3 ⊢
  rw [hgs] at LR LV hs2
  have I3 : SgI w Sb g bs gs K (sgL f W K (adr 0 obs) []) w3 := ⟨on HB2.out HB2.out.size b3, HL0.out.kept b3, HL1.out.kept b3, HL2.out.kept b3, HL3.out.kept b3, LV, LR⟩
  have HI3 := Lib.hid I3
  have zg : w3.cell? ⟨bs + 1, 0, none⟩ = some (.pointer (some ⟨g, 0, none⟩)) := I3.l1.cell 0
  have HS3 := Lib.hid s3
  clear I3 LR LV b3 hw3 hgs s3 HL0 HL1 HL2 HL3 hmk HB2
  go_wp2_with fail
  refine walk_any.mono ?_
  rintro e w4 ⟨rfl, rfl⟩
  clear zg
  go_wp2_with fail
  have LB4 : Lies (w3.alloc (.cells #[.pointer (some ⟨g, 0, none⟩)] 29)) w3.heap.size 29 [.pointer (some ⟨g, 0, none⟩)] := Lies.new w3 29 [_]
  have I4 := HI3.out.kept (below_one w3 (.cells #[.pointer (some ⟨g, 0, none⟩)] 29))
  obtain ⟨w4, hw4⟩ : ∃ w4, w3.alloc (.cells #[.pointer (some ⟨g, 0, none⟩)] 29) = w4 := ⟨_, rfl⟩
  have s4 : w4.heap.size = gs + 3 := by rw [← hw4, World.size_alloc, HS3.out]
  rw [hw4] at LB4 I4 ⊢
  rw [HS3.out] at LB4 ⊢
  rw [HBS.out] at hgl hgwl hgbl
  have HS4 := Lib.hid s4
  have hbs := HBS.out
  clear hw4 s4
  refine (wpIn_wide (n := 6)).1 ?_
  refine wpIn_rangeFunc_ownH rfl (by omega) (gf := 83) (lb := #[.pointer (some ⟨gs + 2, 0, none⟩)]) rfl trivial (enters_of Tryz.func83 (by kernel_rfl) rfl)
    (walk_stops2 5 (by omega) g gw gb (gs + 2) gs obs tail w4 (by rw [HS4.out]; omega) ⟨by omega, by omega, by omega⟩ (show gs < gs + 2 by omega) (HSS.out.kept I4.old) LB4) KeepsQ.trans KeepsQ.put (Below.refl _ _) (fun _ => rfl)
    (fun (pre : List (At obs)) Wd => SgI w Sb g bs gs K (sgL f W K (adr 0 obs) (pre.map fun x : At obs => x.1)) Wd ∧ ∀ x ∈ pre, keepB f x.1 = true → okX f (adr 0 obs) x.1 = true)
    (fun c pre Wd => c = .ret ∧ Below w.heap.size w Wd ∧ Lies Wd (bs + 1 + 1) 30 [.slice none 0 0] ∧ Lies Wd (bs + 1 + 1 + 1) 39 [.int .i64 5] ∧ rightB f (adr 0 obs) = false)
    (fun s A B row hs hg hr => ⟨hs.1.grown (B := w4.heap.size) (by rw [HS4.out]; omega) hg hr, hs.2⟩)
    (fun c s A B row hs hg hr => ⟨hs.1, hs.2.1.grown hg hs.2.1.size (fun r e => by have := (hr r e).1; rw [HS4.out] at this; omega), hs.2.2.1.grown hg (fun r e => (hr r e).2), hs.2.2.2.1.grown hg (fun r e => (hr r e).2), hs.2.2.2.2⟩)
    ⟨I4, fun x hx => by simp at hx⟩
    (fun x a' Wd => ∃ Bx, Lies Wd Bx 64 [.int .i64 (x.1.2.1 % 16), .int .i64 (x.1.2.1 / 65536), .int .i64 (x.1.2.1 % 65536 / 16)] ∧ gs + 1 < Bx ∧ a' = { tmps := #[.pointer (some ⟨Sb, 0, none⟩), .pointer (some ⟨g, 0, none⟩), .pointer (some ⟨bs, 0, none⟩), .pointer (some ⟨bs + 1, 0, none⟩), .pointer (some ⟨bs + 1 + 1, 0, none⟩), .pointer (some ⟨bs + 1 + 1 + 1, 0, none⟩), .pointer (some ⟨gs + 1, 0, none⟩), .int .i64 (x.1.1 : Nat), .pointer (some ⟨Bx, 0, none⟩), undef, undef, undef, undef, undef, undef, undef, undef, undef, .pointer (some ⟨Sb, 0, none⟩), .pointer (some ⟨Sb, 0, none⟩), .pointer (some ⟨Sb, 0, none⟩), .pointer (some ⟨b, 0, none⟩), .pointer (some ⟨b, 0, none⟩), .pointer (some ⟨b, 0, none⟩), .agg #[.int .i64 (W : Nat), .slice (some ⟨q, 0, none⟩) K K, .int .i64 (T : Nat)], .int .i64 (K : Nat), .int .i64 (1 + (K : Int)), .slice (some ⟨gs, 0, none⟩) (K + 1) (K + 1), .pointer (some ⟨g, 0, none⟩), .func (.func 83) #[] #[.pointer (some ⟨gs + 2, 0, none⟩)], .int .i64 (x.1.1 : Nat), .agg #[.int .i64 (x.1.2.1 % 16), .int .i64 (x.1.2.1 / 65536), .int .i64 (x.1.2.1 % 65536 / 16)], undef, undef, undef, undef, undef, undef, undef, undef, undef, undef, undef, undef, undef, undef, undef, undef, undef, undef, undef, undef, undef, undef, undef, undef, undef, undef, undef, undef, undef, undef, undef, undef, undef, undef, undef, undef, undef, undef, undef, undef, undef, undef, undef, undef, undef, undef, undef, undef, undef, undef, undef, undef, undef, undef], defers := [] })
    (fun x a' s A B row hs hg hr => by obtain ⟨Bx, h1, h2, h3⟩ := hs; exact ⟨Bx, h1.grown hg (fun r e => (hr r e).2), h2, h3⟩) ?assign ?body ?done ?stop
  case assign =>
    rintro l pre x Wd K2 hi hK2
    dsimp only [encAt]
    have hlt := hi.1.lv.lt
    gi_wp2
    have bA := below_one Wd (.cells #[.int .i64 (x.1.2.1 % 16), .int .i64 (x.1.2.1 / 65536), .int .i64 (x.1.2.1 % 65536 / 16)] 64)
    refine hK2 _ _ ((KeepsOthers.alloc _ _).from _) (KeepsQ.of_below bA) ⟨hi.1.kept bA, hi.2⟩ ⟨Wd.heap.size, Lies.new Wd 64 [_, _, _], hlt, rfl⟩
  case body =>
    rintro l pre x a' Wd hl ⟨r, hr⟩ hi ⟨Bx, hBx, hne, rfl⟩ hlt
    obtain ⟨hB, hok⟩ := hi
    have hxm := at_mem x
    obtain ⟨fx1, fx2, fx3, fx4, fx5, fx6⟩ := ob_facts (HSS.out.kept hB.old) x.1 hxm
    have hkx : isK f (adr 0 obs) x.1.1 = keepB f x.1 := isK_at (adr_sorted 0 obs) hxm
    have htop : (flat obs).length ≤ 65536 := by have := HF.out.top_; have := HF.out.most; omega
    have hmap : (pre ++ [x]).map (fun x : At obs => x.1) = (pre.map fun x : At obs => x.1) ++ [x.1] := by simp
    have HMAP := Lib.hid hmap
    obtain ⟨M, hM⟩ : ∃ M, pre.map (fun x : At obs => x.1) = M := ⟨_, rfl⟩
    rw [hM] at hB HMAP
    obtain ⟨X, hX⟩ : ∃ X : Nat × Ob, x.1 = X := ⟨_, rfl⟩
    have HX := Lib.hid hX
    rw [hX] at hxm fx1 fx2 fx3 fx4 fx5 fx6 hkx hBx HMAP ⊢
    obtain ⟨P, hP⟩ : ∃ P, ptrs X.2.1 = P := ⟨_, rfl⟩
    obtain ⟨ln, hln⟩ : ∃ ln, X.2.2.length = ln := ⟨_, rfl⟩
    have HLN := Lib.hid hln
    have HP := Lib.hid hP
    rw [hP] at fx3 fx4
    rw [hln] at fx1 fx2 fx4 fx6
    rw [fx1, fx3] at hBx ⊢
    have hxle : X.1 ≤ 65536 := by omega
    have HXM := Lib.hid hxm
    have HOK := Lib.hid hok
    have HBX := Lib.hid hBx
    have HI := Lib.hid hB
    have HKX := Lib.hid hkx
    have zb : Wd.cell? ⟨bs, 0, none⟩ = some (.pointer (some ⟨Sb, 0, none⟩)) := hB.l0.cell 0
    have zS := HSB.out Wd hB.old
    have hF0 := HF.out.kept hB.old
    have hTO := Lib.hid (to_any hF0 X.1)
    rw [hkx] at hTO
    clear hmap hM hX hP hln hxm hok hBx hB hkx hF0 fx1 fx3 fx5 fx6
    obtain ⟨kd, hkd⟩ : ∃ kd, X.2.1 % 16 = kd := ⟨_, rfl⟩
    rw [hkd] at HBX ⊢
    clear hkd
    gi_wp2_with fail
    refine ⟨trivial, (CallsIn.inRound l (callsIn_wide.2 hTO.out)).mono ?_⟩
    rintro e w5 ⟨rfl, hb5⟩
    cases hk : keepB f X with
    | false =>
      have HK := Lib.hid hk
      have HB5 := Lib.hid hb5
      clear hb5 hk zb zS hTO
      gi_wp2_with fail
      refine ⟨keepsFrom_below _ HB5.out, KeepsQ.of_below HB5.out, ?_, ?_⟩
      · rw [HMAP.out, sg_skip HK.out]; exact HI.out.kept HB5.out
      · intro y hy hky
        rcases List.mem_append.1 hy with hy | hy
        · exact HOK.out y hy hky
        · simp at hy; subst hy; rw [HX.out, HK.out] at hky; cases hky
    | true =>
      have HK := Lib.hid hk
      have z0 := (HBX.out.kept hb5).cell 0
      have hp2 : w5.cell? ⟨Bx, 2, none⟩ = some (.int .i64 (P : Nat)) := (HBX.out.kept hb5).cell 2
      obtain ⟨r0, hr0⟩ : ∃ r0, goS f (adr 0 obs) X.1 = r0 := ⟨_, rfl⟩
      simp only [hr0]
      have HB5 := Lib.hid hb5
      clear hb5 hk zb zS hTO z0 hr0
      gi_wp2_with fail
      gi_loopw [45] (fun i wr => ∃ k : Nat, k ≤ P ∧ i = .int .i64 (k : Nat) ∧ (∀ j, j < k → okW f (adr 0 obs) (X.2.2.getD j 0) = true) ∧ Below Wd.heap.size Wd wr) (fun i _ => P - (intOf i).toNat)
      case atStart => exact ⟨0, Nat.zero_le _, rfl, fun j h => absurd h (Nat.not_lt_zero _), HB5.out⟩
      case round =>
        obtain ⟨k, hkP, rfl, hok2, hb6⟩ := hrel
        have HO2 := Lib.hid hok2
        have HB6 := Lib.hid hb6
        have I6 := HI.out.kept hb6
        have zh : wr.cell? ⟨bs + 1, 0, none⟩ = some (.pointer (some ⟨g, 0, none⟩)) := I6.l1.cell 0
        by_cases hlt2 : k < P
        · have hRD := Lib.hid (read_at (HSS.out.kept I6.old) X HXM.out k (by rw [HLN.out]; omega))
          clear hok2 hb6 I6
          gi_wp2_with fail
          refine ⟨trivial, (CallsIn.inRound l (callsIn_wide.2 hRD.out)).mono ?_⟩
          rintro e w7 ⟨rfl, hb7⟩
          have hzr : InR (X.2.2.getD k 0) := by
            obtain ⟨pre1, post1, e1, -⟩ := mem_split HXM.out
            have hkl : k < X.2.2.length := by rw [HLN.out]; omega
            refine HIN.out X.2 (by rw [e1]; simp) _ ?_
            simp [List.getD, hkl]
          obtain ⟨z, hz⟩ : ∃ z, X.2.2.getD k 0 = z := ⟨_, rfl⟩
          rw [hz] at hzr ⊢
          have HZ := Lib.hid hz
          have HB7 := Lib.hid (on HB6.out HB6.out.size hb7)
          have I7 := HI.out.kept HB7.out
          have zb : w7.cell? ⟨bs, 0, none⟩ = some (.pointer (some ⟨Sb, 0, none⟩)) := I7.l0.cell 0
          have zS := HSB.out w7 I7.old
          have zF := (HQ.out.kept I7.old).c0 w7 (Below.refl _ _)
          have hWD := Lib.hid (word_any (HF.out.kept I7.old) z hzr)
          clear hz hzr hb7 I7 zh hRD zF
          gi_wp2_with fail
          refine ⟨trivial, (CallsIn.inRound l (callsIn_wide.2 hWD.out)).mono ?_⟩
          rintro e w8 ⟨rfl, hb8⟩
          have HB8 := Lib.hid (on HB7.out HB7.out.size hb8)
          have I8 := HI.out.kept HB8.out
          cases hokz : okW f (adr 0 obs) z with
          | true =>
            have HOZ := Lib.hid hokz
            obtain ⟨mv, hmv⟩ : ∃ mv, mvW f (adr 0 obs) z = mv := ⟨_, rfl⟩
            simp only [if_true, hmv]
            clear hb8 zb zS hWD I8 hokz hmv
            gi_wp2_with fail
            refine ⟨⟨k + 1, by omega, by go_num, fun j hj => ?_, HB8.out⟩, by simp [intOf]; omega⟩
            by_cases hjk : j = k
            · subst hjk; rw [HZ.out]; exact HOZ.out
            · exact HO2.out j (by omega)
          | false =>
            have HOZ := Lib.hid hokz
            have y2 := I8.l2.cell 0
            have y2' : w8.cell? ⟨bs + 1 + 1, 0, none⟩ = some (.slice none 0 0) := y2
            have y3 : w8.cell? ⟨bs + 1 + 1 + 1, 0, none⟩ = some (.int .i64 0) := I8.l3.cell 0
            have f2 := I8.l2.frozen 0
            have f3 := I8.l3.frozen 0
            have HI8 := Lib.hid I8
            clear hb8 zb zS hWD I8 hokz y2
            simp only [Bool.false_eq_true, if_false]
            gi_wp2_with fail
            have hrf : rightB f (adr 0 obs) = false := by
              unfold rightB
              rw [List.all_eq_false]
              refine ⟨X, HXM.out, ?_⟩
              have hox : okX f (adr 0 obs) X = false := by
                unfold okX
                rw [HP.out, List.all_eq_false]
                refine ⟨z, ?_, by rw [HOZ.out]; simp⟩
                rw [← HZ.out]
                have hkl : k < X.2.2.length := by rw [HLN.out]; omega
                refine List.mem_iff_getElem?.2 ⟨k, ?_⟩
                rw [List.getElem?_take_of_lt hlt2]; simp [List.getD, hkl]
              rw [HK.out, hox]; simp
            have E1 := (HI8.out.l2.set 0 (.slice none 0 0)).far (p := ⟨bs + 1 + 1 + 1, 0, none⟩) (show bs + 1 + 1 ≠ bs + 1 + 1 + 1 by omega) (.int .i64 5)
            have E2 := ((HI8.out.l3.far (p := ⟨bs + 1 + 1, 0, none⟩) (show bs + 1 + 1 + 1 ≠ bs + 1 + 1 by omega) (.slice none 0 0))).set 0 (.int .i64 5)
            refine ⟨((keepsFrom_below _ HB8.out).trans ((KeepsOthers.setCell _ _ _).from _)).trans ((KeepsOthers.setCell _ _ _).from _), rfl, (HI8.out.old.setCell (p := ⟨bs + 1 + 1, 0, none⟩) (by show w.heap.size ≤ bs + 1 + 1; omega) _).setCell (p := ⟨bs + 1 + 1 + 1, 0, none⟩) (by show w.heap.size ≤ bs + 1 + 1 + 1; omega) _, E1, E2, hrf⟩
        · obtain rfl : k = P := by omega
          have zb : wr.cell? ⟨bs, 0, none⟩ = some (.pointer (some ⟨Sb, 0, none⟩)) := I6.l0.cell 0
          have h0 := HBX.out.kept hb6
          have y0 : wr.cell? ⟨Bx, 0, none⟩ = some (.int .i64 kd) := h0.cell 0
          have y1 : wr.cell? ⟨Bx, 1, none⟩ = some (.int .i64 (ln : Nat)) := h0.cell 1
          have y2 : wr.cell? ⟨Bx, 2, none⟩ = some (.int .i64 (k : Nat)) := h0.cell 2
          have hfl := Lib.hid (fo_first_le (HF.out.kept I6.old))
          have hAW := Lib.hid (awaiting_any (HQ.out.kept I6.old) hfl.out hK65 Sb (fun V hV => HSB.out V (on I6.old I6.old.size hV)) X hxle kd (k : Int) ln HLN.out fx2)
          have HI6 := Lib.hid I6
          clear hok2 hb6 I6 zh h0
          gi_wp2_with fail
          refine ⟨trivial, (CallsIn.inRound l (callsIn_wide.2 hAW.out)).mono ?_⟩
          rintro e w7 ⟨BA, capA, rfl, RA, hb7⟩
          have HAWL : Hid (∀ k', k' ∈ awL f W K (adr 0 obs) X → k' < K) := Lib.hid (fun k' h => awL_lt h)
          have HEND := Lib.hid (sgT_end (W := W) (K := K) (L := adr 0 obs) (M := M) (x := X) HK.out)
          have hAWn : (awL f W K (adr 0 obs) X).length ≤ K := by
            unfold awL
            have := List.length_filter_le (fun k => (decide (k ≠ X.1 / W) && decide (0 < liveR f W k (adr 0 obs))) && (decide (X.1 < firstR f W (adr 0 obs) (k + 1)) && decide (firstR f W (adr 0 obs) k ≤ X.1 + X.2.2.length))) (List.range K)
            rw [List.length_range] at this; exact this
          have hWT : Hid (∀ kk, waitN f W K (adr 0 obs) M kk ≤ 70000) := Lib.hid (fun kk => by
            have h1 := wait_le (f := f) (W := W) (K := K) (L := adr 0 obs) (k := kk) M
            have h2 : M.length = pre.length := by
              have := congrArg List.length HMAP.out
              simp at this; omega
            have h3 := many_le HF.out.top_
            have h4 := HF.out.most
            omega)
          obtain ⟨AW, hAW0⟩ : ∃ AW, awL f W K (adr 0 obs) X = AW := ⟨_, rfl⟩
          rw [hAW0] at RA HAWL HEND hAWn ⊢
          obtain ⟨n, hn⟩ : ∃ n, AW.length = n := ⟨_, rfl⟩
          rw [hn] at HEND hAWn ⊢
          have HN := Lib.hid hn
          have HR7 := Lib.hid RA
          have HB7 := Lib.hid (on HB6.out HB6.out.size hb7)
          have HI7 := Lib.hid (HI6.out.kept hb7)
          have hgsz : gs + 1 < w7.heap.size := HI7.out.lv.lt
          have hgw6 : gs < wr.heap.size := HI6.out.row.lt
          clear hb7 RA hAW hAW0 hn zb y0 y1 y2 hfl HI6
          rw [← sgT_zero (AW := AW)] at HI7
          obtain ⟨zsz, hzsz⟩ : ∃ zsz, wr.heap.size = zsz := ⟨_, rfl⟩
          rw [hzsz] at HR7 hgw6
          clear hzsz
          gi_wp2_with fail
          gi_loopw [73] (fun i wr => ∃ j : Nat, j ≤ n ∧ i = .int .i64 (j : Nat) ∧ SgI w Sb g bs gs K (sgT f W K (adr 0 obs) M AW j) wr ∧ Rv wr zsz BA capA (natZ AW) ∧ Pass gs (gs + 1) Wd wr) (fun i _ => n - (intOf i).toNat)
          case atStart => exact ⟨0, Nat.zero_le _, rfl, HI7.out, HR7.out, Pass.of_below HB7.out⟩
          case round =>
            obtain ⟨j, hj, rfl, hI, hR, hP⟩ := hrel
            by_cases hjn : j < n
            · obtain ⟨kk, hkk⟩ : ∃ kk, AW[j]? = some kk := ⟨_, List.getElem?_eq_getElem (by rw [HN.out]; exact hjn)⟩
              have hkK : kk < K := HAWL.out kk (List.mem_of_getElem? hkk)
              obtain ⟨v, hv⟩ : ∃ v, waitN f W K (adr 0 obs) M kk + (AW.take j).count kk = v := ⟨_, rfl⟩
              have hv2 : v ≤ 200000 := by
                have h1 := hWT.out kk
                have h2 := List.count_le_length (a := kk) (l := AW.take j)
                rw [List.length_take] at h2
                have h3 := HN.out
                omega
              have hrow := sgT_at (f := f) (W := W) (K := K) (L := adr 0 obs) (M := M) (AW := AW) (j := j) hkK
              rw [hv] at hrow
              have hnl : (natZ AW).length = n := by rw [← HN.out]; simp [natZ]
              obtain ⟨ad, qa, rfl, rfl, ca, -⟩ := hR.at_ (i := j) (by rw [hnl]; exact hjn)
              have hgd : (natZ AW).getD j 0 = (kk : Int) := by simp [natZ, List.getD, hkk]
              rw [hgd, add_at] at ca
              have cs : wr.cell? ⟨gs, kk + 1, none⟩ = some (.int .i64 (v : Nat)) := by rw [hI.row.cell, List.getElem?_map, hrow]; rfl
              have cf := hI.row.frozen (kk + 1)
              have cv : wr.cell? ⟨gs + 1, 0, none⟩ = some (.slice (some ⟨gs, 0, none⟩) (K + 1) (K + 1)) := hI.lv.cell 0
              have ea : (⟨qa, 0, none⟩ : Addr).add j = ⟨qa, j, none⟩ := add_at qa j
              have eb : (⟨gs, 0, none⟩ : Addr).add (kk + 1) = ⟨gs, kk + 1, none⟩ := add_at gs (kk + 1)
              have j0 : (0 : Int) ≤ (j : Int) := by omega
              have j1 : (j : Int) < (n : Int) := by omega
              have k0 : (0 : Int) ≤ 1 + (kk : Int) := by omega
              have k1 : 1 + (kk : Int) < ((K + 1 : Nat) : Int) := by omega
              have k2 : (1 + (kk : Int)).toNat = kk + 1 := by omega
              have HIJ := Lib.hid hI
              have HRJ := Lib.hid hR
              have HPJ := Lib.hid hP
              have HNX := Lib.hid (sgT_next hkk hkK v hv)
              clear hI hR hP hkk hv hrow hnl hgd
              gi_wp2_with fail
              refine ⟨⟨j + 1, by omega, by go_num, ?_, ?_, HPJ.out.trans (Pass.set _ _ _)⟩, by simp [intOf]; omega⟩
              · have := HIJ.out.set hbs.symm.symm hs2 (kk + 1) ((v : Int) + 1)
                rw [HNX.out] at this; exact this
              · refine HRJ.out.kept fun b cs e hl => hl.far (p := ⟨gs, kk + 1, none⟩) ?_ _
                have := (HRJ.out.blk_lt e).1
                show b ≠ gs
                omega
            · obtain rfl : j = n := by omega
              have HIJ := Lib.hid hI
              have HPJ := Lib.hid hP
              clear hI hR hP
              gi_wp2_with fail
              refine ⟨HPJ.out.keeps.from _, KeepsQ.of_pass HPJ.out (by omega), ?_, ?_⟩
              · rw [HMAP.out, ← HEND.out]; exact HIJ.out
              · intro y hy hky
                rcases List.mem_append.1 hy with hy | hy
                · exact HOK.out y hy hky
                · simp at hy; subst hy
                  rw [HX.out]
                  unfold okX
                  rw [HP.out, List.all_eq_true]
                  intro z hz
                  obtain ⟨i, hi⟩ := List.mem_iff_getElem?.1 hz
                  have hik : i < k := by
                    have := (List.getElem?_eq_some_iff.1 hi).1
                    rw [List.length_take] at this; omega
                  have h2 := HO2.out i hik
                  rw [List.getElem?_take_of_lt hik] at hi
                  simp [List.getD, hi] at h2
                  exact h2
  case done =>
    rintro D ys Wd hD hys ⟨hB, hok⟩ hK
    rw [hys] at hB
    have hrt : rightB f (adr 0 obs) = true := by
      unfold rightB
      rw [List.all_eq_true]
      intro X hX
      cases hk : keepB f X with
      | false => rfl
      | true =>
        rw [← hys] at hX
        obtain ⟨y, hy, rfl⟩ := List.mem_map.1 hX
        rw [hok y hy hk]; rfl
    have v1 : Wd.cell? ⟨gs + 1, 0, none⟩ = some (.slice (some ⟨gs, 0, none⟩) (K + 1) (K + 1)) := hB.lv.cell 0
    have y2 : Wd.cell? ⟨bs + 1 + 1, 0, none⟩ = some (.slice none 0 0) := hB.l2.cell 0
    have y3 : Wd.cell? ⟨bs + 1 + 1 + 1, 0, none⟩ = some (.int .i64 0) := hB.l3.cell 0
    have f2 := hB.l2.frozen 0
    have f3 := hB.l3.frozen 0
    have HB := Lib.hid hB
    have HRT := Lib.hid hrt
    have HKK := Lib.hid hK
    clear hB hok hK hys hrt
    go_wp2_with fail
    rw [Exit.noGoto_ret]
    have LA := (HB.out.l2.set 0 (.slice (some ⟨gs, 0, none⟩) (K + 1) (K + 1))).far (p := ⟨bs + 1 + 1 + 1, 0, none⟩) (show bs + 1 + 1 ≠ bs + 1 + 1 + 1 by omega) (.int .i64 0)
    have LB := (HB.out.l3.far (p := ⟨bs + 1 + 1, 0, none⟩) (show bs + 1 + 1 + 1 ≠ bs + 1 + 1 by omega) (.slice (some ⟨gs, 0, none⟩) (K + 1) (K + 1))).set 0 (.int .i64 0)
    have LC := (HB.out.row.far (p := ⟨bs + 1 + 1, 0, none⟩) (show gs ≠ bs + 1 + 1 by omega) (.slice (some ⟨gs, 0, none⟩) (K + 1) (K + 1))).far (p := ⟨bs + 1 + 1 + 1, 0, none⟩) (show gs ≠ bs + 1 + 1 + 1 by omega) (.int .i64 0)
    have hKf := ((KeepsOthers.setCell Wd ⟨bs + 1 + 1, 0, none⟩ (.slice (some ⟨gs, 0, none⟩) (K + 1) (K + 1))).trans (KeepsOthers.setCell _ ⟨bs + 1 + 1 + 1, 0, none⟩ (.int .i64 0))).same D _ HKK.out rfl
    have B9 := (HB.out.old.setCell (p := ⟨bs + 1 + 1, 0, none⟩) (by show w.heap.size ≤ bs + 1 + 1; omega) (.slice (some ⟨gs, 0, none⟩) (K + 1) (K + 1))).setCell (p := ⟨bs + 1 + 1 + 1, 0, none⟩) (by show w.heap.size ≤ bs + 1 + 1 + 1; omega) (.int .i64 0)
    obtain ⟨W9, h9⟩ : ∃ W9, (Wd.setCell ⟨bs + 1 + 1, 0, none⟩ (.slice (some ⟨gs, 0, none⟩) (K + 1) (K + 1))).setCell ⟨bs + 1 + 1 + 1, 0, none⟩ (.int .i64 0) = W9 := ⟨_, rfl⟩
    rw [h9] at LA LB LC hKf B9 ⊢
    clear h9
    refine ⟨by simp, .inl ⟨_, _, rfl, run_takeDeferred hKf, ?_⟩⟩
    have hgr := grownBy_putObj' W9 D (.deferred none)
    have hnc : ∀ r, some D = some r → ∃ o : Obj, W9.heap[r]? = some o ∧ o.isCells = false := fun r e => by cases e; exact ⟨_, hKf, rfl⟩
    have s1 : (W9.putObj D (.deferred none)).cell? ⟨bs + 1 + 1, 0, none⟩ = some (.slice (some ⟨gs, 0, none⟩) (K + 1) (K + 1)) := (LA.grown hgr hnc).cell 0
    have s2 : (W9.putObj D (.deferred none)).cell? ⟨bs + 1 + 1 + 1, 0, none⟩ = some (.int .i64 0) := (LB.grown hgr hnc).cell 0
    have LR9 := LC.grown hgr hnc
    refine ⟨.tuple #[.slice (some ⟨gs, 0, none⟩) (K + 1) (K + 1), .int .i64 0], ?_, some ⟨gs, 0, none⟩, K + 1, ?_, fun _ => ?_, B9.trans (belowK_b (w := w) (Nat.le_refl _) W9 D _ _ (by rw [HS4.out] at hD; omega) hKf rfl rfl)⟩
    · simp [results, Tryz.f27, go_sem, s1, s2]
    · rw [HRT.out]; rfl
    · refine Or.inr ⟨gs, _, rfl, by omega, LR9, by rw [List.length_map, sg_len]; exact Nat.le_refl _, by rw [sg_len]; exact Nat.le_refl _, fun i hi => ?_⟩
      rw [List.getElem?_map]
      simp [List.getD, List.getElem?_eq_getElem hi]
  case stop =>
    rintro D c pre Wd hD _ ⟨rfl, hB, hl2, hl3, hright⟩ hK
    have y2 : Wd.cell? ⟨bs + 1 + 1, 0, none⟩ = some (.slice none 0 0) := hl2.cell 0
    have y3 : Wd.cell? ⟨bs + 1 + 1 + 1, 0, none⟩ = some (.int .i64 5) := hl3.cell 0
    gi_wp2_with fail
    rw [Exit.noGoto_ret]
    refine ⟨by simp, .inl ⟨_, _, rfl, run_takeDeferred hK, ?_⟩⟩
    have hgr := grownBy_putObj' Wd D (.deferred none)
    have hnc : ∀ r, some D = some r → ∃ o : Obj, Wd.heap[r]? = some o ∧ o.isCells = false := fun r e => by cases e; exact ⟨_, hK, rfl⟩
    have s1 : (Wd.putObj D (.deferred none)).cell? ⟨bs + 1 + 1, 0, none⟩ = some (.slice none 0 0) := (hl2.grown hgr hnc).cell 0
    have s2 : (Wd.putObj D (.deferred none)).cell? ⟨bs + 1 + 1 + 1, 0, none⟩ = some (.int .i64 5) := (hl3.grown hgr hnc).cell 0
    refine ⟨.tuple #[.slice none 0 0, .int .i64 5], ?_, none, 0, ?_, fun h => ?_, hB.trans (belowK_b (w := w) (Nat.le_refl _) Wd D _ _ (by rw [HS4.out] at hD; omega) hK rfl rfl)⟩
    · simp [results, Tryz.f27, go_sem, s1, s2]
    · rw [hright]; rfl
    · rw [hright] at h; cases h
theorem signs_any {w : World} {g gw gb b W K T top : Nat} {f : Nat → Bool} {obs : List Ob} {tail : List Int} (S : St w g gw gb obs tail) (F : Fo w b W K T top f obs) (Sb : Nat) (hSb : ∀ V, Below w.heap.size w V → V.cell? ⟨Sb, 0, none⟩ = some (.pointer (some ⟨b, 0, none⟩))) (hin : ∀ o ∈ obs, ∀ z ∈ o.2, InR z) (hK1 : K + 1 ≤ 65536) :
    Calls Tryz.prog 27 #[.pointer (some ⟨Sb, 0, none⟩), .pointer (some ⟨g, 0, none⟩)] w fun e w' => ∃ B cap, e = .returned (.tuple #[.slice B (if rightB f (adr 0 obs) then K + 1 else 0) cap, .int .i64 (if rightB f (adr 0 obs) then 0 else 5)]) ∧ (rightB f (adr 0 obs) = true → Rv w' w.heap.size B cap (sgL f W K (adr 0 obs) (adr 0 obs))) ∧ Below w.heap.size w w' :=
  callsIn_wide.1 (signs_in S F Sb hSb hin hK1)
end Go.Proofs.YtklhdilbmpndkaaGreat
