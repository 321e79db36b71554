/- Of: the regions of a heap and its marks. -/
import Derived.Test.YtklhdilbmpndkaaGreatHc
import Derived.Laws.Entries
import Derived.Deep.CutRange
import Derived.Deep.CutBlock
namespace Go.Proofs.YtklhdilbmpndkaaGreat
set_option maxRecDepth 20000
open Go.RowKit Go.Shelf Go.Sort
set_option linter.unusedVariables false
set_option linter.unusedSimpArgs false
attribute [local go_sem] Oper.semAt_some

def reg0 : Reg := ⟨none, 0, [], 0, 0⟩
set_option maxRecDepth 100000 in
theorem info67 : ∃ i, Tryz.prog.info? 138 = some i ∧ i.zero = some (.agg #[.slice none 0 0, .int .i64 0, .int .i64 0]) ∧ i.size = 3 ∧ i.bytes = 40 := ⟨_, rfl, rfl, rfl, rfl⟩
theorem made_three (K : Nat) : madeCells #[.slice none 0 0, .int .i64 0, .int .i64 0] (K * 3) = (regC (List.replicate K reg0)).toArray := by
  apply Array.ext
  · simp [madeCells, regC_len]; omega
  · intro i h1 h2
    have hi : i < K * 3 := by simpa [madeCells] using h1
    have hk : (List.replicate K reg0)[i / 3]? = some reg0 := by
      rw [List.getElem?_replicate, if_pos (by omega)]
    obtain ⟨r0, r1, r2⟩ := regC_at hk
    have hr : ∀ v, (regC (List.replicate K reg0))[i]? = some v → (regC (List.replicate K reg0)).toArray[i] = v := fun v hv => by
      have := (List.getElem?_eq_some_iff.1 hv).2
      simpa using this
    have h3 : i % 3 = 0 ∨ i % 3 = 1 ∨ i % 3 = 2 := by omega
    rcases h3 with h3 | h3 | h3
    · rw [show i / 3 * 3 = i by omega] at r0
      rw [hr _ r0]
      simp [madeCells, h3, reg0]
    · rw [show i / 3 * 3 + 1 = i by omega] at r1
      rw [hr _ r1]
      simp [madeCells, h3, reg0]
    · rw [show i / 3 * 3 + 2 = i by omega] at r2
      rw [hr _ r2]
      simp [madeCells, h3, reg0]
theorem make35 (K : Nat) (hK : K ≤ 65536) (w : World) : (Instr.makeSlice 103 (.int .i64 (K : Int)) (.int .i64 (K : Int))).run Tryz.prog w = .ok (.slice (some ⟨w.heap.size, 0, none⟩) K K) (w.alloc (.cells (regC (List.replicate K reg0)).toArray 138)) := by
  obtain ⟨i0, hi0, hz0, hz1, hz2⟩ := info67
  have := run_make (P := Tryz.prog) w 103 138 i0 _ Tryz.underlying103 hi0 hz0 .i64 .i64 K K (by omega) (Int.le_refl _) (by rw [hz2]; omega) (by omega)
  rw [this, hz1]
  simp [Value.cells, made_three]
theorem rg_new (w : World) (K : Nat) : Rg (w.alloc (.cells (regC (List.replicate K reg0)).toArray 138)) (w.heap.size + 2) w.heap.size (List.replicate K reg0) := by
  refine ⟨Lies.new w 138 _, fun x hx => ?_, fun i j x y hx hy hij hb => ?_, by omega⟩
  · rw [List.eq_of_mem_replicate hx]; exact Rv.nil _ _
  · rw [List.eq_of_mem_replicate (List.mem_of_getElem? hx)]; rfl

theorem at_props {obs : List Ob} (x : At obs) : x.1.1 < (flat obs).length ∧ x.1.2 ∈ obs := by
  obtain ⟨⟨a, o⟩, pre, post, h1, h2⟩ := x
  simp only at h1 h2 ⊢
  subst h2
  rw [h1]
  exact ⟨by simp [flat_append, flat_cons], by simp⟩
/-- What Of keeps, but for its regions. -/
structure OfB (w : World) (g gw gb mg mw N q K W : Nat) (obs : List Ob) (tail : List Int) (ws : List Nat) (Wd : World) : Prop where
  st : St Wd g gw gb obs tail
  map : Mk.At Wd mg mw N ws
  bm : Lies Wd w.heap.size 31 [.pointer (some ⟨mg, 0, none⟩)]
  res : Lies Wd (w.heap.size + 1) 105 [.int .i64 0, .slice none 0 0, .int .i64 0]
  own : ∃ T : Nat, Lies Wd (q + 1) 105 [.int .i64 (W : Int), .slice (some ⟨q, 0, none⟩) K K, .int .i64 (T : Nat)]
  old : Below w.heap.size w Wd
  size : q + 2 ≤ Wd.heap.size
theorem Mk.At.grownO {W W' : World} {g gw n : Nat} {ws : List Nat} {row : Option Nat} (h : Mk.At W g gw n ws) (hg : W.grownBy W' row) (hr : ∀ r, row = some r → ∃ o : Obj, W.heap[r]? = some o ∧ o.isCells = false) : Mk.At W' g gw n ws :=
  ⟨h.own.grown hg hr, h.words.grown hg hr, h.many, h.some_, h.most, h.fit, h.in_⟩
theorem Rg.grownO {W W' : World} {base q : Nat} {l : List Reg} {row : Option Nat} (h : Rg W base q l) (hg : W.grownBy W' row) (hr : ∀ r, row = some r → ∃ o : Obj, W.heap[r]? = some o ∧ o.isCells = false) : Rg W' base q l :=
  ⟨h.own.grown hg hr, fun x hx => (h.rows x hx).kept fun b cs _ hl => hl.grown hg hr, h.apart, h.lo⟩
section
variable {w Wd W' : World} {g gw gb mg mw N q K W T : Nat} {obs : List Ob} {tail : List Int} {ws : List Nat}
theorem OfB.grownO {row : Option Nat} (h : OfB w g gw gb mg mw N q K W obs tail ws Wd) (hg : Wd.grownBy W' row) (hr : ∀ r, row = some r → q + 2 ≤ r ∧ ∃ o : Obj, Wd.heap[r]? = some o ∧ o.isCells = false) (hq : w.heap.size ≤ q) : OfB w g gw gb mg mw N q K W obs tail ws W' :=
  ⟨h.st.grown hg fun r e => (hr r e).2, h.map.grownO hg fun r e => (hr r e).2, h.bm.grown hg fun r e => (hr r e).2, h.res.grown hg fun r e => (hr r e).2, by obtain ⟨T, hT⟩ := h.own; exact ⟨T, hT.grown hg fun r e => (hr r e).2⟩,
    h.old.grown hg h.old.size (fun k e => by have := (hr k e).1; omega), Nat.le_trans h.size hg.size⟩
theorem OfB.pass (h : OfB w g gw gb mg mw N q K W obs tail ws Wd) (P : Pass q (q + 2) Wd W') (hg : g < q ∧ gw < q ∧ gb < q) (hm : mg < q ∧ mw < q) (hq : w.heap.size + 2 ≤ q) : OfB w g gw gb mg mw N q K W obs tail ws W' := by
  obtain ⟨g1, g2, g3⟩ := hg
  obtain ⟨m1, m2⟩ := hm
  have hb : ∀ k, k < q → k < Wd.heap.size → W'.heap[k]? = Wd.heap[k]? := fun k hk hl => P.block k hl (by omega) (by omega)
  exact ⟨⟨h.st.fine, h.st.lies.own.of_block (hb g g1 h.st.lies.own.lt), h.st.lies.words.of_block (hb gw g2 h.st.lies.words.lt), h.st.lies.begins.of_block (hb gb g3 h.st.lies.begins.lt), h.st.lies.same, h.st.lies.some_, h.st.lies.most, h.st.lies.fits⟩,
    h.map.of_blocks (hb mg m1 h.map.own.lt) (hb mw m2 h.map.words.lt), h.bm.of_block (hb _ (by omega) h.bm.lt), h.res.of_block (hb _ (by omega) h.res.lt), by obtain ⟨T, hT⟩ := h.own; exact ⟨T, P.lies hT (by decide) (by omega)⟩,
    h.old.trans ⟨P.os, P.tape, P.output, by have := h.old.size; have := P.size; omega, fun k hk => hb k (by omega) (by have := h.old.size; omega)⟩, Nat.le_trans h.size P.size⟩
end
theorem Rg.firsted {w : World} {base q : Nat} {l : List Reg} (h : Rg w base q l) {k : Nat} {x : Reg} (hx : l[k]? = some x) (T : Nat) : Rg (w.setCell ⟨q, k * 3 + 2, none⟩ (.int .i64 (T : Nat))) base q (l.set k { x with live := x.live, first := T }) := by
  obtain ⟨c0, c1, c2⟩ := regC_at hx
  refine h.nums hx x.live T ?_ fun b hb => Below.heap_setCell w ⟨q, k * 3 + 2, none⟩ _ b hb
  have hset := regC_set { x with live := x.live, first := T } hx
  have same : ∀ (cs : List Value) (i : Nat) (v : Value), cs[i]? = some v → cs.set i v = cs := fun cs i v hv => by
    refine List.ext_getElem? fun j => ?_
    by_cases hij : i = j
    · subst hij
      rw [List.getElem?_set_self (List.getElem?_eq_some_iff.1 hv).1, hv]
    · rw [List.getElem?_set_ne hij]
  rw [hset, same _ _ _ c0, same _ _ _ c1]
  exact h.own.set _ _
theorem Rg.offQ {w w' : World} {base q : Nat} {l : List Reg} (h : Rg w base q l) (hs : ∀ b, b ≠ q + 1 → w'.heap[b]? = w.heap[b]?) (hb : q + 2 ≤ base := by omega) : Rg w' base q l :=
  ⟨h.own.of_block (hs q (by omega)), fun x hx => (h.rows x hx).off fun b hb' _ => hs b (by omega), h.apart, h.lo⟩
theorem OfB.other {w Wd W' : World} {g gw gb mg mw N q K W : Nat} {obs : List Ob} {tail : List Int} {ws : List Nat} (h : OfB w g gw gb mg mw N q K W obs tail ws Wd) (hs : ∀ b, b ≠ q + 1 → W'.heap[b]? = Wd.heap[b]?) (e1 : W'.os = Wd.os) (e2 : W'.tape = Wd.tape) (e3 : W'.output = Wd.output) (hsz : Wd.heap.size ≤ W'.heap.size) (T : Nat)
    (hT : Lies W' (q + 1) 105 [.int .i64 (W : Int), .slice (some ⟨q, 0, none⟩) K K, .int .i64 (T : Nat)]) (hg : g < q ∧ gw < q ∧ gb < q) (hm : mg < q ∧ mw < q) (hq : w.heap.size + 2 ≤ q) : OfB w g gw gb mg mw N q K W obs tail ws W' :=
  ⟨⟨h.st.fine, h.st.lies.own.of_block (hs g (by omega)), h.st.lies.words.of_block (hs gw (by omega)), h.st.lies.begins.of_block (hs gb (by omega)), h.st.lies.same, h.st.lies.some_, h.st.lies.most, h.st.lies.fits⟩,
    h.map.of_blocks (hs mg (by omega)) (hs mw (by omega)), h.bm.of_block (hs _ (by omega)), h.res.of_block (hs _ (by omega)), ⟨T, hT⟩,
    h.old.trans ⟨e1, e2, e3, by have := h.old.size; omega, fun k hk => hs k (by omega)⟩, Nat.le_trans h.size hsz⟩

set_option maxRecDepth 1000000 in
set_option maxHeartbeats 1000000 in
theorem of_in {w : World} {g gw gb mg mw N : Nat} {obs : List Ob} {tail : List Int} {ws : List Nat} (S : St w g gw gb obs tail) (M : Mk.At w mg mw N ws) (z : Int) (W K top : Nat) (hW : (W : Int) = if z < 1 then 1 else if 65536 < z then 65536 else z) (ht : (flat obs).length = top) (hK : K = (top + W - 1) / W) (hz : InR z) :
    CallsIn Fence.wide 6 Tryz.prog 48 #[.pointer (some ⟨g, 0, none⟩), .pointer (some ⟨mg, 0, none⟩), .int .i64 z] w fun e w' => ∃ q l base T, e = .returned (rv W q K T) ∧ Rg w' base q l ∧ regsAll l (Mk.bit ws) W K K (adr 0 obs) ∧ T = firstR (Mk.bit ws) W (adr 0 obs) K ∧ Below w.heap.size w w' ∧ w.heap.size ≤ q := by
  unfold InR at hz
  have hW1 : 1 ≤ W := by split at hW <;> (try split at hW) <;> omega
  have hW2 : W ≤ 65536 := by split at hW <;> (try split at hW) <;> omega
  have HS := Lib.hid S
  have HM := Lib.hid M
  have HT := Lib.hid ht
  have htop : top ≤ 65536 := by
    have h1 := S.lies.most
    have h2 := S.lies.fits
    omega
  clear S M ht
  refine callsIn_of_wp_marks Tryz.func48 rfl trivial ?_ rfl
  simp only [Tryz.ntmps48, List.size_toArray, List.length_cons, List.length_nil, Nat.reduceAdd, Nat.reduceSub, Array.replicate_succ, Array.replicate_zero, List.push_toArray, List.append_toArray, List.nil_append, List.cons_append]
  refine wpIn_wide.2 ?_
  go_upto_region 1 with fail
  go_cut [2] from 11 to 13 (fun v2 wx => v2 = .int .i64 (W : Int) ∧ wx = (w.alloc (.cells #[.pointer (some ⟨mg, 0, none⟩)] 31)).alloc (.cells #[.int .i64 0, .slice none 0 0, .int .i64 0] 105))
  case first =>
    by_cases z1 : z < 1
    · rw [if_pos z1] at hW
      go_wp2_with fail
      go_meet
      exact ⟨by rw [hW], rfl⟩
    · rw [if_neg z1] at hW
      by_cases z2 : 65536 < z
      · rw [if_pos z2] at hW
        go_wp2_with fail
        go_meet
        exact ⟨by rw [hW], rfl⟩
      · rw [if_neg z2] at hW
        go_wp2_with fail
        go_meet
        exact ⟨by rw [hW], rfl⟩
  case rest =>
  obtain ⟨rfl, rfl⟩ := hcut
  have b0 : Below w.heap.size w ((w.alloc (.cells #[.pointer (some ⟨mg, 0, none⟩)] 31)).alloc (.cells #[.int .i64 0, .slice none 0 0, .int .i64 0] 105)) := ((Below.refl _ w).alloc (Nat.le_refl _) _).alloc (by simp) _
  have LM0 : Lies ((w.alloc (.cells #[.pointer (some ⟨mg, 0, none⟩)] 31)).alloc (.cells #[.int .i64 0, .slice none 0 0, .int .i64 0] 105)) w.heap.size 31 [.pointer (some ⟨mg, 0, none⟩)] := (Lies.new w 31 [_]).alloc _
  have LR0 : Lies ((w.alloc (.cells #[.pointer (some ⟨mg, 0, none⟩)] 31)).alloc (.cells #[.int .i64 0, .slice none 0 0, .int .i64 0] 105)) (w.heap.size + 1) 105 [.int .i64 0, .slice none 0 0, .int .i64 0] := by
    have := Lies.new (w.alloc (.cells #[.pointer (some ⟨mg, 0, none⟩)] 31)) 105 [.int .i64 0, .slice none 0 0, .int .i64 0]
    rw [World.size_alloc] at this; exact this
  obtain ⟨w1, hw1⟩ : ∃ w1, (w.alloc (.cells #[.pointer (some ⟨mg, 0, none⟩)] 31)).alloc (.cells #[.int .i64 0, .slice none 0 0, .int .i64 0] 105) = w1 := ⟨_, rfl⟩
  rw [hw1] at b0 LM0 LR0 ⊢
  have hs1 : w1.heap.size = w.heap.size + 2 := by rw [← hw1]; simp
  have S1 := HS.out.kept b0
  have M1 := HM.out.kept b0
  have HB0 := Lib.hid b0
  have HLM0 := Lib.hid LM0
  have HLR0 := Lib.hid LR0
  have HS1 := Lib.hid S1
  have HM1 := Lib.hid M1
  have hgq : g < w1.heap.size ∧ gw < w1.heap.size ∧ gb < w1.heap.size := ⟨S1.lies.own.lt, S1.lies.words.lt, S1.lies.begins.lt⟩
  have hmq : mg < w1.heap.size ∧ mw < w1.heap.size := ⟨M1.own.lt, M1.words.lt⟩
  have hgw : g < w.heap.size ∧ gw < w.heap.size ∧ gb < w.heap.size := ⟨HS.out.lies.own.lt, HS.out.lies.words.lt, HS.out.lies.begins.lt⟩
  have hK65 : K ≤ 65536 := by
    rw [hK]
    rcases Nat.eq_zero_or_pos top with h0 | h0
    · rw [h0, Nat.zero_add]
      have := Nat.div_le_self (W - 1) W
      omega
    · have h1 : (top + W - 1) / W ≤ top := by
        rw [Nat.div_le_iff_le_mul_add_pred (by omega)]
        have : top ≤ W * top := Nat.le_mul_of_pos_left top (by omega)
        omega
      omega
  have hdiv : ((top : Int) + (W : Int) - 1) / (W : Int) = (K : Int) := by
    rw [hK]
    have : (top : Int) + (W : Int) - 1 = ((top + W - 1 : Nat) : Int) := by omega
    rw [this]; norm_cast
  have nz : ¬ (W : Int) = 0 := by omega
  have nz2 : ¬ W = 0 := by omega
  have hmk := make35 K hK65 w1
  have HK := Lib.hid hK
  have HSZ := Lib.hid hs1
  clear b0 LM0 LR0 S1 M1 hw1 hW hz hK hs1
  go_wp2_with fail
  refine (top_n HS1.out top HT.out).mono ?_
  rintro e w2 ⟨rfl, rfl⟩
  go_wp2_with fail
  have R2 := rg_new w1 K
  have b2 := below_one w1 (.cells (regC (List.replicate K reg0)).toArray 138)
  have L7 : Lies ((w1.alloc (.cells (regC (List.replicate K reg0)).toArray 138)).alloc (.cells #[.int .i64 (W : Int), .slice (some ⟨w1.heap.size, 0, none⟩) K K, .int .i64 0] 105)) (w1.heap.size + 1) 105 [.int .i64 (W : Int), .slice (some ⟨w1.heap.size, 0, none⟩) K K, .int .i64 0] := by
    have := Lies.new (w1.alloc (.cells (regC (List.replicate K reg0)).toArray 138)) 105 [.int .i64 (W : Int), .slice (some ⟨w1.heap.size, 0, none⟩) K K, .int .i64 0]
    rw [World.size_alloc] at this; exact this
  have b3 := on b2 b2.size (below_one _ (.cells #[.int .i64 (W : Int), .slice (some ⟨w1.heap.size, 0, none⟩) K K, .int .i64 0] 105))
  have R3 := R2.kept (below_one _ (.cells #[.int .i64 (W : Int), .slice (some ⟨w1.heap.size, 0, none⟩) K K, .int .i64 0] 105))
  obtain ⟨w3, hw3⟩ : ∃ w3, (w1.alloc (.cells (regC (List.replicate K reg0)).toArray 138)).alloc (.cells #[.int .i64 (W : Int), .slice (some ⟨w1.heap.size, 0, none⟩) K K, .int .i64 0] 105) = w3 := ⟨_, rfl⟩
  rw [hw3] at L7 b3 R3 ⊢
  have hs3 : w3.heap.size = w1.heap.size + 2 := by rw [← hw3]; simp
  obtain ⟨q, hq⟩ : ∃ q, w1.heap.size = q := ⟨_, rfl⟩
  have HQ2 : Hid (q = w.heap.size + 2) := Lib.hid (by rw [← hq]; exact HSZ.out)
  rw [hq] at L7 R3 hs3 hgq hmq ⊢
  have HS3 := Lib.hid hs3
  have HB3 := Lib.hid b3
  have HL7 := Lib.hid L7
  have HR3 := Lib.hid R3
  have Hq := Lib.hid hq
  clear b3 L7 R3 R2 b2 hmk hw3 hq hs3
  refine walk_any.mono ?_
  rintro e w4 ⟨rfl, rfl⟩
  go_wp2_with fail
  have LB4 : Lies (w3.alloc (.cells #[.pointer (some ⟨g, 0, none⟩)] 29)) w3.heap.size 29 [.pointer (some ⟨g, 0, none⟩)] := Lies.new w3 29 [_]
  have b4 := below_one w3 (.cells #[.pointer (some ⟨g, 0, none⟩)] 29)
  have b14 := on HB3.out HB3.out.size b4
  have LB1 : OfB w g gw gb mg mw N q K W obs tail ws (w3.alloc (.cells #[.pointer (some ⟨g, 0, none⟩)] 29)) :=
    ⟨HS1.out.kept b14, HM1.out.kept b14, HLM0.out.kept b14, HLR0.out.kept b14, ⟨0, HL7.out.kept b4⟩, on HB0.out HB0.out.size b14, by rw [World.size_alloc, HS3.out]; omega⟩
  have R4 := HR3.out.kept b4
  have L74 := HL7.out.kept b4
  obtain ⟨w4, hw4⟩ : ∃ w4, w3.alloc (.cells #[.pointer (some ⟨g, 0, none⟩)] 29) = w4 := ⟨_, rfl⟩
  rw [hw4] at LB4 LB1 R4 L74 ⊢
  have hs4 : w4.heap.size = q + 3 := by rw [← hw4, World.size_alloc, HS3.out]
  have HS4 := Lib.hid hs4
  have hS3 := HS3.out
  obtain ⟨bh, hbh⟩ : ∃ bh, w3.heap.size = bh := ⟨_, rfl⟩
  rw [hbh] at LB4 hS3 ⊢
  have hqw : w.heap.size + 2 = q := HQ2.out.symm
  have hqbh : q < bh := by omega
  clear hw4 hs4 hbh b4 b14 hdiv nz nz2 hS3
  have HQQ := Lib.hid hqw
  have hwq : w.heap.size < q := by omega
  clear hqw
  refine (wpIn_wide (n := 6)).1 ?_
  refine wpIn_rangeFunc_ownH rfl (by omega) (gf := 83) (lb := #[.pointer (some ⟨bh, 0, none⟩)]) rfl trivial (enters_of Tryz.func83 (by kernel_rfl) rfl)
    (walk_stops2 5 (by omega) g gw gb bh q obs tail w4 (by rw [HS4.out]; omega) hgq hqbh LB1.st LB4) KeepsQ.trans KeepsQ.put (Below.refl _ _) (fun _ => rfl)
    (fun (pre : List (At obs)) Wd => OfB w g gw gb mg mw N q K W obs tail ws Wd ∧ Lies Wd (q + 1) 105 [.int .i64 (W : Int), .slice (some ⟨q, 0, none⟩) K K, .int .i64 0] ∧ ∃ l, Rg Wd (q + 2) q l ∧ regsOf l (Mk.bit ws) W K (pre.map fun x : At obs => x.1)) (fun _ _ _ => False)
    (fun s A B row hs hg hr => ⟨hs.1.grownO hg (fun r e => ⟨by have := (hr r e).1; rw [HS4.out] at this; omega, (hr r e).2⟩) (by omega), hs.2.1.grown hg (fun r e => (hr r e).2), by obtain ⟨l, h1, h2⟩ := hs.2.2; exact ⟨l, h1.grownO hg (fun r e => (hr r e).2), h2⟩⟩)
    (fun c s A B row hs hg hr => hs)
    ⟨LB1, L74, _, R4, regs_nil K _ _⟩
    (fun x a' Wd => ∃ Bx, Lies Wd Bx 64 [.int .i64 (x.1.2.1 % 16), .int .i64 (x.1.2.1 / 65536), .int .i64 (x.1.2.1 % 65536 / 16)] ∧ q + 1 < Bx ∧ a' = { tmps := #[.pointer (some ⟨g, 0, none⟩), .pointer (some ⟨mg, 0, none⟩), .int .i64 (W : Int), undef, .pointer (some ⟨w.heap.size, 0, none⟩), undef, .pointer (some ⟨w.heap.size + 1, 0, none⟩), .pointer (some ⟨q + 1, 0, none⟩), .int .i64 (x.1.1 : Nat), .pointer (some ⟨Bx, 0, none⟩), undef, u11, u12, u13, .int .i64 (W : Int), .pointer (some ⟨g, 0, none⟩), .int .i64 (top : Int), .int .i64 (W : Int), .int .i64 ((top : Int) + (W : Int)), .int .i64 ((top : Int) + (W : Int) - 1), .int .i64 (W : Int), .int .i64 (K : Int), .slice (some ⟨q, 0, none⟩) K K, .agg #[.int .i64 (W : Int), .slice (some ⟨q, 0, none⟩) K K, .int .i64 0], .pointer (some ⟨g, 0, none⟩), .func (.func 83) #[] #[.pointer (some ⟨bh, 0, none⟩)], .int .i64 (x.1.1 : Nat), .agg #[.int .i64 (x.1.2.1 % 16), .int .i64 (x.1.2.1 / 65536), .int .i64 (x.1.2.1 % 65536 / 16)], undef, undef, undef, undef, undef, undef, undef, undef, undef, undef, undef, undef, undef, undef, undef, undef, undef, undef, undef, undef, undef, undef, undef, undef, undef, undef, undef, undef, undef, undef, undef, undef, undef, undef, undef, undef, undef, undef, undef, undef, undef], defers := [] })
    (fun x a' s A B row hs hg hr => by obtain ⟨Bx, h1, h2, h3⟩ := hs; exact ⟨Bx, h1.grown hg (fun r e => (hr r e).2), h2, h3⟩) ?assign ?body ?done ?stop
  case assign =>
    rintro l pre x Wd K2 hi hK2
    dsimp only [encAt]
    gi_wp2
    have hlt := hi.1.size
    have bA := below_one Wd (.cells #[.int .i64 (x.1.2.1 % 16), .int .i64 (x.1.2.1 / 65536), .int .i64 (x.1.2.1 % 65536 / 16)] 64)
    refine hK2 _ _ ((KeepsOthers.alloc _ _).from _) (KeepsQ.of_below bA) ⟨hi.1.pass (Pass.of_below bA) hgq hmq (by have := HQQ.out; omega), hi.2.1.alloc _, by obtain ⟨l, h1, h2⟩ := hi.2.2; exact ⟨l, h1.kept bA, h2⟩⟩ ⟨Wd.heap.size, Lies.new Wd 64 [_, _, _], by omega, rfl⟩
  case body =>
    rintro l pre x a' Wd hl ⟨r, hr⟩ hi ⟨Bx, hBx, hne, rfl⟩ hlt
    obtain ⟨hB, h7, lr, hR, hregs⟩ := hi
    have hhd := hB.st.fine x.1.2 (at_props x).2
    have hlen4 := len_le hhd.1
    have hx7 : x.1.2.1 / 65536 = (x.1.2.2.length : Nat) := by have h1 := hhd.2; have h2 := head_nn hhd.1; unfold lenOf at h1; omega
    have hl4 : x.1.2.2.length ≤ 4095 := by have h1 := hhd.2; omega
    have hat : x.1.1 < top := by
      have := (at_props x).1
      rw [HT.out] at this; exact this
    have hk0 : x.1.1 / W < K := by
      rw [HK.out]
      have h1 : x.1.1 / W * W ≤ x.1.1 := Nat.div_mul_le_self _ _
      have h2 : x.1.1 / W + 1 ≤ (top + W - 1) / W := by
        rw [Nat.le_div_iff_mul_le (by omega), Nat.add_mul]; omega
      omega
    obtain ⟨rg, hrg, hrow, hlive, hfirst⟩ := hregs.2 _ hk0
    have hprel : (pre.map fun x : At obs => x.1).length ≤ 65536 := by
      have h1 := count_le obs
      have h2 := HT.out
      simp; omega
    have hob : ∀ y ∈ pre.map (fun x : At obs => x.1), y.2.2.length ≤ 4095 := fun y hy => by
      obtain ⟨z, _, rfl⟩ := List.mem_map.1 hy
      have hf := hB.st.fine z.1.2 (at_props z).2
      have h2 := len_le hf.1
      have h3 := hf.2
      omega
    have hlv : rg.live ≤ 1000000000 := by
      rw [hlive]
      unfold liveR inR
      have h1 := sumL_filter (fun y => keepB (Mk.bit ws) y && decide (y.1 / W = x.1.1 / W)) (pre.map fun x : At obs => x.1)
      have h2 := sum_bound hob
      omega
    have hrl : rg.row.length ≤ 100000 := by
      rw [hrow]
      have := stay_len (Mk.bit ws) W (x.1.1 / W) (pre.map fun x : At obs => x.1)
      omega
    have hmap : (pre ++ [x]).map (fun x : At obs => x.1) = (pre.map fun x : At obs => x.1) ++ [x.1] := by simp
    have HMAP := Lib.hid hmap
    have HBB := Lib.hid hB
    have H7 := Lib.hid h7
    have HRG := Lib.hid hR
    have HREGS := Lib.hid hregs
    have HRR := Lib.hid hrg
    obtain ⟨at0, hat0⟩ : ∃ at0, x.1.1 = at0 := ⟨_, rfl⟩
    obtain ⟨o, ho0⟩ : ∃ o, x.1.2 = o := ⟨_, rfl⟩
    have HX : Hid (x.1 = (at0, o)) := Lib.hid (by rw [← hat0, ← ho0])
    rw [hat0] at hk0 hat HRR
    rw [ho0] at hBx hx7 hl4
    rw [hat0, ho0]
    have hBx0 := Lib.hid hBx
    have c0 : Wd.cell? ⟨Bx, 0, none⟩ = some (.int .i64 (o.1 % 16)) := hBx.cell 0
    have m0 : Wd.cell? ⟨w.heap.size, 0, none⟩ = some (.pointer (some ⟨mg, 0, none⟩)) := hB.bm.cell 0
    have hqW := HQQ.out
    have P1 : ∀ (W' : World), Below Wd.heap.size Wd W' → keepB (Mk.bit ws) x.1 = false → OfB w g gw gb mg mw N q K W obs tail ws W' ∧ Lies W' (q + 1) 105 [.int .i64 (W : Int), .slice (some ⟨q, 0, none⟩) K K, .int .i64 0] ∧ ∃ l, Rg W' (q + 2) q l ∧ regsOf l (Mk.bit ws) W K ((pre ++ [x]).map fun x : At obs => x.1) := fun W' hb hk => by
      refine ⟨HBB.out.pass (Pass.of_below hb) hgq hmq (by omega), H7.out.kept hb, lr, HRG.out.kept hb, ?_⟩
      rw [HMAP.out]; exact regs_skip HREGS.out hk
    have HP1 := Lib.hid P1
    clear hhd hlen4 hmap hat0 ho0 hB h7 hR hregs hrg hrow hlive hfirst hprel hob P1 hqW
    obtain ⟨kk, hkk⟩ : ∃ kk, o.1 % 16 = kk := ⟨_, rfl⟩
    have HKD := Lib.hid hkk
    rw [hkk] at hBx c0 ⊢
    clear hkk
    by_cases h15 : kk = 15
    · subst h15
      have hk : keepB (Mk.bit ws) x.1 = false := by rw [HX.out]; unfold keepB; simp [HKD.out]
      have HKK := Lib.hid hk
      clear hk
      gi_wp2
      refine ⟨trivial, ?_⟩
      gi_wp2
      exact ⟨KeepsFrom.refl _ _, KeepsQ.of_below (Below.refl _ _), HP1.out _ (Below.refl _ _) HKK.out⟩
    · have d0 : (kk != 15) = true := by simp [h15]
      have d1 : (kk == 15) = false := by simp [h15]
      have H15 := Lib.hid h15
      clear h15
      gi_wp2_with fail
      refine ⟨trivial, (CallsIn.inRound l (callsIn_wide.2 (has_any HBB.out.map at0))).mono ?_⟩
      rintro e w2 ⟨rfl, kd, rfl⟩
      have hbd := Mk.below_drewN Wd kd
      cases hbit : Mk.bit ws at0 with
      | false =>
        have hk : keepB (Mk.bit ws) x.1 = false := by rw [HX.out]; unfold keepB; simp [hbit]
        have HKK := Lib.hid hk
        have HBD := Lib.hid hbd
        clear hk hbit hbd
        gi_wp2
        exact ⟨keepsFrom_below _ HBD.out, KeepsQ.of_below HBD.out, HP1.out _ HBD.out HKK.out⟩
      | true =>
        have hk : keepB (Mk.bit ws) x.1 = true := by rw [HX.out]; unfold keepB; simp [hbit, HKD.out, H15.out]
        have hqW := HQQ.out
        have HKK := Lib.hid hk
        have HB2 := Lib.hid (HBB.out.pass (Pass.of_below hbd) hgq hmq (by omega))
        have H72 := Lib.hid (H7.out.kept hbd)
        have HR2 := Lib.hid (HRG.out.kept hbd)
        have HBx2 := Lib.hid (hBx.kept hbd)
        have HBD := Lib.hid hbd
        obtain ⟨W2, hW2'⟩ : ∃ W2, Wd.drewN kd = W2 := ⟨_, rfl⟩
        rw [hW2'] at HB2 H72 HR2 HBx2 HBD ⊢
        have a0 : W2.cell? ⟨q + 1, 0, none⟩ = some (.int .i64 (W : Int)) := H72.out.cell 0
        have a1 : W2.cell? ⟨q + 1, 1, none⟩ = some (.slice (some ⟨q, 0, none⟩) K K) := H72.out.cell 1
        have a2 : W2.cell? ⟨q + 1, 2, none⟩ = some (.int .i64 0) := H72.out.cell 2
        have e0 : W2.cell? ⟨Bx, 0, none⟩ = some (.int .i64 kk) := HBx2.out.cell 0
        have e1 : W2.cell? ⟨Bx, 1, none⟩ = some (.int .i64 (o.1 / 65536)) := HBx2.out.cell 1
        have e2 : W2.cell? ⟨Bx, 2, none⟩ = some (.int .i64 (o.1 % 65536 / 16)) := HBx2.out.cell 2
        rw [hx7] at e1
        have X0 := fun d os => cell_regrown a0 d os
        have X1 := fun d os => cell_regrown a1 d os
        have X2 := fun d os => cell_regrown a2 d os
        have Y0 := fun d os => cell_regrown e0 d os
        have Y1 := fun d os => cell_regrown e1 d os
        have Y2 := fun d os => cell_regrown e2 d os
        have HC : ∀ d os, Hid (CallsIn Fence.wide 3 Tryz.prog 59 #[.agg #[.int .i64 (W : Nat), .slice (some ⟨q, 0, none⟩) K K, .int .i64 0], .int .i64 (at0 : Nat)] (grow (redrawn W2 d) os) fun e w' => e = .returned (.int .i64 ((at0 / W : Nat) : Int)) ∧ Below (grow (redrawn W2 d) os).heap.size (grow (redrawn W2 d) os) w') := fun d os =>
          Lib.hid ((callsIn_wide (n := 3)).2 (at_any (grow (redrawn W2 d) os) W q K 0 at0 hW1 hW2 (by omega)))
        obtain ⟨k0, hk0e⟩ : ∃ k0, at0 / W = k0 := ⟨_, rfl⟩
        rw [hk0e] at hk0 HRR
        have i0 : (0 : Int) ≤ (k0 : Int) := by omega
        have i1 : (k0 : Int) < (K : Int) := by omega
        have ea : (⟨q, 0, none⟩ : Addr).add (k0 * 3) = ⟨q, k0 * 3, none⟩ := add_at q (k0 * 3)
        have HK0 := Lib.hid hk0e
        simp only [hk0e] at HC
        clear hk hbit hbd a0 a1 a2 e0 e1 e2 hW2' hqW hk0e c0 m0
        gi_wp2_with fail
        refine quiet_tail_round 8 l (by kernel_rfl) (by decide +kernel) rfl ?_
        simp only [List.take_succ_cons, List.take_zero, List.drop_succ_cons, List.drop_zero]
        quiet_step_in (fail)
        quiet_step_in (fail)
        quiet_step_in (fail)
        quiet_step_in (fail)
        refine wpQuietIn_step (fun _ _ _ _ => trivial) (fun K hK => ?_)
        go_simp
        apply Exists.intro
        refine ⟨fun p => ?_, hK _ ?_⟩
        · exact CallsIn.regrown_of (HC p.d p.os).out
        clear hK K
        quiet_step_in (fail)
        quiet_step_in (fail)
        quiet_step_in (fail)
        refine wpQuietIn_nil ?_
        rintro w2 ⟨p, rfl⟩
        have hb2 := below_regrown W2 p.d p.os
        generalize grow (redrawn W2 p.d) p.os = w3 at *
        have hqW := HQQ.out
        have HRp := Lib.hid (HR2.out.kept hb2)
        have hsz3 : q + 2 ≤ w3.heap.size := by have := HB2.out.size; have := hb2.size; omega
        have HPP := Lib.hid ((Pass.of_below (q := q) (base := q + 2) HBD.out).trans (Pass.of_below hb2))
        have hln : o.2.length ≤ 65536 := by omega
        clear hb2 X0 X1 X2 Y0 Y1 Y2 HC hqW
        gi_wp2_with fail
        refine ⟨trivial, (callsIn_wide.2 (add_any HRp.out hsz3 k0 rg HRR.out at0 kk (o.1 % 65536 / 16) o.2.length hlv hln hrl (k0 * 3) rfl)).mono ?_⟩
        rintro e w4 ⟨rfl, B', cap', R4, P4⟩
        have PF := Lib.hid (HPP.out.trans P4)
        have HR4 := Lib.hid R4
        clear R4 P4
        gi_wp2
        have hqW := HQQ.out
        refine ⟨PF.out.keeps.from _, KeepsQ.of_pass PF.out (by omega), HBB.out.pass PF.out hgq hmq (by omega), PF.out.lies H7.out (by decide) (by omega), _, HR4.out, ?_⟩
        rw [HMAP.out]
        have hra := regs_add HREGS.out HKK.out (r := rg) (by rw [HX.out]; show lr[at0 / W]? = _; rw [HK0.out]; exact HRR.out) B' cap'
        rw [HX.out] at hra ⊢
        simp only [HK0.out] at hra
        exact hra
  case done =>
    rintro D ys Wd hD hys hi hK
    obtain ⟨hB, h7, lr, hR, hregs⟩ := hi
    rw [hys] at hregs
    have hsum : ∀ j, firstR (Mk.bit ws) W (adr 0 obs) j ≤ top := fun j => by
      have h1 := first_le (Mk.bit ws) W (adr 0 obs) j
      rw [sumL_adr, HT.out] at h1; exact h1
    have HSUM := Lib.hid hsum
    have hD2 : w.heap.size ≤ D ∧ q + 2 < D := by rw [HS4.out] at hD; omega
    have H70 := Lib.hid h7
    have HRR0 := Lib.hid hR
    have HG0 := Lib.hid (regs_zero hregs)
    have HBB0 := Lib.hid hB
    have HKK0 := Lib.hid hK
    have a0 : Wd.cell? ⟨q + 1, 0, none⟩ = some (.int .i64 (W : Int)) := h7.cell 0
    have a1 : Wd.cell? ⟨q + 1, 1, none⟩ = some (.slice (some ⟨q, 0, none⟩) K K) := h7.cell 1
    have a2 : Wd.cell? ⟨q + 1, 2, none⟩ = some (.int .i64 0) := h7.cell 2
    clear hB h7 hR hregs hys hsum hK
    go_wp2_with fail
    refine (len_any Wd W q K 0).mono ?_
    rintro e w5 ⟨rfl, hb5⟩
    have hqW := HQQ.out
    have H75 := Lib.hid (H70.out.kept hb5)
    have HR5 := Lib.hid (HRR0.out.kept hb5)
    have HB5 := Lib.hid (HBB0.out.pass (Pass.of_below hb5) hgq hmq (by omega))
    have HK5 := Lib.hid ((hb5.block D (Array.getElem?_eq_some_iff.1 HKK0.out).1).trans HKK0.out)
    clear hb5 a0 a1 a2 hqW
    go_wp2
    go_loopw [47] (fun i wr => ∃ (j T : Nat) (l : List Reg), j ≤ K ∧ i = .int .i64 j ∧ OfB w g gw gb mg mw N q K W obs tail ws wr ∧ Lies wr (q + 1) 105 [.int .i64 (W : Int), .slice (some ⟨q, 0, none⟩) K K, .int .i64 (T : Nat)] ∧ T = firstR (Mk.bit ws) W (adr 0 obs) j ∧ Rg wr (q + 2) q l ∧ regsAll l (Mk.bit ws) W K j (adr 0 obs) ∧ wr.heap[D]? = some (.deferred (some []))) (fun i _ => K - (intOf i).toNat)
    case atStart => exact ⟨0, 0, lr, Nat.zero_le _, rfl, HB5.out, H75.out, rfl, HR5.out, HG0.out, HK5.out⟩
    case round =>
      obtain ⟨j, T, l, hj, rfl, hB, h7, hT, hR, hG, hKd⟩ := hrel
      have hTle : T ≤ 65536 := by have := HSUM.out j; omega
      have HHB := Lib.hid hB
      have HH7 := Lib.hid h7
      have HHT := Lib.hid hT
      have HHR := Lib.hid hR
      have HHG := Lib.hid hG
      have HHK := Lib.hid hKd
      by_cases hlt : j < K
      · obtain ⟨x, hx, hrow, hlive, hfst⟩ := hG.2 j hlt
        have hnext : T + x.live = firstR (Mk.bit ws) W (adr 0 obs) (j + 1) := by rw [hT, hlive]; rfl
        have hle2 : T + x.live ≤ 65536 := by have := HSUM.out (j + 1); omega
        have HNX := Lib.hid hnext
        have HXX := Lib.hid hx
        have R2 := Lib.hid (hR.firsted hx T)
        have a1 : wr.cell? ⟨q + 1, 1, none⟩ = some (.slice (some ⟨q, 0, none⟩) K K) := h7.cell 1
        have a2 : wr.cell? ⟨q + 1, 2, none⟩ = some (.int .i64 (T : Nat)) := h7.cell 2
        have ea : (⟨q, 0, none⟩ : Addr).add (j * 3) = ⟨q, j * 3, none⟩ := add_at q (j * 3)
        have f1 : wr.cell? ⟨q, j * 3 + 2, none⟩ = some (.int .i64 (x.first : Nat)) := (hR.cells hx).2.2
        have f2 := hR.own.frozen (j * 3 + 2)
        have j0 : (0 : Int) ≤ (j : Int) := by omega
        have j1 : (j : Int) < (K : Int) := by omega
        obtain ⟨lv, hlv⟩ : ∃ lv, x.live = lv := ⟨_, rfl⟩
        have HLV := Lib.hid hlv
        rw [hlv] at hle2
        clear hT hB hG hKd hrow hlive hfst hnext hlv hx
        go_upto_region 12 with fail
        have h72 := h7.far (p := ⟨q, j * 3 + 2, none⟩) (show q + 1 ≠ q by omega) (.int .i64 (T : Nat))
        obtain ⟨w6, hw6⟩ : ∃ w6, wr.setCell ⟨q, j * 3 + 2, none⟩ (.int .i64 (T : Nat)) = w6 := ⟨_, rfl⟩
        rw [hw6] at h72 R2 ⊢
        have P6 : Pass q (q + 2) wr w6 := by rw [← hw6]; exact Pass.set _ _ _
        have hl2 : (l.set j { x with live := x.live, first := T })[j]? = some { x with live := x.live, first := T } := List.getElem?_set_self (List.getElem?_eq_some_iff.1 HXX.out).1
        have g1 : w6.cell? ⟨q, j * 3 + 1, none⟩ = some (.int .i64 (lv : Nat)) := by rw [← HLV.out]; exact (R2.out.cells hl2).2.1
        have b1 : w6.cell? ⟨q + 1, 1, none⟩ = some (.slice (some ⟨q, 0, none⟩) K K) := h72.cell 1
        have b2 : w6.cell? ⟨q + 1, 2, none⟩ = some (.int .i64 (T : Nat)) := h72.cell 2
        have b3 := h72.frozen 2
        have HP6 := Lib.hid P6
        have HH72 := Lib.hid h72
        clear hw6 P6 hl2 h7 h72 hR a1 a2 f1 f2
        go_region
        go_wp2
        have hqW := HQQ.out
        have L8 : Lies (w6.drew.setCell ⟨q + 1, 2, none⟩ (.int .i64 ((T : Int) + (lv : Int)))) (q + 1) 105 [.int .i64 (W : Int), .slice (some ⟨q, 0, none⟩) K K, .int .i64 ((T + lv : Nat) : Int)] := (show Lies w6.drew (q + 1) 105 _ from HH72.out).set 2 _
        have hs8 : ∀ b, b ≠ q + 1 → (w6.drew.setCell ⟨q + 1, 2, none⟩ (.int .i64 ((T : Int) + (lv : Int)))).heap[b]? = w6.heap[b]? := fun b hb => Below.heap_setCell w6.drew ⟨q + 1, 2, none⟩ _ b hb
        refine ⟨⟨j + 1, T + lv, _, by omega, by go_num, (HHB.out.pass HP6.out hgq hmq (by omega)).other hs8 rfl rfl rfl (by simp) (T + lv) L8 hgq hmq (by omega), L8, by rw [← HNX.out, HLV.out], R2.out.offQ hs8, ?_, ?_⟩, by simp [intOf]; omega⟩
        · have := regs_step HHG.out HXX.out
          rw [← HHT.out] at this; exact this
        · exact (hs8 D (by omega)).trans (HP6.out.keeps.same D _ HHK.out rfl)
      · obtain rfl : j = K := by omega
        have hres := hB.res
        have a0 : wr.cell? ⟨q + 1, 0, none⟩ = some (.int .i64 (W : Int)) := h7.cell 0
        have a1 : wr.cell? ⟨q + 1, 1, none⟩ = some (.slice (some ⟨q, 0, none⟩) j j) := h7.cell 1
        have a2 : wr.cell? ⟨q + 1, 2, none⟩ = some (.int .i64 (T : Nat)) := h7.cell 2
        have r0 : wr.cell? ⟨w.heap.size + 1, 0, none⟩ = some (.int .i64 0) := hres.cell 0
        have r1 : wr.cell? ⟨w.heap.size + 1, 1, none⟩ = some (.slice none 0 0) := hres.cell 1
        have r2 : wr.cell? ⟨w.heap.size + 1, 2, none⟩ = some (.int .i64 0) := hres.cell 2
        have f0 := hres.frozen 0
        have f1 := hres.frozen 1
        have f2 := hres.frozen 2
        have LF := Lib.hid (((hres.set 0 (.int .i64 (W : Int))).set 1 (.slice (some ⟨q, 0, none⟩) j j)).set 2 (.int .i64 (T : Nat)))
        have hKf := Lib.hid ((((KeepsOthers.setCell wr ⟨w.heap.size + 1, 0, none⟩ (.int .i64 (W : Int))).trans (KeepsOthers.setCell _ ⟨w.heap.size + 1, 1, none⟩ (.slice (some ⟨q, 0, none⟩) j j))).trans (KeepsOthers.setCell _ ⟨w.heap.size + 1, 2, none⟩ (.int .i64 (T : Nat)))).same D _ hKd rfl)
        clear hres hB h7 hT hR hG hKd
        go_wp2
        have hs9 : ∀ b, b ≠ w.heap.size + 1 → (((wr.setCell ⟨w.heap.size + 1, 0, none⟩ (.int .i64 (W : Int))).setCell ⟨w.heap.size + 1, 1, none⟩ (.slice (some ⟨q, 0, none⟩) j j)).setCell ⟨w.heap.size + 1, 2, none⟩ (.int .i64 (T : Nat))).heap[b]? = wr.heap[b]? := fun b hb => by
          rw [Below.heap_setCell _ ⟨w.heap.size + 1, 2, none⟩ _ b hb, Below.heap_setCell _ ⟨w.heap.size + 1, 1, none⟩ _ b hb, Below.heap_setCell _ ⟨w.heap.size + 1, 0, none⟩ _ b hb]
        have B9 : Below w.heap.size w (((wr.setCell ⟨w.heap.size + 1, 0, none⟩ (.int .i64 (W : Int))).setCell ⟨w.heap.size + 1, 1, none⟩ (.slice (some ⟨q, 0, none⟩) j j)).setCell ⟨w.heap.size + 1, 2, none⟩ (.int .i64 (T : Nat))) :=
          ((HHB.out.old.setCell (p := ⟨w.heap.size + 1, 0, none⟩) (by simp) _).setCell (p := ⟨w.heap.size + 1, 1, none⟩) (by simp) _).setCell (p := ⟨w.heap.size + 1, 2, none⟩) (by simp) _
        have hqW := HQQ.out
        obtain ⟨W9, h9⟩ : ∃ W9, ((wr.setCell ⟨w.heap.size + 1, 0, none⟩ (.int .i64 (W : Int))).setCell ⟨w.heap.size + 1, 1, none⟩ (.slice (some ⟨q, 0, none⟩) j j)).setCell ⟨w.heap.size + 1, 2, none⟩ (.int .i64 (T : Nat)) = W9 := ⟨_, rfl⟩
        rw [h9] at hs9 B9 LF hKf ⊢
        have R9 : Rg W9 (q + 2) q l := ⟨HHR.out.own.of_block (hs9 q (by omega)), fun x hx => (HHR.out.rows x hx).off fun b hb _ => hs9 b (by omega), HHR.out.apart, HHR.out.lo⟩
        refine ⟨by simp, .inl ⟨_, _, rfl, run_takeDeferred hKf.out, ?_⟩⟩
        have hgr := grownBy_putObj' W9 D (.deferred none)
        have hnc : ∀ r, some D = some r → ∃ o : Obj, W9.heap[r]? = some o ∧ o.isCells = false := fun r e => by cases e; exact ⟨_, hKf.out, rfl⟩
        have LF9 := LF.out.grown hgr hnc
        have s0 : (W9.putObj D (.deferred none)).cell? ⟨w.heap.size + 1, 0, none⟩ = some (.int .i64 (W : Int)) := LF9.cell 0
        have s1 : (W9.putObj D (.deferred none)).cell? ⟨w.heap.size + 1, 1, none⟩ = some (.slice (some ⟨q, 0, none⟩) j j) := LF9.cell 1
        have s2 : (W9.putObj D (.deferred none)).cell? ⟨w.heap.size + 1, 2, none⟩ = some (.int .i64 (T : Nat)) := LF9.cell 2
        refine ⟨rv W q j T, ?_, q, l, q + 2, T, rfl, R9.grownO hgr hnc, HHG.out, HHT.out, B9.trans (belowK_b (w := w) (Nat.le_refl _) W9 D _ _ hD2.1 hKf.out rfl rfl), by omega⟩
        simp [results, Tryz.f48, go_sem, s0, s1, s2, rv]
  case stop =>
    rintro D c pre W hD _ hx hK
    exact hx.elim

theorem of_any {w : World} {g gw gb mg mw N : Nat} {obs : List Ob} {tail : List Int} {ws : List Nat} (S : St w g gw gb obs tail) (M : Mk.At w mg mw N ws) (z : Int) (W K top : Nat) (hW : (W : Int) = if z < 1 then 1 else if 65536 < z then 65536 else z) (ht : (flat obs).length = top) (hK : K = (top + W - 1) / W) (hz : InR z) :
    Calls Tryz.prog 48 #[.pointer (some ⟨g, 0, none⟩), .pointer (some ⟨mg, 0, none⟩), .int .i64 z] w fun e w' => ∃ q l base T, e = .returned (rv W q K T) ∧ Rg w' base q l ∧ regsAll l (Mk.bit ws) W K K (adr 0 obs) ∧ T = firstR (Mk.bit ws) W (adr 0 obs) K ∧ Below w.heap.size w w' ∧ w.heap.size ≤ q :=
  callsIn_wide.1 (of_in S M z W K top hW ht hK hz)
end Go.Proofs.YtklhdilbmpndkaaGreat
