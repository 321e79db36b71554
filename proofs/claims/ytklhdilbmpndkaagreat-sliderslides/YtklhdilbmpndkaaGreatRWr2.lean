/- What the reference's Write answers where it writes. -/
import Derived.Test.YtklhdilbmpndkaaGreatRWr
import Derived.Test.YtklhdilbmpndkaaGreatRSp2
import Derived.Test.YtklhdilbmpndkaaGreatGh
namespace Go.Proofs.YtklhdilbmpndkaaGreat
set_option maxRecDepth 20000
open Go.RowKit
set_option linter.unusedVariables false
set_option linter.unusedSimpArgs false

theorem owns_block {w : World} {base n n' sz g cap : Nat} {t : TypeId} {xs : List Value} (h : w.ownsRow base t sz (.slice (some ⟨g, 0, none⟩) n cap) n' xs) : ∃ cs, Lies w g t cs := by
  rcases h.2 with ⟨e, _⟩ | ⟨g', cap', cur, e, _, h3, _⟩
  · cases e
  · injection e with e1 _ _
    injection e1 with e1
    injection e1 with e1
    subst e1
    exact ⟨cur.toList, h3⟩
theorem owns_set {w : World} {base n n' sz g cap : Nat} {t : TypeId} {xs : List Value} (h : w.ownsRow base t sz (.slice (some ⟨g, 0, none⟩) n cap) n' xs) (j : Nat) (u : Value) : (w.setCell ⟨g, j, none⟩ u).ownsRow base t sz (.slice (some ⟨g, 0, none⟩) n cap) n' (xs.set j u) := by
  refine ⟨by rw [List.length_set]; exact h.1, ?_⟩
  rcases h.2 with ⟨e, _⟩ | ⟨g', cap', cur, e, h2, h3, h4, h5, h6, h7⟩
  · cases e
  · have e' := e
    injection e with e1 _ _
    injection e1 with e1
    injection e1 with e1
    subst e1
    have L : Lies w g t cur.toList := h3
    have L2 := L.set j u
    refine .inr ⟨g, cap', (cur.toList.set j u).toArray, e', h2, L2, h4, h5, by simpa using h6, ?_⟩
    rw [← h7, List.take_set]
theorem owns_other {w : World} {base base' n m m' sz sz' g cap : Nat} {t t' : TypeId} {v : Value} {xs ys : List Value} (h : w.ownsRow base t sz v n xs) (h' : w.ownsRow base' t' sz' (.slice (some ⟨g, 0, none⟩) m cap) m' ys) (ht : t ≠ t') (j : Nat) (u : Value) : (w.setCell ⟨g, j, none⟩ u).ownsRow base t sz v n xs := by
  obtain ⟨cs, hl⟩ := owns_block h'
  exact owns_far h hl ht j u
theorem owns_at {w : World} {base n n' sz g cap j : Nat} {t : TypeId} {xs : List Value} {u : Value} (h : w.ownsRow base t sz (.slice (some ⟨g, 0, none⟩) n cap) n' xs) (hu : xs[j]? = some u) : w.cell? ⟨g, j, none⟩ = some u ∧ w.frozen? ⟨g, j, none⟩ = false := by
  rcases h.2 with ⟨e, _⟩ | ⟨g', cap', cur, e, h2, h3, h4, h5, h6, h7⟩
  · cases e
  · injection e with e1 _ _
    injection e1 with e1
    injection e1 with e1
    subst e1
    have L : Lies w g t cur.toList := h3
    refine ⟨?_, L.frozen j⟩
    rw [L.cell j]
    rw [← h7, List.getElem?_take] at hu
    split at hu
    · exact hu
    · cases hu
theorem write_owned {w U : World} {base N n cap g g2 cap2 aN q i f b0 c0 : Nat} {pre post : List Ob} {o : Ob} {xs xs1 xs2 : List Value} {v : Int} (hxs : xs = xs1 ++ (thing aN o (some ⟨b0, 0, none⟩) c0 ++ xs2)) (hx1 : xs1.length = i * 5) (C1 : CellsO w base 0 pre xs1) (C2 : CellsO w base (aN + 1 + o.2.length) post xs2) (B : Below w.heap.size w U) (haN : (flat pre).length = aN) (hN : base ≤ N) (hoq : o.2.length = q)
    (O : U.ownsRow N 66 5 (.slice (some ⟨g, 0, none⟩) n cap) n (xs.set (i * 5 + 4) (.slice (some ⟨g2, 0, none⟩) q cap2))) (O2 : U.ownsRow N 3 1 (.slice (some ⟨g2, 0, none⟩) q cap2) q ((o.2.map (Value.int .i64)).set f (.int .i64 v))) :
    Owned U base (some ⟨g, 0, none⟩) n cap (pre ++ (o.1, o.2.set f v) :: post) (xs.set (i * 5 + 4) (.slice (some ⟨g2, 0, none⟩) q cap2)) := by
  refine ⟨owns_base O hN, ?_⟩
  have e : xs.set (i * 5 + 4) (.slice (some ⟨g2, 0, none⟩) q cap2) = xs1 ++ (thing aN (o.1, o.2.set f v) (some ⟨g2, 0, none⟩) cap2 ++ xs2) := by
    rw [hxs, List.set_append_right _ _ (by omega)]
    have : i * 5 + 4 - xs1.length = 4 := by omega
    rw [this]
    simp [thing, hoq]
  rw [e]
  refine (C1.kept B).append ?_
  rw [Nat.zero_add, haN]
  refine ⟨g2, cap2, xs2, rfl, ?_, ?_⟩
  · have := owns_base O2 hN
    simp only [List.length_set, hoq, List.map_set]
    exact this
  · simp only [List.length_set]
    exact C2.kept B

set_option maxRecDepth 100000 in
set_option maxHeartbeats 4000000 in
theorem rwrite_yes {w : World} {base : Nat} {xs : List Value} (Z gA n c aN q i f : Nat) (pre post : List Ob) (o : Ob) (hf : Fine (pre ++ o :: post)) (OWN : Owned w base (some ⟨gA, 0, none⟩) n c (pre ++ o :: post) xs) (hbase : base ≤ w.heap.size) (hn : (pre ++ o :: post).length = n) (hn6 : n ≤ 65536) (hi : pre.length = i) (haN : (flat pre).length = aN) (v : Int) (hv64 : InR v) (hq : o.1 / 65536 = (q : Int)) (hfq : f < q) (h15 : o.1 % 16 ≠ 15) (hr : ¬ ((f : Int) < o.1 % 65536 / 16 ∧ astrayO (pre ++ o :: post) v = true)) :
    Calls Tryz.prog 44 #[.agg #[.int .i64 (Z : Int), .slice (some ⟨gA, 0, none⟩) n c], .int .i64 (aN : Int), .int .i64 (f : Int), .int .i64 v] w (WritePost w base Z (0, pre ++ (o.1, o.2.set f v) :: post)) := by
  have hlk := look_here pre o post
  rw [haN] at hlk
  obtain ⟨hv, ho⟩ := find_look hlk
  simp only at hv ho
  rw [hi] at hv ho
  have hin : i < n := by rw [← hn, ← hi]; simp
  have hhd := (hf o (by simp)).1
  have hol := (hf o (by simp)).2
  have hq4 := len_le hhd
  have hoq : o.2.length = q := by rw [hol]; unfold lenOf; omega
  have hqq : q ≤ 4095 := by rw [hol] at hoq; omega
  obtain ⟨xs1, xs3, hxs, C1, C3⟩ := OWN.cells.split
  obtain ⟨b0, c0', xs2, hx3, O0, C2⟩ := C3
  have hx1 : xs1.length = i * 5 := by rw [C1.cells.len, hi]
  rw [Nat.zero_add, haN] at C2 hx3
  rw [hx3] at hxs
  have hxl : xs.length = n * 5 := by rw [OWN.cells.cells.len, hn]
  have hone : ∀ u ∈ xs, u.oneCell' = true := OWN.cells.cells.flatOne
  have hx4 : xs[i * 5 + 4]? = some (.slice (some ⟨b0, 0, none⟩) q c0') := by
    rw [hxs, List.getElem?_append_right (by omega)]
    have : i * 5 + 4 - xs1.length = 4 := by omega
    rw [this]; simp [thing, hoq]
  obtain ⟨z, hzo⟩ : ∃ z, o.1 = z := ⟨_, rfl⟩
  have HOW := Lib.hid OWN
  have Hn := Lib.hid hn
  have HO := Lib.hid ho
  have HV := Lib.hid hv
  have HZO := Lib.hid hzo
  have HC1 := Lib.hid C1
  have HC2 := Lib.hid C2
  have HX1 := Lib.hid hx1
  have HXS := Lib.hid hxs
  have HXL := Lib.hid hxl
  have HX4 := Lib.hid hx4
  have HONE := Lib.hid hone
  rw [hzo] at hq h15 hr
  have hz0 : (z % 16 == 15) = false := by simpa using h15
  have HQ := Lib.hid hq
  have Hi := Lib.hid hi
  have HaN := Lib.hid haN
  have HOQ := Lib.hid hoq
  have HV64 := Lib.hid hv64
  have HR := Lib.hid hr
  have HBASE := Lib.hid hbase
  clear hf OWN hn ho hv hzo C1 C2 hx1 hone hlk hhd hol hoq hxs hx3 hxl hx4 hq h15 O0 hi haN hq4 hr hv64 hbase
  obtain ⟨Wp, hWp⟩ : ∃ Wp, Wp = (w.alloc (.cells #[.int .i64 (Z : Int), .slice (some ⟨gA, 0, none⟩) n c] 34)).alloc (.cells #[.int .i64 0, .slice none 0 0] 34) := ⟨_, rfl⟩
  have bp : Below w.heap.size w Wp := by
    rw [hWp]
    repeat (first | exact Below.refl _ _ | refine Below.alloc ?_ (by simp <;> omega) _)
  have Lh : Lies Wp w.heap.size 34 [.int .i64 (Z : Int), .slice (some ⟨gA, 0, none⟩) n c] := by rw [hWp]; exact (Lies.new w 34 [_, _]).alloc _
  have Lr : Lies Wp (w.heap.size + 1) 34 [.int .i64 0, .slice none 0 0] := by
    rw [hWp]
    have := Lies.new (w.alloc (.cells #[.int .i64 (Z : Int), .slice (some ⟨gA, 0, none⟩) n c] 34)) 34 [.int .i64 0, .slice none 0 0]
    rw [World.size_alloc] at this; exact this
  have HPh := Lib.hid Lh
  have HPr := Lib.hid Lr
  have Hbp := Lib.hid bp
  have HWp := Lib.hid hWp
  clear Lh Lr bp hWp
  have i0 : (0 : Int) ≤ (i : Int) := by omega
  have i1 : (i : Int) < (n : Int) := by omega
  have q0 : (0 : Int) ≤ (f : Int) := by omega
  have q1 : (f : Int) < (q : Int) := by omega
  obtain ⟨i53, z53, hi53, hz53, hs53, hb53, hc53⟩ := info_53
  obtain ⟨i3, hi3, hz30, hz31, hz32⟩ := info_parts info3
  go_enter Tryz.func44, Tryz.ntmps44
  go_wp2_with fail
  rw [← HWp.out]
  refine (rfind_any (Z : Int) (aN : Int) n c (HOW.out.things.kept Hbp.out) Hn.out hn6).mono ?_
  rintro e w2 ⟨rfl, hb2⟩
  rw [HV.out]
  obtain ⟨ad, bd, cc, ead, k0, k1, k2, k3, k4, hR, hadl⟩ := ((HOW.out.things.kept Hbp.out).at2 HO.out hb2)
  injection ead with ead
  subst ead
  rw [HZO.out] at k1 k2 k3
  rw [HQ.out] at k2
  rw [HOQ.out] at k4
  have ea : (⟨gA, 0, none⟩ : Addr).add (i * 5) = ⟨gA, i * 5, none⟩ := by unfold Addr.add; split <;> simp_all
  rw [ea] at k0 k1 k2 k3 k4 hadl
  clear ea
  have Lh2 := HPh.out.below hb2 HPh.out.lt
  have Lr2 := HPr.out.below hb2 HPr.out.lt
  have y0 : w2.cell? ⟨w.heap.size, 0, none⟩ = some (.int .i64 (Z : Int)) := Lh2.cell 0
  have y1 : w2.cell? ⟨w.heap.size, 1, none⟩ = some (.slice (some ⟨gA, 0, none⟩) n c) := Lh2.cell 1
  have lt := Lr2.lt
  have l0 : w.heap.size < w2.heap.size := by omega
  have n0 : ¬ w.heap.size = w2.heap.size := by omega
  have HB2 := Lib.hid (on Hbp.out Hbp.out.size hb2)
  have HO2 := Lib.hid ((HOW.out.kept Hbp.out).kept hb2)
  have HR2 := Lib.hid (hR.kept hb2)
  have HLh2 := Lib.hid Lh2
  have HLr2 := Lib.hid Lr2
  have aI : atI (pre ++ o :: post) i = atI (pre ++ o :: post) i := rfl
  obtain ⟨A0, hA0⟩ : ∃ A0 : Int, ((atI (pre ++ o :: post) i : Nat) : Int) = A0 := ⟨_, rfl⟩
  rw [hA0] at k0
  obtain ⟨Wx, hWx⟩ : ∃ Wx, Wx = w2.alloc (.cells #[.int .i64 A0, .int .i64 (z % 16), .int .i64 (q : Int), .int .i64 (z % 65536 / 16), .slice (some bd) q cc] 66) := ⟨_, rfl⟩
  have bx : Below w2.heap.size w2 Wx := by rw [hWx]; exact below_one _ _
  have Lx : Lies Wx w2.heap.size 66 [.int .i64 A0, .int .i64 (z % 16), .int .i64 (q : Int), .int .i64 (z % 65536 / 16), .slice (some bd) q cc] := by rw [hWx]; exact Lies.new w2 66 [_, _, _, _, _]
  have HBX := Lib.hid bx
  have HLX := Lib.hid Lx
  have HWX := Lib.hid hWx
  clear Lh2 Lr2 hb2 hR bx Lx hWx aI hA0
  by_cases hp : (f : Int) < z % 65536 / 16
  · have hA : astrayO (pre ++ o :: post) v = false := by
      cases h : astrayO (pre ++ o :: post) v with
      | false => rfl
      | true => exact (HR.out ⟨hp, h⟩).elim
    go_wp2_with fail
    rw [← HWX.out]
    refine (leads_any (Z : Int) v n c ((HO2.out.kept HBX.out).things) Hn.out hn6 HV64.out).mono ?_
    rintro e Wg ⟨rfl, hbg⟩
    rw [hA]
    have bg : Below w2.heap.size w2 Wg := HBX.out.trans (hbg.mono HBX.out.size)
    have HLx := Lib.hid (HLX.out.below hbg HLX.out.lt)
    clear hbg
    have HBg := Lib.hid (on HB2.out HB2.out.size bg)
    have OWNg := Lib.hid (HO2.out.kept bg)
    have HRg := Lib.hid (HR2.out.kept bg)
    have HLh := Lib.hid (HLh2.out.below bg HLh2.out.lt)
    have HLr := Lib.hid (HLr2.out.below bg HLr2.out.lt)
    have yg1 : Wg.cell? ⟨w.heap.size, 1, none⟩ = some (.slice (some ⟨gA, 0, none⟩) n c) := HLh.out.cell 1
    have hlhg : w.heap.size < Wg.heap.size := HLh.out.lt
    have hlrg : w.heap.size + 1 < Wg.heap.size := HLr.out.lt
    have hlxg : w2.heap.size < Wg.heap.size := HLx.out.lt
    have O40 := Lib.hid (own_new53 (B := Wg.heap.size) Wg (Nat.le_refl _))
    have CC1 := Lib.hid (show ∀ j u, xs[j]? = some u → (Wg.alloc (.cells #[] 66)).cell? ((⟨gA, 0, none⟩ : Addr).add j) = some u from fun j u hu => (owns_cells (owns_any OWNg.out.own (below_one Wg (.cells #[] 66)))).1 j u hu)
    clear k0 k1 k2 k3 k4 y0 y1 hadl lt l0 n0 bg hp
    have hxf : ∃ u, (o.2.map (Value.int .i64))[f]? = some u := ⟨_, List.getElem?_eq_getElem (by rw [List.length_map, HOQ.out]; omega)⟩
    obtain ⟨uf, huf⟩ := hxf
    have HUF := Lib.hid huf
    clear huf
    go_wp2_with (first
      | (at_builtin; (refine wpList_append_own _ rfl (.tmp 52) (.tmp 54) 32 rfl Wg.heap.size 66 i53 z53 5 56 Tryz.underlying32 hi53 hz53 hs53 hb53 hc53 (by decide) _ 0 [] rfl O40.out ⟨gA, 0, none⟩ n c xs rfl HXL.out CC1.out HONE.out (by unfold maxLen; omega) (by omega) (by simp) ?_; intro v45 w5 O45 G45 N45; rw [Nat.zero_add, List.nil_append] at O45; obtain ⟨g5, cap5, rfl⟩ := owned_form O45 (fun e => by have := (N45.1 e).1; cases this); have BG5 := Lib.hid (below_row (Below.alloc (Below.refl Wg.heap.size Wg) (Nat.le_refl _) _) (by simp) G45 (Nat.le_refl _)); have HO5 := Lib.hid O45; have x5 : w5.cell? ⟨w2.heap.size, 4, none⟩ = some (.slice (some bd) q cc) := (BG5.out.cell (p := ⟨w2.heap.size, 4, none⟩) hlxg).trans (HLx.out.cell 4); have hs5 : Wg.heap.size ≤ w5.heap.size := BG5.out.size; have hl5 : w2.heap.size < w5.heap.size := (by omega); have hl5n : ¬ w2.heap.size = w5.heap.size := (by omega); have O58 := Lib.hid (own_new (B := Wg.heap.size) w5 hs5); have R5 := Lib.hid ((HRg.out.kept BG5.out).alloc (.cells #[] 3)); clear O45 G45 N45))
      | (at_builtin; (refine wpList_append_own _ rfl (.tmp 58) (.tmp 60) 30 rfl Wg.heap.size 3 i3 (.int .i64 0) 1 8 Tryz.underlying30 hi3 hz30 hz31 hz32 rfl (by decide) (.slice (some ⟨w5.heap.size, 0, none⟩) 0 0) 0 [] rfl O58.out bd q cc (o.2.map (Value.int .i64)) rfl (by simp [HOQ.out]) (row_news R5.out) (ints_oneCell _ _) (by unfold maxLen; omega) (by omega) (by simp; omega) ?_; intro v6 w6 O6 G6 N6; rw [Nat.zero_add, List.nil_append] at O6; obtain ⟨g6, cap6, rfl⟩ := owned_form O6 (fun e => by have := (N6.1 e).1; cases this); have BG6 := Lib.hid (below_row (BG5.out.alloc hs5 (.cells #[] 3)) (by simp; omega) G6 hs5); have HO6 := Lib.hid O6; have HO56 := Lib.hid (owns_apart (owns_any HO5.out (below_one w5 (.cells #[] 3))) O58.out (by decide) G6); have e6 : w6.cell? ⟨g5, i * 5 + 4, none⟩ = some (.slice (some ⟨b0, 0, none⟩) q c0') := (owns_at HO56.out HX4.out).1; have z6 : w6.frozen? ⟨g5, i * 5 + 4, none⟩ = false := (owns_at HO56.out HX4.out).2; have e7 : w6.cell? ⟨g6, f, none⟩ = some uf := (owns_at HO6.out HUF.out).1; have z7 : w6.frozen? ⟨g6, f, none⟩ = false := (owns_at HO6.out HUF.out).2; have d56 : ¬ g5 = g6 := (owns_block HO56.out).choose_spec.apart (owns_block HO6.out).choose_spec (by decide); have d65 : ¬ g6 = g5 := fun e => d56 e.symm; have LH6 := HLh.out.below BG6.out HLh.out.lt; have LR6 := HLr.out.below BG6.out HLr.out.lt; have HLH6 := Lib.hid LH6; have HLR6 := Lib.hid LR6; have a0 : w6.cell? ⟨w.heap.size, 0, none⟩ = some (.int .i64 (Z : Int)) := LH6.cell 0; have a1 : w6.cell? ⟨w.heap.size, 1, none⟩ = some (.slice (some ⟨gA, 0, none⟩) n c) := LH6.cell 1; have a2 : w6.frozen? ⟨w.heap.size, 1, none⟩ = false := LH6.frozen 1; have r0 : w6.cell? ⟨w.heap.size + 1, 0, none⟩ = some (.int .i64 0) := LR6.cell 0; have r1 : w6.cell? ⟨w.heap.size + 1, 1, none⟩ = some (.slice none 0 0) := LR6.cell 1; have r2 : w6.frozen? ⟨w.heap.size + 1, 0, none⟩ = false := LR6.frozen 0; have r3 : w6.frozen? ⟨w.heap.size + 1, 1, none⟩ = false := LR6.frozen 1; have g50 := owns_ge HO56.out; have g60 := owns_ge HO6.out; have t1 : ¬ w.heap.size = g5 := (by omega); have t2 : ¬ w.heap.size = g6 := (by omega); have t3 : ¬ w.heap.size + 1 = g5 := (by omega); have t4 : ¬ w.heap.size + 1 = g6 := (by omega); have lt6 := LR6.lt; clear O6 G6 N6 LH6 LR6)))
    have P1 := owns_set HO56.out (i * 5 + 4) (.slice (some ⟨g6, 0, none⟩) q cap6)
    have P2 := owns_other HO6.out HO56.out (by decide) (i * 5 + 4) (.slice (some ⟨g6, 0, none⟩) q cap6)
    have P3 := owns_other P1 P2 (by decide) f (.int .i64 v)
    have P4 := owns_set P2 f (.int .i64 v)
    have LH := (HLH6.out.far (p := ⟨g5, i * 5 + 4, none⟩) t1 (.slice (some ⟨g6, 0, none⟩) q cap6)).far (p := ⟨g6, f, none⟩) t2 (.int .i64 v)
    have LR := (HLR6.out.far (p := ⟨g5, i * 5 + 4, none⟩) t3 (.slice (some ⟨g6, 0, none⟩) q cap6)).far (p := ⟨g6, f, none⟩) t4 (.int .i64 v)
    have BU := ((on HBg.out HBg.out.size BG6.out).setCell (p := ⟨g5, i * 5 + 4, none⟩) (by simp; omega) (.slice (some ⟨g6, 0, none⟩) q cap6)).setCell (p := ⟨g6, f, none⟩) (by simp; omega) (.int .i64 v)
    have hbs := HBASE.out
    have OWNU := write_owned HXS.out HX1.out HC1.out HC2.out BU HaN.out (by omega) HOQ.out P3 P4
    have OWN1 := Owned.far OWNU LH (by decide) (by decide) 1 (.slice (some ⟨g5, 0, none⟩) n cap5)
    have LR1 := LR.far (p := ⟨w.heap.size, 1, none⟩) (by simp) (.slice (some ⟨g5, 0, none⟩) n cap5)
    have OWN2 := Owned.far OWN1 LR1 (by decide) (by decide) 0 (.int .i64 (Z : Int))
    have LR2 := LR1.set 0 (.int .i64 (Z : Int))
    have OWN3 := Owned.far OWN2 LR2 (by decide) (by decide) 1 (.slice (some ⟨g5, 0, none⟩) n cap5)
    have B1 := ((BU.setCell (p := ⟨w.heap.size, 1, none⟩) (by simp) (.slice (some ⟨g5, 0, none⟩) n cap5)).setCell (p := ⟨w.heap.size + 1, 0, none⟩) (by simp) (.int .i64 (Z : Int))).setCell (p := ⟨w.heap.size + 1, 1, none⟩) (by simp) (.slice (some ⟨g5, 0, none⟩) n cap5)
    have hln : (pre ++ (o.1, o.2.set f v) :: post).length = n := by have := Hn.out; simpa using this
    have LR3 := LR2.set 1 (.slice (some ⟨g5, 0, none⟩) n cap5)
    have s0 := LR3.cell 0
    have s1 := LR3.cell 1
    have s3 := LR3.lt
    exact bodyPost_ret (v := .tuple #[.agg #[.int .i64 (Z : Int), .slice (some ⟨g5, 0, none⟩) n cap5], .int .i64 0]) (by simp [results, Tryz.results44, go_sem, a0, a1, a2, r0, r1, r2, r3, e6, z6, e7, z7, t1, t2, t3, t4, lt6]) rfl ⟨⟨_, _, _, _, rfl, hln, OWN3⟩, B1⟩
  · have bg := HBX.out
    have HLx := HLX
    have HBg := Lib.hid (on HB2.out HB2.out.size bg)
    have OWNg := Lib.hid (HO2.out.kept bg)
    have HRg := Lib.hid (HR2.out.kept bg)
    have HLh := Lib.hid (HLh2.out.below bg HLh2.out.lt)
    have HLr := Lib.hid (HLr2.out.below bg HLr2.out.lt)
    have yg1 : Wx.cell? ⟨w.heap.size, 1, none⟩ = some (.slice (some ⟨gA, 0, none⟩) n c) := HLh.out.cell 1
    have hlhg : w.heap.size < Wx.heap.size := HLh.out.lt
    have hlrg : w.heap.size + 1 < Wx.heap.size := HLr.out.lt
    have hlxg : w2.heap.size < Wx.heap.size := HLx.out.lt
    have HSX := Lib.hid (show Wx.heap.size = w2.heap.size + 1 by rw [HWX.out]; simp)
    have O40 := Lib.hid (show (Wx.alloc (.cells #[] 66)).ownsRow Wx.heap.size 66 5 (.slice (some ⟨w2.heap.size + 1, 0, none⟩) 0 0) 0 [] by rw [← HSX.out]; exact own_new53 (B := Wx.heap.size) Wx (Nat.le_refl _))
    have CC1 := Lib.hid (show ∀ j u, xs[j]? = some u → (Wx.alloc (.cells #[] 66)).cell? ((⟨gA, 0, none⟩ : Addr).add j) = some u from fun j u hu => (owns_cells (owns_any OWNg.out.own (below_one Wx (.cells #[] 66)))).1 j u hu)
    clear hadl lt
    have hxf : ∃ u, (o.2.map (Value.int .i64))[f]? = some u := ⟨_, List.getElem?_eq_getElem (by rw [List.length_map, HOQ.out]; omega)⟩
    obtain ⟨uf, huf⟩ := hxf
    have HUF := Lib.hid huf
    clear huf
    go_wp2_with (first
      | (at_builtin; rw [← HWX.out]; (refine wpList_append_own _ rfl (.tmp 52) (.tmp 54) 32 rfl Wx.heap.size 66 i53 z53 5 56 Tryz.underlying32 hi53 hz53 hs53 hb53 hc53 (by decide) _ 0 [] rfl O40.out ⟨gA, 0, none⟩ n c xs rfl HXL.out CC1.out HONE.out (by unfold maxLen; omega) (by omega) (by simp) ?_; intro v45 w5 O45 G45 N45; rw [Nat.zero_add, List.nil_append] at O45; obtain ⟨g5, cap5, rfl⟩ := owned_form O45 (fun e => by have := (N45.1 e).1; cases this); have BG5 := Lib.hid (below_row (Below.alloc (Below.refl Wx.heap.size Wx) (Nat.le_refl _) _) (by simp) G45 (Nat.le_of_eq HSX.out)); have HO5 := Lib.hid O45; have x5 : w5.cell? ⟨w2.heap.size, 4, none⟩ = some (.slice (some bd) q cc) := (BG5.out.cell (p := ⟨w2.heap.size, 4, none⟩) hlxg).trans (HLx.out.cell 4); have hs5 : Wx.heap.size ≤ w5.heap.size := BG5.out.size; have hl5 : w2.heap.size < w5.heap.size := (by omega); have hl5n : ¬ w2.heap.size = w5.heap.size := (by omega); have O58 := Lib.hid (own_new (B := Wx.heap.size) w5 hs5); have R5 := Lib.hid ((HRg.out.kept BG5.out).alloc (.cells #[] 3)); clear O45 G45 N45))
      | (at_builtin; (refine wpList_append_own _ rfl (.tmp 58) (.tmp 60) 30 rfl Wx.heap.size 3 i3 (.int .i64 0) 1 8 Tryz.underlying30 hi3 hz30 hz31 hz32 rfl (by decide) (.slice (some ⟨w5.heap.size, 0, none⟩) 0 0) 0 [] rfl O58.out bd q cc (o.2.map (Value.int .i64)) rfl (by simp [HOQ.out]) (row_news R5.out) (ints_oneCell _ _) (by unfold maxLen; omega) (by omega) (by simp; omega) ?_; intro v6 w6 O6 G6 N6; rw [Nat.zero_add, List.nil_append] at O6; obtain ⟨g6, cap6, rfl⟩ := owned_form O6 (fun e => by have := (N6.1 e).1; cases this); have BG6 := Lib.hid (below_row (BG5.out.alloc hs5 (.cells #[] 3)) (by simp; omega) G6 hs5); have HO6 := Lib.hid O6; have HO56 := Lib.hid (owns_apart (owns_any HO5.out (below_one w5 (.cells #[] 3))) O58.out (by decide) G6); have e6 : w6.cell? ⟨g5, i * 5 + 4, none⟩ = some (.slice (some ⟨b0, 0, none⟩) q c0') := (owns_at HO56.out HX4.out).1; have z6 : w6.frozen? ⟨g5, i * 5 + 4, none⟩ = false := (owns_at HO56.out HX4.out).2; have e7 : w6.cell? ⟨g6, f, none⟩ = some uf := (owns_at HO6.out HUF.out).1; have z7 : w6.frozen? ⟨g6, f, none⟩ = false := (owns_at HO6.out HUF.out).2; have d56 : ¬ g5 = g6 := (owns_block HO56.out).choose_spec.apart (owns_block HO6.out).choose_spec (by decide); have d65 : ¬ g6 = g5 := fun e => d56 e.symm; have LH6 := HLh.out.below BG6.out HLh.out.lt; have LR6 := HLr.out.below BG6.out HLr.out.lt; have HLH6 := Lib.hid LH6; have HLR6 := Lib.hid LR6; have a0 : w6.cell? ⟨w.heap.size, 0, none⟩ = some (.int .i64 (Z : Int)) := LH6.cell 0; have a1 : w6.cell? ⟨w.heap.size, 1, none⟩ = some (.slice (some ⟨gA, 0, none⟩) n c) := LH6.cell 1; have a2 : w6.frozen? ⟨w.heap.size, 1, none⟩ = false := LH6.frozen 1; have r0 : w6.cell? ⟨w.heap.size + 1, 0, none⟩ = some (.int .i64 0) := LR6.cell 0; have r1 : w6.cell? ⟨w.heap.size + 1, 1, none⟩ = some (.slice none 0 0) := LR6.cell 1; have r2 : w6.frozen? ⟨w.heap.size + 1, 0, none⟩ = false := LR6.frozen 0; have r3 : w6.frozen? ⟨w.heap.size + 1, 1, none⟩ = false := LR6.frozen 1; have g50 := owns_ge HO56.out; have g60 := owns_ge HO6.out; have t1 : ¬ w.heap.size = g5 := (by omega); have t2 : ¬ w.heap.size = g6 := (by omega); have t3 : ¬ w.heap.size + 1 = g5 := (by omega); have t4 : ¬ w.heap.size + 1 = g6 := (by omega); have lt6 := LR6.lt; clear O6 G6 N6 LH6 LR6)))
    have P1 := owns_set HO56.out (i * 5 + 4) (.slice (some ⟨g6, 0, none⟩) q cap6)
    have P2 := owns_other HO6.out HO56.out (by decide) (i * 5 + 4) (.slice (some ⟨g6, 0, none⟩) q cap6)
    have P3 := owns_other P1 P2 (by decide) f (.int .i64 v)
    have P4 := owns_set P2 f (.int .i64 v)
    have LH := (HLH6.out.far (p := ⟨g5, i * 5 + 4, none⟩) t1 (.slice (some ⟨g6, 0, none⟩) q cap6)).far (p := ⟨g6, f, none⟩) t2 (.int .i64 v)
    have LR := (HLR6.out.far (p := ⟨g5, i * 5 + 4, none⟩) t3 (.slice (some ⟨g6, 0, none⟩) q cap6)).far (p := ⟨g6, f, none⟩) t4 (.int .i64 v)
    have BU := ((on HBg.out HBg.out.size BG6.out).setCell (p := ⟨g5, i * 5 + 4, none⟩) (by simp; omega) (.slice (some ⟨g6, 0, none⟩) q cap6)).setCell (p := ⟨g6, f, none⟩) (by simp; omega) (.int .i64 v)
    have hbs := HBASE.out
    have OWNU := write_owned HXS.out HX1.out HC1.out HC2.out BU HaN.out (by omega) HOQ.out P3 P4
    have OWN1 := Owned.far OWNU LH (by decide) (by decide) 1 (.slice (some ⟨g5, 0, none⟩) n cap5)
    have LR1 := LR.far (p := ⟨w.heap.size, 1, none⟩) (by simp) (.slice (some ⟨g5, 0, none⟩) n cap5)
    have OWN2 := Owned.far OWN1 LR1 (by decide) (by decide) 0 (.int .i64 (Z : Int))
    have LR2 := LR1.set 0 (.int .i64 (Z : Int))
    have OWN3 := Owned.far OWN2 LR2 (by decide) (by decide) 1 (.slice (some ⟨g5, 0, none⟩) n cap5)
    have B1 := ((BU.setCell (p := ⟨w.heap.size, 1, none⟩) (by simp) (.slice (some ⟨g5, 0, none⟩) n cap5)).setCell (p := ⟨w.heap.size + 1, 0, none⟩) (by simp) (.int .i64 (Z : Int))).setCell (p := ⟨w.heap.size + 1, 1, none⟩) (by simp) (.slice (some ⟨g5, 0, none⟩) n cap5)
    have hln : (pre ++ (o.1, o.2.set f v) :: post).length = n := by have := Hn.out; simpa using this
    have LR3 := LR2.set 1 (.slice (some ⟨g5, 0, none⟩) n cap5)
    have s0 := LR3.cell 0
    have s1 := LR3.cell 1
    have s3 := LR3.lt
    exact bodyPost_ret (v := .tuple #[.agg #[.int .i64 (Z : Int), .slice (some ⟨g5, 0, none⟩) n cap5], .int .i64 0]) (by simp [results, Tryz.results44, go_sem, a0, a1, a2, r0, r1, r2, r3, e6, z6, e7, z7, t1, t2, t3, t4, lt6]) rfl ⟨⟨_, _, _, _, rfl, hln, OWN3⟩, B1⟩

/-- What the reference's Write answers. -/
theorem rwrite_any {w : World} {base : Nat} {xs : List Value} (Z : Nat) (A : Option Addr) (n c : Nat) (obs : List Ob) (hf : Fine obs) (OWN : Owned w base A n c obs xs) (hbase : base ≤ w.heap.size) (hn : obs.length = n) (hZ6 : (flat obs).length ≤ 65536) (a f v : Int) (hv : InR v) :
    Calls Tryz.prog 44 #[.agg #[.int .i64 (Z : Int), .slice A n c], .int .i64 a, .int .i64 f, .int .i64 v] w (WritePost w base Z (writeF obs a f v)) := by
  have hn6 : n ≤ 65536 := by have := count_le obs; omega
  by_cases h : (writeF obs a f v).1 ≠ 0
  · exact rwrite_no Z A n c obs hf OWN hn hn6 a f v hv h
  · have h0 : (writeF obs a f v).1 = 0 := by
      apply Classical.byContradiction; intro h1; exact h h1
    clear h
    cases hl : look obs a with
    | none => unfold writeF at h0; rw [hl] at h0; simp at h0
    | some x =>
      obtain ⟨pre, o, post⟩ := x
      have hs : writeF obs a f v = if ¬ (0 ≤ f ∧ f < o.1 / 65536) ∨ o.1 % 16 = 15 then (4, obs) else if f < o.1 % 65536 / 16 ∧ astrayO obs v = true then (5, obs) else (0, pre ++ (o.1, o.2.set f.toNat v) :: post) := by
        unfold writeF; rw [hl]
      obtain ⟨e0, rfl⟩ := look_some _ _ _ hl
      simp only at e0
      rw [hs] at h0 ⊢
      by_cases h1 : ¬ (0 ≤ f ∧ f < o.1 / 65536) ∨ o.1 % 16 = 15
      · rw [if_pos h1] at h0; simp at h0
      · rw [if_neg h1] at h0 ⊢
        by_cases h2 : f < o.1 % 65536 / 16 ∧ astrayO obs v = true
        · rw [if_pos h2] at h0; simp at h0
        · rw [if_neg h2]
          have h3 : 0 ≤ f := by omega
          obtain ⟨f, rfl⟩ := Int.eq_ofNat_of_zero_le h3
          obtain ⟨q, hq⟩ : ∃ q : Nat, o.1 / 65536 = (q : Int) := ⟨(o.1 / 65536).toNat, by omega⟩
          subst e0
          obtain ⟨gA, cap, hA⟩ := owned_form OWN.own (fun e => by
            injection e with _ e2
            have : 0 < n := by rw [← hn]; simp; omega
            omega)
          injection hA with hA _ _
          subst hA
          exact rwrite_yes Z gA n c _ q _ f pre post o hf OWN hbase hn hn6 rfl rfl v hv hq (by omega) (by omega) h2
end Go.Proofs.YtklhdilbmpndkaaGreat
