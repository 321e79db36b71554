/- What the reference's Split answers where it splits. -/
import Derived.Test.YtibfhpbklnpknaaRSp
namespace Go.Proofs.Ytibfhpbklnpknaa
open Go.RowKit
set_option linter.unusedVariables false
set_option linter.unusedSimpArgs false

theorem CellsO.split {w : World} {base : Nat} : ∀ {a : Nat} {pre rest : List Ob} {xs : List Value}, CellsO w base a (pre ++ rest) xs → ∃ xs1 xs2, xs = xs1 ++ xs2 ∧ CellsO w base a pre xs1 ∧ CellsO w base (a + (flat pre).length) rest xs2
  | a, [], rest, xs, h => ⟨[], xs, rfl, rfl, by simpa [flat_nil] using h⟩
  | a, o :: l, rest, xs, h => by
    obtain ⟨b, c, ys, e, ho, h2⟩ := h
    obtain ⟨xs1, xs2, e2, h3, h4⟩ := CellsO.split h2
    refine ⟨thing a o (some ⟨b, 0, none⟩) c ++ xs1, xs2, by rw [e, e2, List.append_assoc], ⟨b, c, xs1, rfl, ho, h3⟩, ?_⟩
    have : a + (flat (o :: l)).length = a + 1 + o.2.length + (flat l).length := by rw [flat_cons]; simp; omega
    rw [this]; exact h4
theorem owns_cells {w : World} {base n g cap : Nat} {xs : List Value} (h : w.ownsRow base 42 5 (.slice (some ⟨g, 0, none⟩) n cap) n xs) : (∀ j u, xs[j]? = some u → w.cell? ((⟨g, 0, none⟩ : Addr).add j) = some u) ∧ n ≤ cap := by
  rcases h.2 with ⟨e, _⟩ | ⟨g', cap', cur, e, _, h3, h4, _, _, h7⟩
  · cases e
  · injection e with e1 _ e3
    injection e1 with e1
    injection e1 with e1
    subst e1 e3
    refine ⟨fun j u hu => World.news_of_block h3 j u ?_, h4⟩
    rw [← h7, List.getElem?_take] at hu
    split at hu
    · exact hu
    · cases hu
theorem add_off (g k j : Nat) : (⟨g, k, none⟩ : Addr).add j = (⟨g, 0, none⟩ : Addr).add (k + j) := by
  unfold Addr.add
  by_cases h : j = 0
  · subst h
    by_cases h' : k = 0
    · subst h'; rfl
    · rw [if_pos rfl, if_neg (by omega)]; simp
  · rw [if_neg h, if_neg (by omega)]; simp
theorem lies_news {w : World} {b : Nat} {t : TypeId} {cs : List Value} (h : Lies w b t cs) : ∀ j u, cs[j]? = some u → w.cell? ((⟨b, 0, none⟩ : Addr).add j) = some u := fun j u hu => by
  have e : (⟨b, 0, none⟩ : Addr).add j = ⟨b, j, none⟩ := by unfold Addr.add; split <;> simp_all
  rw [e, h.cell j]; exact hu
theorem csplit_even {w U : World} {base n' cap g bm aN q l : Nat} {pre post : List Ob} {xs1 xs2 : List Value} {k p : Int} (C1 : CellsO w base 0 pre xs1) (C2 : CellsO w base (aN + 1 + q) post xs2) (B : Below w.heap.size w U) {N : Nat}
    (O : U.ownsRow N 42 5 (.slice (some ⟨g, 0, none⟩) n' cap) n' ((xs1 ++ [.int .i64 (aN : Int), .int .i64 k, .int .i64 (l : Int), .int .i64 p, .slice (some ⟨bm, 0, none⟩) l l]) ++ xs2)) (MK : Lies U bm 3 (noughts l)) (hN : base ≤ N) (hbm : base ≤ bm) (haN : (flat pre).length = aN) (hg : goodB k (l : Int) p = true) (h1 : q ≤ l) (h2 : l ≤ q) (hl : l ≤ 65536) :
    Owned U base (some ⟨g, 0, none⟩) n' cap (pre ++ (packW k (l : Int) p, zeros (l : Int)) :: post) ((xs1 ++ [.int .i64 (aN : Int), .int .i64 k, .int .i64 (l : Int), .int .i64 p, .slice (some ⟨bm, 0, none⟩) l l]) ++ xs2) := by
  obtain rfl : l = q := by omega
  obtain ⟨_, e1, e2, e3⟩ := head_pack hg
  refine ⟨owns_base O hN, ?_⟩
  rw [List.append_assoc]
  refine (C1.kept B).append ?_
  rw [Nat.zero_add, haN]
  refine ⟨bm, l, xs2, ?_, ?_, ?_⟩
  · simp [thing, e1, e2, e3, zeros]
  · have := owns_lies MK (base := base) hbm hl
    simpa [zeros] using this
  · have := C2.kept B
    simpa [zeros] using this
theorem csplit_rest {w U : World} {base n' cap g bm bm2 aN q l m : Nat} {pre post : List Ob} {xs1 xs2 : List Value} {k p : Int} (C1 : CellsO w base 0 pre xs1) (C2 : CellsO w base (aN + 1 + q) post xs2) (B : Below w.heap.size w U) {N : Nat}
    (O : U.ownsRow N 42 5 (.slice (some ⟨g, 0, none⟩) n' cap) n' (((xs1 ++ [.int .i64 (aN : Int), .int .i64 k, .int .i64 (l : Int), .int .i64 p, .slice (some ⟨bm, 0, none⟩) l l]) ++ [.int .i64 ((aN : Int) + 1 + (l : Int)), .int .i64 15, .int .i64 ((q : Int) - (l : Int) - 1), .int .i64 0, .slice (some ⟨bm2, 0, none⟩) m m]) ++ xs2)) (MK : Lies U bm 3 (noughts l)) (MK2 : Lies U bm2 3 (noughts m)) (hN : base ≤ N) (hbm : base ≤ bm ∧ base ≤ bm2) (haN : (flat pre).length = aN) (hg : goodB k (l : Int) p = true) (hl : l ≤ 65536) (hlq : l < q) (hm : (m : Int) = (q : Int) - (l : Int) - 1) (hq : q ≤ 4095) :
    Owned U base (some ⟨g, 0, none⟩) n' cap (pre ++ (packW k (l : Int) p, zeros (l : Int)) :: (packW 15 ((q : Int) - (l : Int) - 1) 0, zeros ((q : Int) - (l : Int) - 1)) :: post) (((xs1 ++ [.int .i64 (aN : Int), .int .i64 k, .int .i64 (l : Int), .int .i64 p, .slice (some ⟨bm, 0, none⟩) l l]) ++ [.int .i64 ((aN : Int) + 1 + (l : Int)), .int .i64 15, .int .i64 ((q : Int) - (l : Int) - 1), .int .i64 0, .slice (some ⟨bm2, 0, none⟩) m m]) ++ xs2) := by
  obtain ⟨_, e1, e2, e3⟩ := head_pack hg
  rw [← hm]
  have hg2 : goodB 15 (m : Int) 0 = true := good_yes ⟨by omega, by omega, by omega, by omega, by omega, by omega, by omega⟩
  obtain ⟨_, f1, f2, f3⟩ := head_pack hg2
  rw [← hm] at O
  refine ⟨owns_base O hN, ?_⟩
  rw [List.append_assoc, List.append_assoc]
  refine (C1.kept B).append ?_
  rw [Nat.zero_add, haN]
  refine ⟨bm, l, [.int .i64 ((aN : Int) + 1 + (l : Int)), .int .i64 15, .int .i64 (m : Int), .int .i64 0, .slice (some ⟨bm2, 0, none⟩) m m] ++ xs2, ?_, ?_, ⟨bm2, m, xs2, ?_, ?_, ?_⟩⟩
  · simp [thing, e1, e2, e3, zeros]
  · have := owns_lies MK (base := base) hbm.1 hl
    simpa [zeros] using this
  · simp [thing, f1, f2, f3, zeros]
  · have := owns_lies MK2 (base := base) hbm.2 (by omega)
    simpa [zeros] using this
  · have h := C2.kept B
    have e : aN + 1 + (zeros (l : Int)).length + 1 + (zeros (m : Int)).length = aN + 1 + q := by simp [zeros]; omega
    simp only
    rw [e]; exact h
theorem owned_form {w : World} {base n sz : Nat} {t : TypeId} {v : Value} {xs : List Value} (h : w.ownsRow base t sz v n xs) (hne : v = .slice none 0 0 → False) : ∃ g cap, v = .slice (some ⟨g, 0, none⟩) n cap := by
  rcases h.2 with ⟨e, _⟩ | ⟨g, cap, cur, e, _⟩
  · exact (hne e).elim
  · exact ⟨g, cap, e⟩

set_option maxRecDepth 100000 in
set_option maxHeartbeats 4000000 in
theorem rsplit_even {w : World} {base : Nat} {xs : List Value} (Z : Nat) (gA n c aN q l i : Nat) (pre post : List Ob) (o : Ob) (hf : Fine (pre ++ o :: post)) (OWN : Owned w base (some ⟨gA, 0, none⟩) n c (pre ++ o :: post) xs) (hbase : base ≤ w.heap.size) (hn : (pre ++ o :: post).length = n) (hn6 : n ≤ 65536) (hi : pre.length = i) (haN : (flat pre).length = aN) (haZ : aN + 1 + q ≤ 65536) (hq : o.1 / 65536 = (q : Int)) (h15 : o.1 % 16 = 15) (k p : Int) (hg : goodB k (l : Int) p = true) (hlq : q ≤ l) (hlq2 : l ≤ q) :
    Calls Try.prog 18 #[.agg #[.int .i64 (Z : Int), .slice (some ⟨gA, 0, none⟩) n c], .int .i64 (aN : Int), .agg #[.int .i64 k, .int .i64 (l : Int), .int .i64 p]] w (SplitPost w base Z (pre ++ o :: post) (0, 0, pre ++ (packW k (l : Int) p, zeros (l : Int)) :: post)) := by
  have hlk := look_here pre o post
  rw [haN] at hlk
  obtain ⟨hv, ho⟩ := find_look hlk
  simp only at hv ho
  rw [hi] at hv ho
  have hin : i < n := by rw [← hn, ← hi]; simp
  have hl4 := ((good_iff _ _ _).1 hg).2.2.2.1
  have hhd := (hf o (by simp)).1
  have hol := (hf o (by simp)).2
  have hq4 := len_le hhd
  have hoq : o.2.length = q := by rw [hol]; unfold lenOf; omega
  have hqq : q ≤ 4095 := by rw [hol] at hoq; omega
  obtain ⟨xs1, xs3, hxs, C1, C3⟩ := OWN.cells.split
  obtain ⟨b0, c0', xs2, hx3, O0, C2⟩ := C3
  have hx1 : xs1.length = i * 5 := by rw [C1.cells.len, hi]
  rw [Nat.zero_add, haN] at C2
  rw [hoq] at C2
  obtain ⟨hcc, hcap⟩ := owns_cells OWN.own
  have hp1 : ∀ j u, xs1[j]? = some u → xs[j]? = some u := fun j u h => by rw [hxs, List.getElem?_append_left (List.getElem?_eq_some_iff.1 h).1]; exact h
  have hp2 : ∀ j u, xs2[j]? = some u → xs[(i + 1) * 5 + j]? = some u := fun j u h => by
    rw [hxs, hx3, List.getElem?_append_right (by omega), List.getElem?_append_right (by simp [thing]; omega)]
    have : (i + 1) * 5 + j - xs1.length - (thing (0 + (flat pre).length) o (some ⟨b0, 0, none⟩) c0').length = j := by simp [thing]; omega
    rw [this]; exact h
  have hx2 : xs2.length = (n - (i + 1)) * 5 := by
    have := C2.cells.len
    rw [this]
    have : post.length = n - (i + 1) := by rw [← hn, ← hi]; simp; omega
    rw [this]
  have hone : ∀ u ∈ xs, u.oneCell' = true := OWN.cells.cells.flatOne
  have hone1 : ∀ u ∈ xs1, u.oneCell' = true := fun u hu => hone u (by rw [hxs]; simp [hu])
  have hone2 : ∀ u ∈ xs2, u.oneCell' = true := fun u hu => hone u (by rw [hxs, hx3]; simp [hu])
  obtain ⟨z, hzo⟩ : ∃ z, o.1 = z := ⟨_, rfl⟩
  have HF := Lib.hid hf
  have HOW := Lib.hid OWN
  have Hn := Lib.hid hn
  have HO := Lib.hid ho
  have HV := Lib.hid hv
  have HZO := Lib.hid hzo
  have HC1 := Lib.hid C1
  have HC2 := Lib.hid C2
  have HCC := Lib.hid hcc
  have HP1 := Lib.hid hp1
  have HP2 := Lib.hid hp2
  have HX1 := Lib.hid hx1
  have HX2 := Lib.hid hx2
  have HONE1 := Lib.hid hone1
  have HONE2 := Lib.hid hone2
  rw [hzo] at hq h15
  have HQ := Lib.hid hq
  have H15 := Lib.hid h15
  have Hi := Lib.hid hi
  have HaN := Lib.hid haN
  clear hf OWN hn ho hv hzo C1 C2 hcc hp1 hp2 hx1 hx2 hone hone1 hone2 hlk hhd hol hoq hxs hx3 hq h15 O0 hi haN hq4
  obtain ⟨Wp, hWp⟩ : ∃ Wp, Wp = ((w.alloc (.cells #[.int .i64 (Z : Int), .slice (some ⟨gA, 0, none⟩) n c] 36)).alloc (.cells #[.int .i64 k, .int .i64 (l : Int), .int .i64 p] 40)).alloc (.cells #[.int .i64 0, .slice none 0 0] 36) := ⟨_, rfl⟩
  have bp : Below w.heap.size w Wp := by
    rw [hWp]
    repeat (first | exact Below.refl _ _ | refine Below.alloc ?_ (by simp <;> omega) _)
  have Lh : Lies Wp w.heap.size 36 [.int .i64 (Z : Int), .slice (some ⟨gA, 0, none⟩) n c] := by rw [hWp]; exact ((Lies.new w 36 [_, _]).alloc _).alloc _
  have Lx : Lies Wp (w.heap.size + 1) 40 [.int .i64 k, .int .i64 (l : Int), .int .i64 p] := by
    rw [hWp]
    have := (Lies.new (w.alloc (.cells #[.int .i64 (Z : Int), .slice (some ⟨gA, 0, none⟩) n c] 36)) 40 [.int .i64 k, .int .i64 (l : Int), .int .i64 p]).alloc (.cells #[.int .i64 0, .slice none 0 0] 36)
    rw [World.size_alloc] at this; exact this
  have Lr : Lies Wp (w.heap.size + 1 + 1) 36 [.int .i64 0, .slice none 0 0] := by
    rw [hWp]
    have := Lies.new ((w.alloc (.cells #[.int .i64 (Z : Int), .slice (some ⟨gA, 0, none⟩) n c] 36)).alloc (.cells #[.int .i64 k, .int .i64 (l : Int), .int .i64 p] 40)) 36 [.int .i64 0, .slice none 0 0]
    rw [World.size_alloc, World.size_alloc] at this; exact this
  have HPh := Lib.hid Lh
  have HPx := Lib.hid Lx
  have HPr := Lib.hid Lr
  have Hbp := Lib.hid bp
  have HWp := Lib.hid hWp
  clear Lh Lx Lr bp hWp
  have h15b : ((15 : Int) != 15) = false := by simp
  have dle : decide ((q : Int) < (l : Int)) = false := by simp; omega
  have dlt : decide ((l : Int) < (q : Int)) = false := by simp; omega
  have i0 : (0 : Int) ≤ (i : Int) := by omega
  have i1 : (i : Int) < (n : Int) := by omega
  have i2 : (i : Int) ≤ (c : Int) := by omega
  have c1 : ¬ c = 0 := by omega
  obtain ⟨i53, z53, hi53, hz53, hs53, hb53, hc53⟩ := info_53
  go_enter Try.func18, Try.ntmps18
  go_wp2_with fail
  rw [← HWp.out]
  refine (rfind_any (Z : Int) (aN : Int) n c (HOW.out.things.kept Hbp.out) Hn.out hn6).mono ?_
  rintro e w2 ⟨rfl, hb2⟩
  rw [HV.out]
  obtain ⟨ad, bd, cc, ead, k0, k1, k2, k3, k4, hR, hadl⟩ := ((HOW.out.things.kept Hbp.out).at2 HO.out hb2)
  injection ead with ead
  subst ead
  rw [HZO.out] at k1 k2 k3
  rw [HQ.out] at k2
  rw [H15.out] at k1
  have ea : (⟨gA, 0, none⟩ : Addr).add (i * 5) = ⟨gA, i * 5, none⟩ := by unfold Addr.add; split <;> simp_all
  rw [ea] at k1 k2 k3 hadl
  have k1 : w2.cell? ⟨gA, i * 5 + 1, none⟩ = some (.int .i64 15) := k1
  have k2 : w2.cell? ⟨gA, i * 5 + 1 + 1, none⟩ = some (.int .i64 (q : Int)) := k2
  have k3 : w2.cell? ⟨gA, i * 5 + 1 + 2, none⟩ = some (.int .i64 (z % 65536 / 16)) := k3
  clear ea
  have Lh2 := HPh.out.below hb2 HPh.out.lt
  have Lx2 := HPx.out.below hb2 HPx.out.lt
  have Lr2 := HPr.out.below hb2 HPr.out.lt
  have y1 : w2.cell? ⟨w.heap.size, 1, none⟩ = some (.slice (some ⟨gA, 0, none⟩) n c) := Lh2.cell 1
  have x0 : w2.cell? ⟨w.heap.size + 1, 0, none⟩ = some (.int .i64 k) := Lx2.cell 0
  have x1 : w2.cell? ⟨w.heap.size + 1, 1, none⟩ = some (.int .i64 (l : Int)) := Lx2.cell 1
  have x2 : w2.cell? ⟨w.heap.size + 1, 2, none⟩ = some (.int .i64 p) := Lx2.cell 2
  have lt := Lr2.lt
  have l0 : w.heap.size < w2.heap.size := by omega
  have l1 : w.heap.size + 1 < w2.heap.size := by omega
  have HB2 := Lib.hid (on Hbp.out Hbp.out.size hb2)
  have HO2 := Lib.hid ((HOW.out.kept Hbp.out).kept hb2)
  have HLh2 := Lib.hid Lh2
  have HLx2 := Lib.hid Lx2
  have HLr2 := Lib.hid Lr2
  clear Lh2 Lr2 Lx2 hb2 k0 k4 hR
  go_wp2_with fail
  refine (good_any k l p _).mono ?_
  rintro e Wg ⟨rfl, hWg⟩
  rw [hg]
  have bg : Below w2.heap.size w2 Wg := by rw [hWg]; exact ((Below.refl _ _).alloc (Nat.le_refl _) _).alloc (by simp) _
  have LF : Lies Wg w2.heap.size 40 [.int .i64 15, .int .i64 (q : Int), .int .i64 (z % 65536 / 16)] := by rw [hWg]; exact (Lies.new w2 40 [_, _, _]).alloc _
  have HB3 := Lib.hid (on HB2.out HB2.out.size bg)
  have OWNg := Lib.hid (HO2.out.kept bg)
  have HLh := Lib.hid (HLh2.out.below bg HLh2.out.lt)
  have HLx := Lib.hid (HLx2.out.below bg HLx2.out.lt)
  have HLr := Lib.hid (HLr2.out.below bg HLr2.out.lt)
  have HLF := Lib.hid LF
  have yg1 : Wg.cell? ⟨w.heap.size, 1, none⟩ = some (.slice (some ⟨gA, 0, none⟩) n c) := HLh.out.cell 1
  have xg0 : Wg.cell? ⟨w.heap.size + 1, 0, none⟩ = some (.int .i64 k) := HLx.out.cell 0
  have xg1 : Wg.cell? ⟨w.heap.size + 1, 1, none⟩ = some (.int .i64 (l : Int)) := HLx.out.cell 1
  have xg2 : Wg.cell? ⟨w.heap.size + 1, 2, none⟩ = some (.int .i64 p) := HLx.out.cell 2
  have fg1 : Wg.cell? ⟨w2.heap.size, 1, none⟩ = some (.int .i64 (q : Int)) := LF.cell 1
  have hlxg : w.heap.size + 1 < Wg.heap.size := HLx.out.lt
  have hlhg : w.heap.size < Wg.heap.size := HLh.out.lt
  have hlfg : w2.heap.size < Wg.heap.size := LF.lt
  have O40 := Lib.hid (own_new53 (B := Wg.heap.size) Wg (Nat.le_refl _))
  have CC1 := Lib.hid (show ∀ j u, xs1[j]? = some u → (Wg.alloc (.cells #[] 42)).cell? ((⟨gA, 0, none⟩ : Addr).add j) = some u from fun j u hu => (owns_cells (owns_any OWNg.out.own (below_one Wg (.cells #[] 42)))).1 j u (HP1.out j u hu))
  clear x0 x1 x2 y1 lt l0 l1 bg LF hWg HB2 HO2 HLh2 HLx2 HLr2 k1 k2 k3 hadl
  go_wp2_with (at_builtin; refine wpList_append_own _ rfl (.tmp 40) (.tmp 44) 34 rfl Wg.heap.size 42 i53 z53 5 56 Try.underlying34 hi53 hz53 hs53 hb53 hc53 (by decide) _ 0 [] rfl O40.out ⟨gA, 0, none⟩ i c xs1 rfl HX1.out CC1.out HONE1.out (by unfold maxLen; omega) (by omega) (by simp) ?_; intro v45 w5 O45 G45 N45; rw [Nat.zero_add, List.nil_append] at O45; obtain ⟨g45, cap45, rfl⟩ := owned_form O45 (fun e => by have := (N45.1 e).1; cases this); have BGx := Lib.hid (below_row (Below.alloc (Below.refl Wg.heap.size Wg) (Nat.le_refl _) _) (by simp) G45 (Nat.le_refl _)); have HO45 := Lib.hid O45; clear O45 G45 N45)
  obtain ⟨U0, hU0⟩ : ∃ U0, U0 = w5.drew := ⟨_, rfl⟩
  have BG := Lib.hid (show Below Wg.heap.size Wg U0 by rw [hU0]; exact BGx.out.drew)
  have hgu : Wg.heap.size ≤ U0.heap.size := BG.out.size
  have O45_0 := Lib.hid (show U0.ownsRow Wg.heap.size 42 5 (.slice (some ⟨g45, 0, none⟩) i cap45) i xs1 by rw [hU0]; exact owns_any HO45.out (Below.refl _ _).drew)
  have xu0 : U0.cell? ⟨w.heap.size + 1, 0, none⟩ = some (.int .i64 k) := (BG.out.cell (p := ⟨w.heap.size + 1, 0, none⟩) hlxg).trans xg0
  have xu1 : U0.cell? ⟨w.heap.size + 1, 1, none⟩ = some (.int .i64 (l : Int)) := (BG.out.cell (p := ⟨w.heap.size + 1, 1, none⟩) hlxg).trans xg1
  have xu2 : U0.cell? ⟨w.heap.size + 1, 2, none⟩ = some (.int .i64 p) := (BG.out.cell (p := ⟨w.heap.size + 1, 2, none⟩) hlxg).trans xg2
  have hlx : w.heap.size + 1 < U0.heap.size := by omega
  have HB0 := Lib.hid (Below.refl U0.heap.size U0)
  have hmk := make51 l (by omega)
  refine wp_region_held_drew (S := fun W => W.cell? ⟨w.heap.size + 1, 0, none⟩ = some (.int .i64 k) ∧ W.cell? ⟨w.heap.size + 1, 1, none⟩ = some (.int .i64 (l : Int)) ∧ W.cell? ⟨w.heap.size + 1, 2, none⟩ = some (.int .i64 p)) (by kernel_rfl) (by rw [← hU0]; exact ⟨xu0, xu1, xu2⟩) (fun hS0 => ?_)
  rw [← hU0] at hS0 ⊢
  clear hU0 BGx HO45
  refine wpAnyH_take (i := 0) (oi := { dst := some 46, op := Go.Op.move (Go.Operand.tmp 11), type := 34, pos := "ref.go:117", after := #[], guard := none }) (v := ?_) rfl (by kernel_rfl) (by kernel_rfl) (by kernel_rfl) (fun _ _ _ h => h) (Or.inl ⟨by rfl, ?_⟩) hS0 ?_
  rotate_left
  · (intro w hSw; (try dsimp only at hSw); go_simp; (try with_reducible rfl))
  (try simp only [Act.put, List.setIfInBounds_toArray, List.set_cons_zero, List.set_cons_succ])
  refine wpAnyH_take (i := 1) (oi := { dst := some 47, op := Go.Op.move (Go.Operand.tmp 1), type := 3, pos := "ref.go:117", after := #[], guard := none }) (v := ?_) rfl (by kernel_rfl) (by kernel_rfl) (by kernel_rfl) (fun _ _ _ h => h) (Or.inl ⟨by rfl, ?_⟩) hS0 ?_
  rotate_left
  · (intro w hSw; (try dsimp only at hSw); go_simp; (try with_reducible rfl))
  (try simp only [Act.put, List.setIfInBounds_toArray, List.set_cons_zero, List.set_cons_succ])
  refine wpAnyH_take (i := 2) (oi := { dst := some 48, op := Go.Op.load 40 (Go.Operand.tmp 5), type := 40, pos := "ref.go:117", after := #[], guard := none }) (v := ?_) rfl (by kernel_rfl) (by kernel_rfl) (by kernel_rfl) (fun _ _ _ h => h) (Or.inl ⟨by rfl, ?_⟩) hS0 ?_
  rotate_left
  · (intro w hSw; (try dsimp only at hSw); go_simp; (try with_reducible rfl))
  (try simp only [Act.put, List.setIfInBounds_toArray, List.set_cons_zero, List.set_cons_succ])
  refine wpAnyH_take (i := 3) (oi := { dst := some 49, op := Go.Op.fieldAddr 40 (Go.Operand.tmp 5) 1, type := 0, pos := "ref.go:117", after := #[], guard := none }) (v := ?_) rfl (by kernel_rfl) (by kernel_rfl) (by kernel_rfl) (fun _ _ _ h => h) (Or.inl ⟨by rfl, ?_⟩) hS0 ?_
  rotate_left
  · (intro w hSw; (try dsimp only at hSw); go_simp; (try with_reducible rfl))
  (try simp only [Act.put, List.setIfInBounds_toArray, List.set_cons_zero, List.set_cons_succ])
  refine wpAnyH_take (i := 4) (oi := { dst := some 50, op := Go.Op.load 3 (Go.Operand.tmp 49), type := 3, pos := "ref.go:117", after := #[{ on := 3, ground := Go.Ground.data }], guard := none }) (v := ?_) rfl (by kernel_rfl) (by kernel_rfl) (by kernel_rfl) (fun _ _ _ h => h) (Or.inl ⟨by rfl, ?_⟩) hS0 ?_
  rotate_left
  · (intro w hSw; (try dsimp only at hSw); go_simp; (try with_reducible rfl))
  (try simp only [Act.put, List.setIfInBounds_toArray, List.set_cons_zero, List.set_cons_succ])
  refine wpAnyH_ready (rs := [5]) (by kernel_rfl) (by simp) ?_
  refine AllReadyH.cons (o := { dst := some 51, op := Go.Op.makeSlice 37 (Go.Operand.tmp 50) (Go.Operand.tmp 50), type := 37, pos := "ref.go:117", after := #[{ on := 4, ground := Go.Ground.data }, { on := 4, ground := Go.Ground.data }], guard := none }) rfl (fun K hK => ?_) ?_
  · skip
    go_simp
    refine named (fun U1 hU => ?_)
    have HB1 := Lib.hid (show Below U0.heap.size U0 U1 by rw [hU]; exact HB0.out.alloc HB0.out.size _)
    have O45_1 := Lib.hid (show U1.ownsRow Wg.heap.size 42 5 (.slice (some ⟨g45, 0, none⟩) i cap45) i xs1 by rw [hU]; exact owns_any O45_0.out (below_one _ _))
    have MK_1 := Lib.hid (show Lies U1 U0.heap.size 3 (noughts l) by rw [hU]; exact Lies.new U0 3 (noughts l))
    clear hU
    refine hK.out _ _ ⟨(HB1.out.cell (p := ⟨w.heap.size + 1, 0, none⟩) hlx).trans xu0, (HB1.out.cell (p := ⟨w.heap.size + 1, 1, none⟩) hlx).trans xu1, (HB1.out.cell (p := ⟨w.heap.size + 1, 2, none⟩) hlx).trans xu2⟩ (fun hH5 => ?_)
    clear hK K
    refine wpAnyH_take (i := 6) (oi := { dst := some 52, op := Go.Op.build 42 #[(0, Go.Operand.tmp 47), (1, Go.Operand.tmp 48), (2, Go.Operand.tmp 51)], type := 42, pos := "ref.go:117", after := #[{ on := 1, ground := Go.Ground.data }, { on := 2, ground := Go.Ground.data }, { on := 5, ground := Go.Ground.data }], guard := none }) (v := ?_) rfl (by kernel_rfl) (by kernel_rfl) (by kernel_rfl) (fun _ _ _ h => h) (Or.inl ⟨by rfl, ?_⟩) hH5 ?_
    rotate_left
    · (intro w hSw; (try dsimp only at hSw); go_simp; (try with_reducible rfl))
    (try simp only [Act.put, List.setIfInBounds_toArray, List.set_cons_zero, List.set_cons_succ])
    refine wpAnyH_ready (rs := [7]) (by kernel_rfl) (by simp) ?_
    refine AllReadyH.cons (o := { dst := some 53, op := Go.Op.buildSlice 34 1 #[(0, Go.Operand.tmp 52)], type := 34, pos := "ref.go:117", after := #[{ on := 6, ground := Go.Ground.data }], guard := none }) rfl (fun K hK => ?_) ?_
    · skip
      go_simp
      refine named (fun U2 hU => ?_)
      have HB2 := Lib.hid (show Below U0.heap.size U0 U2 by rw [hU]; exact HB1.out.alloc HB1.out.size _)
      have O45_2 := Lib.hid (show U2.ownsRow Wg.heap.size 42 5 (.slice (some ⟨g45, 0, none⟩) i cap45) i xs1 by rw [hU]; exact owns_any O45_1.out (below_one _ _))
      have MK_2 := Lib.hid (show Lies U2 U0.heap.size 3 (noughts l) by rw [hU]; exact MK_1.out.alloc _)
      have OB_2 := Lib.hid (show Lies U2 U1.heap.size 42 [.int .i64 (aN : Int), .int .i64 k, .int .i64 (l : Int), .int .i64 p, .slice (some ⟨U0.heap.size, 0, none⟩) l l] by rw [hU]; exact Lies.new U1 42 [.int .i64 (aN : Int), .int .i64 k, .int .i64 (l : Int), .int .i64 p, .slice (some ⟨U0.heap.size, 0, none⟩) l l])
      clear hU
      refine hK.out _ _ ⟨(HB2.out.cell (p := ⟨w.heap.size + 1, 0, none⟩) hlx).trans xu0, (HB2.out.cell (p := ⟨w.heap.size + 1, 1, none⟩) hlx).trans xu1, (HB2.out.cell (p := ⟨w.heap.size + 1, 2, none⟩) hlx).trans xu2⟩ (fun hH7 => ?_)
      clear hK K
      clear hH5
      refine wpAnyH_ready (rs := [8]) (by kernel_rfl) (by simp) ?_
      refine AllReadyH.cons (o := { dst := some 54, op := Go.Op.call { callee := Go.Callee.builtin Go.Builtin.append, args := #[Go.Operand.tmp 46, Go.Operand.tmp 53], argTypes := #[34, 34] }, type := 34, pos := "ref.go:117", after := #[{ on := 0, ground := Go.Ground.data }, { on := 7, ground := Go.Ground.data }], guard := none }) rfl (fun K hK => ?_) ?_
      · skip
        refine step_one rfl (.tmp 46) (.tmp 53) rfl Wg.heap.size g45 i cap45 xs1 rfl O45_2.out U1.heap.size 1 [.int .i64 (aN : Int), .int .i64 k, .int .i64 (l : Int), .int .i64 p, .slice (some ⟨U0.heap.size, 0, none⟩) l l] rfl OB_2.out rfl (one_cells _ _ _ _ _) (by omega) (Nat.le_trans hgu HB2.out.size) ?_
        intro g54 cap54 U3 O54 G54
        have HBg := Lib.hid (below_row (BG.out.trans (HB2.out.mono hgu)) (Nat.le_trans hgu HB2.out.size) G54 (owns_ge O45_2.out))
        have MKf := Lib.hid (show Lies U3 U0.heap.size 3 (noughts l) from lies_grown MK_2.out O45_2.out (by decide) G54)
        have O54f := Lib.hid O54
        clear O54 G54
        refine hK.out _ _ ⟨(HBg.out.cell (p := ⟨w.heap.size + 1, 0, none⟩) hlxg).trans xg0, (HBg.out.cell (p := ⟨w.heap.size + 1, 1, none⟩) hlxg).trans xg1, (HBg.out.cell (p := ⟨w.heap.size + 1, 2, none⟩) hlxg).trans xg2⟩ (fun hH8 => ?_)
        clear hK K
        clear hH7
        refine wpAnyH_take (i := 9) (oi := { dst := some 11, op := Go.Op.assign (Go.Operand.tmp 54), type := 34, pos := "ref.go:117", after := #[{ on := 8, ground := Go.Ground.data }, { on := 8, ground := Go.Ground.chain }, { on := 0, ground := Go.Ground.phase }, { on := 1, ground := Go.Ground.phase }, { on := 2, ground := Go.Ground.phase }, { on := 3, ground := Go.Ground.phase }, { on := 4, ground := Go.Ground.phase }, { on := 5, ground := Go.Ground.phase }, { on := 6, ground := Go.Ground.phase }, { on := 7, ground := Go.Ground.phase }, { on := 8, ground := Go.Ground.phase }], guard := none }) (v := ?_) rfl (by kernel_rfl) (by kernel_rfl) (by kernel_rfl) (fun _ _ _ h => h) (Or.inl ⟨by rfl, ?_⟩) hH8 ?_
        rotate_left
        · (intro w hSw; (try dsimp only at hSw); go_simp; (try with_reducible rfl))
        (try simp only [Act.put, List.setIfInBounds_toArray, List.set_cons_zero, List.set_cons_succ])
        refine wpAnyH_done (by kernel_rfl) ?_ _
        have x1u : U3.cell? ⟨w.heap.size + 1, 1, none⟩ = some (.int .i64 (l : Int)) := (HBg.out.cell (p := ⟨w.heap.size + 1, 1, none⟩) hlxg).trans xg1
        have f1u : U3.cell? ⟨w2.heap.size, 1, none⟩ = some (.int .i64 (q : Int)) := (HBg.out.cell (p := ⟨w2.heap.size, 1, none⟩) hlfg).trans fg1
        have y1u : U3.cell? ⟨w.heap.size, 1, none⟩ = some (.slice (some ⟨gA, 0, none⟩) n c) := (HBg.out.cell (p := ⟨w.heap.size, 1, none⟩) hlhg).trans yg1
        have hzu : Wg.heap.size ≤ U3.heap.size := HBg.out.size
        have j0 : (0 : Int) ≤ (i : Int) + 1 := by omega
        have j1 : (i : Int) + 1 ≤ (n : Int) := by omega
        have j2 : ((i : Int) + 1).toNat = i + 1 := by omega
        have CC2 := Lib.hid (show ∀ j u, xs2[j]? = some u → U3.cell? ((⟨gA, (i + 1) * 5, none⟩ : Addr).add j) = some u from fun j u hu => by rw [add_off]; exact (owns_cells (owns_any OWNg.out.own HBg.out)).1 _ u (HP2.out j u hu))
        have MK9 := MKf
        have O7 := O54f
        have HB7 := HBg
        by_cases hci : c = i + 1
        · have hxe : xs2 = [] := by apply List.eq_nil_of_length_eq_zero; rw [HX2.out]; omega
          go_wp2_with (first
            | (at_builtin; go_loud (refine wpList_append_own _ rfl (.tmp 80) (.tmp 85) 34 rfl Wg.heap.size 42 i53 z53 5 56 Try.underlying34 hi53 hz53 hs53 hb53 hc53 (by decide) (.slice (some ⟨g54, 0, none⟩) (i + 1) cap54) (i + 1) (xs1 ++ [.int .i64 (aN : Int), .int .i64 k, .int .i64 (l : Int), .int .i64 p, .slice (some ⟨U0.heap.size, 0, none⟩) l l]) rfl O7.out ⟨gA, 0, none⟩ (n - (i + 1)) _ xs2 rfl HX2.out (by intro j u hu; rw [hxe] at hu; simp at hu) HONE2.out (by unfold maxLen; omega) (by omega) HB7.out.size ?_; intro v86 w9 O86 G86 N86; obtain ⟨g86, cap86, rfl⟩ := owned_form O86 (fun e => by have := (N86.1 e).1; cases this); have HB9 := Lib.hid (below_row HB7.out HB7.out.size G86 (owns_ge O7.out)); have MKs := Lib.hid (lies_grown MK9.out O7.out (by decide) G86); have HO9 := Lib.hid O86; have hy09 : w9.cell? ⟨w.heap.size, 0, none⟩ = some (.int .i64 (Z : Int)) := (HB9.out.cell (p := ⟨w.heap.size, 0, none⟩) hlhg).trans (HLh.out.cell 0); have hy19 : w9.cell? ⟨w.heap.size, 1, none⟩ = some (.slice (some ⟨gA, 0, none⟩) n c) := (HB9.out.cell (p := ⟨w.heap.size, 1, none⟩) hlhg).trans yg1; have hyf9 : w9.frozen? ⟨w.heap.size, 1, none⟩ = false := (HB9.out.frozen (p := ⟨w.heap.size, 1, none⟩) hlhg).trans (HLh.out.frozen 1); have hr09 : w9.cell? ⟨w.heap.size + 1 + 1, 0, none⟩ = some (.int .i64 0) := (HB9.out.cell (p := ⟨w.heap.size + 1 + 1, 0, none⟩) HLr.out.lt).trans (HLr.out.cell 0); have hr19 : w9.cell? ⟨w.heap.size + 1 + 1, 1, none⟩ = some (.slice none 0 0) := (HB9.out.cell (p := ⟨w.heap.size + 1 + 1, 1, none⟩) HLr.out.lt).trans (HLr.out.cell 1); have hf09 : w9.frozen? ⟨w.heap.size + 1 + 1, 0, none⟩ = false := (HB9.out.frozen (p := ⟨w.heap.size + 1 + 1, 0, none⟩) HLr.out.lt).trans (HLr.out.frozen 0); have hf19 : w9.frozen? ⟨w.heap.size + 1 + 1, 1, none⟩ = false := (HB9.out.frozen (p := ⟨w.heap.size + 1 + 1, 1, none⟩) HLr.out.lt).trans (HLr.out.frozen 1); clear O86 G86 N86)))
          have LH9 := HLh.out.below HB9.out HLh.out.lt
          have LR9 := HLr.out.below HB9.out HLr.out.lt
          have B9 := on HB3.out HB3.out.size HB9.out
          have OWN9 := Owned.far (csplit_even HC1.out HC2.out B9 HO9.out MKs.out (by omega) (by omega) HaN.out hg hlq hlq2 (by omega)) LH9 (by decide) (by decide) 1 (.slice (some ⟨g86, 0, none⟩) ((i + 1) + (n - (i + 1))) cap86)
          have LR9b := LR9.far (p := ⟨w.heap.size, 1, none⟩) (by simp; omega) (.slice (some ⟨g86, 0, none⟩) ((i + 1) + (n - (i + 1))) cap86)
          have B9b := B9.setCell (p := ⟨w.heap.size, 1, none⟩) (by simp) (.slice (some ⟨g86, 0, none⟩) ((i + 1) + (n - (i + 1))) cap86)
          have hsz9 := LR9.lt
          exact bodyPost_ret (v := .tuple #[.agg #[.int .i64 (Z : Int), .slice (some ⟨g86, 0, none⟩) ((i + 1) + (n - (i + 1))) cap86], .int .i64 0, .int .i64 0]) (by simp [results, Try.results18, go_sem, hy09, hy19, hyf9, hr09, hr19, hf09, hf19, hsz9]) rfl ⟨⟨_, _, _, _, rfl, by rw [List.length_append, Hi.out]; simp; have := Hn.out; simp at this; have := Hi.out; omega, Owned.far (Owned.far OWN9 LR9b (by decide) (by decide) 0 _) (LR9b.set 0 _) (by decide) (by decide) 1 _⟩, by
            repeat (first | exact B9b | refine Below.setCell ?_ (by simp <;> omega) _)⟩
        · go_wp2_with (first
            | (at_builtin; go_loud (refine wpList_append_own _ rfl (.tmp 80) (.tmp 85) 34 rfl Wg.heap.size 42 i53 z53 5 56 Try.underlying34 hi53 hz53 hs53 hb53 hc53 (by decide) (.slice (some ⟨g54, 0, none⟩) (i + 1) cap54) (i + 1) (xs1 ++ [.int .i64 (aN : Int), .int .i64 k, .int .i64 (l : Int), .int .i64 p, .slice (some ⟨U0.heap.size, 0, none⟩) l l]) rfl O7.out ⟨gA, (i + 1) * 5, none⟩ (n - (i + 1)) _ xs2 rfl HX2.out (CC2.out) HONE2.out (by unfold maxLen; omega) (by omega) HB7.out.size ?_; intro v86 w9 O86 G86 N86; obtain ⟨g86, cap86, rfl⟩ := owned_form O86 (fun e => by have := (N86.1 e).1; cases this); have HB9 := Lib.hid (below_row HB7.out HB7.out.size G86 (owns_ge O7.out)); have MKs := Lib.hid (lies_grown MK9.out O7.out (by decide) G86); have HO9 := Lib.hid O86; have hy09 : w9.cell? ⟨w.heap.size, 0, none⟩ = some (.int .i64 (Z : Int)) := (HB9.out.cell (p := ⟨w.heap.size, 0, none⟩) hlhg).trans (HLh.out.cell 0); have hy19 : w9.cell? ⟨w.heap.size, 1, none⟩ = some (.slice (some ⟨gA, 0, none⟩) n c) := (HB9.out.cell (p := ⟨w.heap.size, 1, none⟩) hlhg).trans yg1; have hyf9 : w9.frozen? ⟨w.heap.size, 1, none⟩ = false := (HB9.out.frozen (p := ⟨w.heap.size, 1, none⟩) hlhg).trans (HLh.out.frozen 1); have hr09 : w9.cell? ⟨w.heap.size + 1 + 1, 0, none⟩ = some (.int .i64 0) := (HB9.out.cell (p := ⟨w.heap.size + 1 + 1, 0, none⟩) HLr.out.lt).trans (HLr.out.cell 0); have hr19 : w9.cell? ⟨w.heap.size + 1 + 1, 1, none⟩ = some (.slice none 0 0) := (HB9.out.cell (p := ⟨w.heap.size + 1 + 1, 1, none⟩) HLr.out.lt).trans (HLr.out.cell 1); have hf09 : w9.frozen? ⟨w.heap.size + 1 + 1, 0, none⟩ = false := (HB9.out.frozen (p := ⟨w.heap.size + 1 + 1, 0, none⟩) HLr.out.lt).trans (HLr.out.frozen 0); have hf19 : w9.frozen? ⟨w.heap.size + 1 + 1, 1, none⟩ = false := (HB9.out.frozen (p := ⟨w.heap.size + 1 + 1, 1, none⟩) HLr.out.lt).trans (HLr.out.frozen 1); clear O86 G86 N86)))
          have LH9 := HLh.out.below HB9.out HLh.out.lt
          have LR9 := HLr.out.below HB9.out HLr.out.lt
          have B9 := on HB3.out HB3.out.size HB9.out
          have OWN9 := Owned.far (csplit_even HC1.out HC2.out B9 HO9.out MKs.out (by omega) (by omega) HaN.out hg hlq hlq2 (by omega)) LH9 (by decide) (by decide) 1 (.slice (some ⟨g86, 0, none⟩) ((i + 1) + (n - (i + 1))) cap86)
          have LR9b := LR9.far (p := ⟨w.heap.size, 1, none⟩) (by simp; omega) (.slice (some ⟨g86, 0, none⟩) ((i + 1) + (n - (i + 1))) cap86)
          have B9b := B9.setCell (p := ⟨w.heap.size, 1, none⟩) (by simp) (.slice (some ⟨g86, 0, none⟩) ((i + 1) + (n - (i + 1))) cap86)
          have hsz9 := LR9.lt
          exact bodyPost_ret (v := .tuple #[.agg #[.int .i64 (Z : Int), .slice (some ⟨g86, 0, none⟩) ((i + 1) + (n - (i + 1))) cap86], .int .i64 0, .int .i64 0]) (by simp [results, Try.results18, go_sem, hy09, hy19, hyf9, hr09, hr19, hf09, hf19, hsz9]) rfl ⟨⟨_, _, _, _, rfl, by rw [List.length_append, Hi.out]; simp; have := Hn.out; simp at this; have := Hi.out; omega, Owned.far (Owned.far OWN9 LR9b (by decide) (by decide) 0 _) (LR9b.set 0 _) (by decide) (by decide) 1 _⟩, by
            repeat (first | exact B9b | refine Below.setCell ?_ (by simp <;> omega) _)⟩
      exact AllReadyH.nil
    exact AllReadyH.nil
  exact AllReadyH.nil
end Go.Proofs.Ytibfhpbklnpknaa
