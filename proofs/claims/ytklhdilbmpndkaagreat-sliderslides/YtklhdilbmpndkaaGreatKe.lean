/- At the end of the law's play. SliderSlides, walked. A slice of bytes that came in reads as a list, and is no longer than a slice may be. SliderSlides, whatever comes in. -/
import Derived.Test.YtklhdilbmpndkaaGreatKc
import Derived.Test.YtklhdilbmpndkaaGreatSdW
import Derived.Test.YtklhdilbmpndkaaGreatKd
import Derived.Deep.RegionHeld3
import Derived.Deep.DeepCutAuto
import Derived.Test.YtklhdilbmpndkaaGreatGj
import Derived.ProofKit
import Derived.Lib.SmallJoins
namespace Go.Proofs.YtklhdilbmpndkaaGreat
set_option maxRecDepth 20000
open Go.RowKit Go.Sort
set_option linter.unusedVariables false
set_option linter.unusedSimpArgs false


theorem mv_inr {f : Nat → Bool} {obs : List Ob} {z : Int} (hm : (flat obs).length ≤ 65536) : InR (mvW f (adr 0 obs) z) := by
  unfold mvW InR
  split
  · omega
  · have h : goS f (adr 0 obs) (z - 1).toNat ≤ sumL (adr 0 obs) := by unfold goS; exact sumL_filter _ _
    have h2 := sumL_adr 0 obs
    omega
theorem new_within {f : Nat → Bool} {obs : List Ob} (hm : (flat obs).length ≤ 65536) (hcl : Clean obs) : Within (newF f obs) := by
  intro o ho v hv
  obtain ⟨x, hx, rfl⟩ := List.mem_map.1 ho
  obtain ⟨pre, post, h1, _⟩ := mem_split (List.mem_of_mem_take (List.mem_filter.1 hx).1)
  obtain ⟨i, hi⟩ := List.mem_iff_getElem?.1 hv
  have hil := (List.getElem?_eq_some_iff.1 hi).1
  have hil2 : i < x.2.2.length := by
    have : (mvF f obs x).2.length = x.2.2.length := (mv_head f obs x).2
    omega
  have e : (mvF f obs x).2[i]? = some (dstW f (adr 0 obs) x (i + 1)) := tab_get _ hil2
  rw [e] at hi
  injection hi with hi
  rw [← hi]
  unfold dstW
  rw [if_neg (by omega), Nat.add_sub_cancel]
  split
  · exact mv_inr hm
  · have e2 : x.2.2.getD i 0 = x.2.2[i] := by rw [List.getD_eq_getElem?_getD, List.getElem?_eq_getElem hil2]; rfl
    rw [e2]
    exact (hcl x.2 (by rw [h1]; simp)).1 _ (List.getElem_mem hil2)
theorem new_le (f : Nat → Bool) (obs : List Ob) : (flat (newF f obs)).length ≤ (flat obs).length := by
  unfold newF
  rw [newP_len]
  have h := end_le f obs obs.length
  have h2 : atI obs obs.length = (flat obs).length := by unfold atI; rw [List.take_length]
  omega
/-- Behind the new top: noughts up to the old one, and then what was there. -/
theorem nought_tail {new obs : List Ob} {tail : List Int} (hle : (flat new).length ≤ (flat obs).length) (p : Nat) (h1 : (flat new).length ≤ p) (h2 : p < (flat obs ++ tail).length) :
    (p < (flat obs).length → (flat new ++ (List.replicate ((flat obs).length - (flat new).length) 0 ++ tail)).getD p 0 = 0) ∧ ((flat obs).length ≤ p → (flat new ++ (List.replicate ((flat obs).length - (flat new).length) 0 ++ tail)).getD p 0 = (flat obs ++ tail).getD p 0) := by
  constructor
  · intro h
    rw [List.getD_eq_getElem?_getD, List.getElem?_append_right h1, List.getElem?_append_left (by simp; omega), List.getElem?_replicate]
    rw [if_pos (by omega)]; rfl
  · intro h
    rw [List.getD_eq_getElem?_getD, List.getD_eq_getElem?_getD, List.getElem?_append_right h1, List.getElem?_append_right (by simp; omega), List.getElem?_append_right h, List.length_replicate]
    congr 2
    omega
theorem hold4 {wr W w' : World} {b c d : Nat} {x0 y0 z0 z1 : Value} (hk : Below W.heap.size W w') (h : Below wr.heap.size wr W ∧ W.cell? ⟨b, 0, none⟩ = some x0 ∧ W.cell? ⟨c, 0, none⟩ = some y0 ∧ W.cell? ⟨d, 0, none⟩ = some z0 ∧ W.cell? ⟨d, 1, none⟩ = some z1) :
    Below wr.heap.size wr w' ∧ w'.cell? ⟨b, 0, none⟩ = some x0 ∧ w'.cell? ⟨c, 0, none⟩ = some y0 ∧ w'.cell? ⟨d, 0, none⟩ = some z0 ∧ w'.cell? ⟨d, 1, none⟩ = some z1 :=
  ⟨on h.1 h.1.size hk, (hk.cell (block_lt_of_cell h.2.1)).trans h.2.1, (hk.cell (block_lt_of_cell h.2.2.1)).trans h.2.2.1, (hk.cell (block_lt_of_cell h.2.2.2.1)).trans h.2.2.2.1, (hk.cell (block_lt_of_cell h.2.2.2.2)).trans h.2.2.2.2⟩
section
variable {C : Cx} {W0 wL w : World} {bt T : Nat} {Q : Pm} {obs : List Ob} {tail : List Int} {f : Nat → Bool}
theorem Go3.heap (h : Go3 C (flat obs ++ tail).length (fun p => (flat obs ++ tail).getD p 0) W0 wL bt T w Q) (ho : C.obs = obs) (hF : C.f = f) (hf : Fine obs) (hl : Q.left = 0) :
    Calls Tryz.prog 12 #[.pointer (some ⟨C.S, 0, none⟩)] w fun e w' => ∃ g gw gb, e = .returned (.tuple #[.pointer (some ⟨g, 0, none⟩), .int .i64 0]) ∧ Below w.heap.size w w' ∧ St w' g gw gb (newF f obs) (List.replicate ((flat obs).length - (flat (newF f obs)).length) 0 ++ tail) := by
  obtain ⟨t, h1, _⟩ := h.run
  refine (sheap_yes ho hf h1 hl).mono ?_
  rintro e w' ⟨g, gw, gb, he, hb, hH⟩
  have hn := new_eq ho hF
  have hlen := new_len h1.cok
  have htop := h1.cok.top_
  rw [ho] at htop
  rw [hn] at hlen hH
  rw [← hlen, ← htop, List.append_assoc] at hH
  have e : (flat (newF f obs) ++ (List.replicate ((flat obs).length - (flat (newF f obs)).length) 0 ++ tail)).length - (flat (newF f obs)).length = (List.replicate ((flat obs).length - (flat (newF f obs)).length) 0 ++ tail).length := by rw [List.length_append]; omega
  rw [e] at hH
  exact ⟨g, gw, gb, he, hb, by rw [← hn]; exact fine_new (by rw [ho]; exact hf), hH⟩
theorem Go3.moved {size : Nat} {base : Nat → Int} (h : Go3 C size base W0 wL bt T w Q) : Calls Tryz.prog 14 #[.pointer (some ⟨C.S, 0, none⟩)] w fun e w' => e = .returned (.int .i64 (Q.moved : Nat)) ∧ w = w' := by
  obtain ⟨t, h1, _⟩ := h.run
  exact run_moved h1
theorem Go3.range {size : Nat} {base : Nat → Int} (h : Go3 C size base W0 wL bt T w Q) (i : Int) (hi : i < 0 ∨ (C.n : Int) ≤ i) : Calls Tryz.prog 11 #[.pointer (some ⟨C.S, 0, none⟩), .int .i64 i] w fun e w' => e = .returned (.int .i64 1) ∧ w = w' := by
  obtain ⟨t, h1, _⟩ := h.run
  exact run_range h1 i hi
theorem Go3.roots {size : Nat} {base : Nat → Int} (h : Go3 C size base W0 wL bt T w Q) (ho : C.obs = obs) (hF : C.f = f) (A : Option Addr) (n c : Nat) (l : List Int) (hl : Row w A l) (hn : l.length = n) (hn2 : n ≤ 65536) (hin : ∀ z ∈ l, InR z) (hok : l.all (okW f (adr 0 obs)) = true) :
    Calls Tryz.prog 16 #[.pointer (some ⟨C.S, 0, none⟩), .slice A n c] w fun e w' => ∃ q, e = .returned (.tuple #[.slice (some ⟨q, 0, none⟩) n n, .int .i64 0]) ∧ w.heap.size ≤ q ∧ Lies w' q 3 ((l.map (mvW f (adr 0 obs))).map (Value.int .i64)) ∧ Below w.heap.size w w' := by
  obtain ⟨t, h1, _⟩ := h.run
  have := run_roots h1 A n c l hl hn hn2 hin (by rw [hF, ho]; exact hok)
  rw [hF, ho] at this
  exact this
theorem Go3.all {size : Nat} {base : Nat → Int} (h : Go3 C size base W0 wL bt T w Q) {st : List Bool} (hst : Stb st C.f C.obs) (hl : Q.left = 0) : Q.moved = st.count true := by
  obtain ⟨t, h1, _⟩ := h.run
  exact run_all h1 hst hl
end
end Go.Proofs.YtklhdilbmpndkaaGreat

namespace Go.Proofs.YtklhdilbmpndkaaGreat
set_option maxRecDepth 20000
open Go.RowKit Go.Sort
set_option linter.unusedVariables false
set_option linter.unusedSimpArgs false

theorem below_first2 {w w0 w' : World} (h : Below w.heap.size w w') (k : Below w0.heap.size w0 w') (hs : w.heap.size ≤ w0.heap.size) : Below w.heap.size w w0 :=
  ⟨by rw [← k.os, h.os], by rw [← k.tape, h.tape], by rw [← k.output, h.output], hs, fun i hi => by rw [← k.block i (Nat.lt_of_lt_of_le hi hs), h.block i hi]⟩
set_option maxRecDepth 1000000 in
set_option maxHeartbeats 4000000 in
theorem slides_far (A0 B0 C0 : Option Addr) (n cN m cR np cZ : Nat) (x0 x1 : Int) (ds : List Nd) (w : World) (hd : CameN w A0 n ds) (hm : m ≤ maxLen) (hq : np ≤ maxLen) (h : fewB ds m = false ∨ 400 < np) :
    Calls Tryz.prog 3 #[.agg #[.slice A0 n cN, .slice B0 m cR], .agg #[.int .u8 x0, .int .u8 x1], .slice C0 np cZ] w fun e w' => e = .returned (.bool true) ∧ Below w.heap.size w w' := by
  have HD := Lib.hid hd
  have b0 : Below w.heap.size w ((w.alloc (.cells #[.slice A0 n cN, .slice B0 m cR] 25)).alloc (.cells #[.int .u8 x0, .int .u8 x1] 26)) := ((Below.refl _ w).alloc (Nat.le_refl _) _).alloc (by simp) _
  have LX : Lies ((w.alloc (.cells #[.slice A0 n cN, .slice B0 m cR] 25)).alloc (.cells #[.int .u8 x0, .int .u8 x1] 26)) w.heap.size 25 [.slice A0 n cN, .slice B0 m cR] := (Lies.new w 25 [_, _]).alloc _
  have LY : Lies ((w.alloc (.cells #[.slice A0 n cN, .slice B0 m cR] 25)).alloc (.cells #[.int .u8 x0, .int .u8 x1] 26)) (w.heap.size + 1) 26 [.int .u8 x0, .int .u8 x1] := by
    have := Lies.new (w.alloc (.cells #[.slice A0 n cN, .slice B0 m cR] 25)) 26 [.int .u8 x0, .int .u8 x1]
    rw [World.size_alloc] at this; exact this
  obtain ⟨w1, hw1⟩ : ∃ w1, (w.alloc (.cells #[.slice A0 n cN, .slice B0 m cR] 25)).alloc (.cells #[.int .u8 x0, .int .u8 x1] 26) = w1 := ⟨_, rfl⟩
  rw [hw1] at b0 LX LY
  have HW1 := Lib.hid hw1
  have HB1 := Lib.hid b0
  have HLX := Lib.hid LX
  have HLY := Lib.hid LY
  clear b0 LX LY hw1
  clear hd
  unfold maxLen at hm hq
  go_enter Tryz.func3, Tryz.ntmps3
  go_upto_region 1 with fail
  rw [HW1.out]
  go_wp2_with fail
  refine (awake_any _).mono ?_
  rintro e w2 ⟨rfl, hb2⟩
  have L2 := HLX.out.kept hb2
  have y0 : w2.cell? ⟨w.heap.size, 0, none⟩ = some (.slice A0 n cN) := L2.cell 0
  have y1 : w2.cell? ⟨w.heap.size, 1, none⟩ = some (.slice B0 m cR) := L2.cell 1
  have HL2 := Lib.hid L2
  have HB2 := Lib.hid (on HB1.out HB1.out.size hb2)
  have HY2 := Lib.hid (HLY.out.kept hb2)
  clear hb2 L2
  go_wp2_with fail
  refine (few_any A0 B0 n cN m cR ds ⟨HD.out.1, HD.out.2.1.kept HB2.out, HD.out.2.2⟩ (by unfold maxLen; omega)).mono ?_
  rintro e w3 ⟨rfl, hb3⟩
  have HB3 := Lib.hid (on HB2.out HB2.out.size hb3)
  clear hb3 y0 y1
  cases hf : fewB ds m with
  | false =>
    clear hf h
    go_wp2_with fail
    refine (awake_any _).mono ?_
    rintro e w4 ⟨rfl, hb4⟩
    have HB4 := Lib.hid (on HB3.out HB3.out.size hb4)
    clear hb4
    go_wp2
    go_ret
    exact ⟨rfl, HB4.out⟩
  | true =>
    have hq40 : 400 < np := by rcases h with h | h; · rw [hf] at h; cases h
                               · exact h
    have d1 : decide ((400 : Int) < (np : Int)) = true := by simp; omega
    clear hf h
    go_wp2_with fail
    refine (awake_any _).mono ?_
    rintro e w4 ⟨rfl, hb4⟩
    have HB4 := Lib.hid (on HB3.out HB3.out.size hb4)
    clear hb4
    go_wp2
    go_ret
    exact ⟨rfl, HB4.out⟩

set_option maxRecDepth 1000000 in
set_option maxHeartbeats 4000000 in
theorem slides_near (A0 B0 C0 : Option Addr) (n cN m cR np cZ : Nat) (x0 x1 : Int) (ds : List Nd) (rs ps : List Int) (w : World) (hd : CameN w A0 n ds) (hr : Mk.Came .u8 w B0 m rs) (hp : Mk.Came .u8 w C0 np ps) (hf : fewB ds m = true) (hnp : np ≤ 400) (hx0 : 0 ≤ x0 ∧ x0 ≤ 255) (hx1 : 0 ≤ x1 ∧ x1 ≤ 255) :
    Calls Tryz.prog 3 #[.agg #[.slice A0 n cN, .slice B0 m cR], .agg #[.int .u8 x0, .int .u8 x1], .slice C0 np cZ] w fun e w' => e = .returned (.bool true) ∧ Below w.heap.size w w' := by
  have HD := Lib.hid hd
  have HR := Lib.hid hr
  have HPS := Lib.hid hp
  have HF := Lib.hid hf
  have hfew := hf
  unfold fewB at hfew
  simp only [Bool.and_eq_true, List.all_eq_true, decide_eq_true_eq] at hfew
  obtain ⟨he, hn14, hm14⟩ := hfew
  rw [hd.1] at hn14
  have HE := Lib.hid he
  have HX0 := Lib.hid hx0
  have HX1 := Lib.hid hx1
  have HZs := Lib.hid (size_small he n 3 (by rw [hd.1]; exact hn14))
  have b0 : Below w.heap.size w ((w.alloc (.cells #[.slice A0 n cN, .slice B0 m cR] 25)).alloc (.cells #[.int .u8 x0, .int .u8 x1] 26)) := ((Below.refl _ w).alloc (Nat.le_refl _) _).alloc (by simp) _
  have LX : Lies ((w.alloc (.cells #[.slice A0 n cN, .slice B0 m cR] 25)).alloc (.cells #[.int .u8 x0, .int .u8 x1] 26)) w.heap.size 25 [.slice A0 n cN, .slice B0 m cR] := (Lies.new w 25 [_, _]).alloc _
  have LY : Lies ((w.alloc (.cells #[.slice A0 n cN, .slice B0 m cR] 25)).alloc (.cells #[.int .u8 x0, .int .u8 x1] 26)) (w.heap.size + 1) 26 [.int .u8 x0, .int .u8 x1] := by
    have := Lies.new (w.alloc (.cells #[.slice A0 n cN, .slice B0 m cR] 25)) 26 [.int .u8 x0, .int .u8 x1]
    rw [World.size_alloc] at this; exact this
  obtain ⟨w1, hw1⟩ : ∃ w1, (w.alloc (.cells #[.slice A0 n cN, .slice B0 m cR] 25)).alloc (.cells #[.int .u8 x0, .int .u8 x1] 26) = w1 := ⟨_, rfl⟩
  rw [hw1] at b0 LX LY
  have HW1 := Lib.hid hw1
  have HB1 := Lib.hid b0
  have HLX := Lib.hid LX
  have HLY := Lib.hid LY
  clear b0 LX LY hw1
  clear hd hr hf he hx0 hx1 hp
  go_enter Tryz.func3, Tryz.ntmps3
  go_upto_region 1 with fail
  rw [HW1.out]
  go_wp2_with fail
  refine (awake_any _).mono ?_
  rintro e w2 ⟨rfl, hb2⟩
  have L2 := HLX.out.kept hb2
  have y0 : w2.cell? ⟨w.heap.size, 0, none⟩ = some (.slice A0 n cN) := L2.cell 0
  have y1 : w2.cell? ⟨w.heap.size, 1, none⟩ = some (.slice B0 m cR) := L2.cell 1
  have HL2 := Lib.hid L2
  have HB2 := Lib.hid (on HB1.out HB1.out.size hb2)
  have HY2 := Lib.hid (HLY.out.kept hb2)
  clear hb2 L2
  go_wp2_with fail
  refine (few_any A0 B0 n cN m cR ds ⟨HD.out.1, HD.out.2.1.kept HB2.out, HD.out.2.2⟩ (by unfold maxLen; omega)).mono ?_
  rintro e w3 ⟨rfl, hb3⟩
  rw [HF.out]
  have L3 := HL2.out.kept hb3
  have y2 : w3.cell? ⟨w.heap.size, 0, none⟩ = some (.slice A0 n cN) := L3.cell 0
  have y3 : w3.cell? ⟨w.heap.size, 1, none⟩ = some (.slice B0 m cR) := L3.cell 1
  have HB3 := Lib.hid (on HB2.out HB2.out.size hb3)
  have HY3 := Lib.hid (HY2.out.kept hb3)
  have d40 : decide ((400 : Int) < (np : Int)) = false := by simp; omega
  clear hb3 y0 y1 L3
  go_wp2_with fail
  refine (reached_any A0 B0 n cN m cR ds rs ⟨HD.out.1, HD.out.2.1.kept HB3.out, HD.out.2.2⟩ ⟨HR.out.1, HR.out.2.1.kept HB3.out, HR.out.2.2⟩ hn14 hm14 HE.out).mono ?_
  rintro e w4 ⟨g, gw, gb, base, obs, tail, A, n', c, xs, B, cap, rts, mg, mw, ws, q, st, rfl, R4⟩
  obtain ⟨Z, hZ⟩ : ∃ Z, sizeG ds 3 n = Z := ⟨_, rfl⟩
  have hZs := HZs.out
  rw [hZ] at R4 hZs ⊢
  have HZ1 : 1 ≤ Z := by rw [← hZ]; unfold sizeG; omega
  clear hZ y2 y3 d40
  have bX := below_one w4 (.cells #[.int .i64 (Z : Int), .slice A n' c] 34)
  have HR5 := Lib.hid (R4.kept bX)
  have HB5 := Lib.hid (on (on HB3.out HB3.out.size R4.bt.old) (on HB3.out HB3.out.size R4.bt.old).size bX)
  have HY5 := Lib.hid ((HY3.out.kept R4.bt.old).kept bX)
  have HLRB := Lib.hid (show Lies (w4.alloc (.cells #[.int .i64 (Z : Int), .slice A n' c] 34)) w4.heap.size 34 [.int .i64 (Z : Int), .slice A n' c] from Lies.new w4 34 [_, _])
  obtain ⟨w5, hw5⟩ : ∃ w5, w4.alloc (.cells #[.int .i64 (Z : Int), .slice A n' c] 34) = w5 := ⟨_, rfl⟩
  rw [hw5] at HR5 HB5 HY5 HLRB
  have HW5 := Lib.hid hw5
  have HZS := Lib.hid hZs
  have cx0 : w5.cell? ⟨w.heap.size + 1, 0, none⟩ = some (.int .u8 x0) := HY5.out.cell 0
  have cx1 : w5.cell? ⟨w.heap.size + 1, 1, none⟩ = some (.int .u8 x1) := HY5.out.cell 1
  have hx0 := HX0.out.1
  have hx01 := HX0.out.2
  have hx1 := HX1.out.1
  have hx11 := HX1.out.2
  have hm0 : 0 ≤ x0 % 7 := by omega
  have hm1 : x0 % 7 < 7 := by omega
  have hm2 : 0 ≤ x1 % 20 := by omega
  have hm3 : x1 % 20 < 20 := by omega
  clear R4 bX hw5
  go_upto_region 4 with fail
  rw [HW5.out]
  obtain ⟨rb, hrb⟩ : ∃ rb, w4.heap.size = rb := ⟨_, rfl⟩
  rw [hrb] at HLRB
  have HRB := Lib.hid hrb
  rw [HRB.out]
  clear hrb
  go_upto_region 5 with fail
  obtain ⟨z7, hz7⟩ : ∃ z7 : Nat, x0 % 7 = (z7 : Int) := ⟨(x0 % 7).toNat, by omega⟩
  have hz7b : z7 < 7 := by omega
  rw [hz7]
  have enw : (1 : Int) + (z7 : Int) = ((1 + z7 : Nat) : Int) := by omega
  rw [enw]
  obtain ⟨nw, hnw⟩ : ∃ nw, 1 + z7 = nw := ⟨_, rfl⟩
  rw [hnw]
  have hnw1 : 1 ≤ nw := by omega
  have hnw2 : nw ≤ 7 := by omega
  clear hz7 enw hnw hz7b hm0 hm1 hx0 hx01 cx0
  have HIN : Hid (∀ o ∈ obs, ∀ z ∈ o.2, InR z) := Lib.hid fun o ho => (HR5.out.bt.clean o ho).1
  obtain ⟨f, hf⟩ : ∃ f, Mk.bit ws = f := ⟨_, rfl⟩
  have HFM := Lib.hid hf
  obtain ⟨W, hW⟩ : ∃ W, wOf (x1 % 20) = W := ⟨_, rfl⟩
  obtain ⟨top, htop⟩ : ∃ top, (flat obs).length = top := ⟨_, rfl⟩
  obtain ⟨K, hK⟩ : ∃ K, K = (top + W - 1) / W := ⟨_, rfl⟩
  have hlenZ := HR5.out.bt.len
  have HN := Lib.hid (snew_any HR5.out.bt.st HR5.out.map (x1 % 20) nw W K top hW htop hK (by unfold InR; omega) hnw1 (by omega) HIN.out (by omega))
  have HTOP := Lib.hid htop
  clear hW hK htop hlenZ hf
  go_wp2_with fail
  refine HN.out.mono ?_
  rintro e w11 ⟨-, hyes, hb11⟩
  obtain ⟨W0, CX, rfl, hSl, hCn, hCW, hCK, hCtop, hCf, hCo, hs⟩ := hyes HR5.out.right
  have HB11 := Lib.hid hb11
  have HB0 := Lib.hid (below_first2 hb11 hSl.old hs)
  have hL : CX.L = adr 0 obs := by unfold Cx.L; rw [hCo]
  have HSL : Hid (Sl W0 w11 CX (Ms.new (flat obs ++ tail) (sgL CX.f CX.W CX.K CX.L CX.L) CX.top)) := Lib.hid (by rw [hCf, hCW, hCK, hL, hCtop]; exact hSl)
  have HC := Lib.hid (And.intro hCn (And.intro (hCf.trans HFM.out) hCo))
  have HS0 := Lib.hid hs
  clear hyes hb11 hSl hCn hCW hCK hCtop hCf hCo hs hL HN cx1 hm2 hm3 hx1 hx11
  have b12 := below_one w11 (.cells #[.pointer (some ⟨CX.S, 0, none⟩)] 38)
  have HB12 := Lib.hid b12
  have hls12 : Lies (w11.alloc (.cells #[.pointer (some ⟨CX.S, 0, none⟩)] 38)) w11.heap.size 38 [.pointer (some ⟨CX.S, 0, none⟩)] := Lies.new w11 38 [_]
  obtain ⟨w12, hw12⟩ : ∃ w12, w11.alloc (.cells #[.pointer (some ⟨CX.S, 0, none⟩)] 38) = w12 := ⟨_, rfl⟩
  rw [hw12] at HB12 hls12
  have HW12 := Lib.hid hw12
  have HLS12 := Lib.hid hls12
  clear hw12 b12
  go_upto_region 6 with fail
  rw [HW12.out]
  obtain ⟨bs, hbs⟩ : ∃ bs, w11.heap.size = bs := ⟨_, rfl⟩
  rw [hbs] at hls12 HLS12
  have HBS := Lib.hid hbs
  rw [HBS.out]
  have s12 : w12.cell? ⟨bs, 0, none⟩ = some (.pointer (some ⟨CX.S, 0, none⟩)) := hls12.cell 0
  clear hbs hls12
  have HB5c := Lib.hid (on HB11.out HB11.out.size HB12.out)
  have HWD := Lib.hid (words_z (HR5.out.bt.st.kept HB5c.out) Z HR5.out.bt.len)
  obtain ⟨l0, hl0⟩ : ∃ l0, w12.heap.size = l0 := ⟨_, rfl⟩
  rw [hl0] at HWD
  have HL0 := Lib.hid hl0
  clear hl0
  go_upto_region 8 with fail
  go_wp2_with fail
  refine HWD.out.mono ?_
  rintro e w13 ⟨rfl, hL13, hb13⟩
  have HL13 := Lib.hid hL13
  have HB13 := Lib.hid (show Below w12.heap.size w12 w13 by rw [HL0.out]; exact hb13)
  clear hL13 hb13 s12
  have hbm14 : Lies (w13.alloc (.cells #[.int .i64 0] 3)) w13.heap.size 3 [.int .i64 0] := Lies.new w13 3 [_]
  have b14 := below_one w13 (.cells #[.int .i64 0] 3)
  obtain ⟨w14, hw14⟩ : ∃ w14, w13.alloc (.cells #[.int .i64 0] 3) = w14 := ⟨_, rfl⟩
  rw [hw14] at hbm14 b14
  have HW14 := Lib.hid hw14
  have HBM14 := Lib.hid hbm14
  have HB14 := Lib.hid b14
  clear hw14 hbm14 b14
  go_upto_region 10 with fail
  rw [HW14.out]
  obtain ⟨bm, hbm⟩ : ∃ bm, w13.heap.size = bm := ⟨_, rfl⟩
  have HBM := Lib.hid hbm
  rw [hbm] at HBM14
  rw [HBM.out]
  clear hbm
  have HORD : Hid (bs < l0 ∧ l0 < bm) := Lib.hid (by
    have h1 := HLS12.out.lt
    have h2 := HL13.out.lt
    have h3 := HL0.out
    have h4 := HBM.out
    omega)
  have hn3 : n' ≤ 65536 := by have := HR5.out.bt.count; have := count_le obs; have hl := HR5.out.bt.len; rw [List.length_append] at hl; omega
  have HSTL : Hid (st.length = n') := Lib.hid (by rw [HR5.out.rc.len, HR5.out.bt.count])
  go_wp2_with fail
  go_loopw [82] (fun i wr => ∃ k : Nat, k ≤ n' ∧ i = .int .i64 (k : Nat) ∧ Below w11.heap.size w11 wr ∧ Lies wr bs 38 [.pointer (some ⟨CX.S, 0, none⟩)] ∧ Lies wr l0 3 ((flat obs ++ tail).map (Value.int .i64)) ∧ Lies wr bm 3 [.int .i64 ((st.take k).count true : Nat)]) (fun i _ => n' - (intOf i).toNat)
  case atStart => exact ⟨0, Nat.zero_le _, rfl, on (on HB12.out HB12.out.size HB13.out) (on HB12.out HB12.out.size HB13.out).size HB14.out, (HLS12.out.kept HB13.out).kept HB14.out, HL13.out.kept HB14.out, HBM14.out⟩
  case round =>
    obtain ⟨k, hk, rfl, hb, hLs, hLl, hLm⟩ := hrel
    obtain ⟨wM, rfl⟩ : ∃ wM, wM = wr := ⟨_, rfl⟩
    have HB := Lib.hid hb
    have HLs := Lib.hid hLs
    have HLl := Lib.hid hLl
    have HLm := Lib.hid hLm
    have HBo := Lib.hid (on HB11.out HB11.out.size hb)
    obtain ⟨cnt, hcnt⟩ : ∃ cnt, (st.take k).count true = cnt := ⟨_, rfl⟩
    rw [hcnt] at hLm
    have HCNT := Lib.hid hcnt
    have hcb : cnt ≤ 65536 := by
      rw [← hcnt]
      have h1 : (st.take k).count true ≤ (st.take k).length := List.count_le_length
      rw [List.length_take] at h1
      have h2 := HSTL.out
      omega
    by_cases hkn : k < n'
    · obtain ⟨b1, hb1⟩ : ∃ b1, st[k]? = some b1 := ⟨_, List.getElem?_eq_getElem (by rw [HSTL.out]; exact hkn)⟩
      have cq : wM.cell? ⟨q, k, none⟩ = some (.bool b1) := by rw [(HR5.out.row.kept HBo.out).cell, List.getElem?_map, hb1]; rfl
      have ea : (⟨q, 0, none⟩ : Addr).add k = ⟨q, k, none⟩ := add_at _ _
      have m0 : wM.cell? ⟨bm, 0, none⟩ = some (.int .i64 (cnt : Nat)) := hLm.cell 0
      have m1 := hLm.frozen 0
      have m2 := hLm.lt
      have i0 : (0 : Int) ≤ (k : Int) := by omega
      have i1 : (k : Int) < (n' : Int) := by omega
      have ec : IntKind.i64.wrap ((cnt : Int) + 1) = ((cnt + 1 : Nat) : Int) := by rw [IntWalk.i64_in _ (by omega)]; omega
      have HTK : Hid ((st.take (k + 1)).count true = cnt + if b1 = true then 1 else 0) := Lib.hid (by
        rw [List.take_add_one, hb1, List.count_append, hcnt]
        cases b1 <;> simp)
      clear hb hLs hLl hLm hcnt hb1
      cases b1 with
      | false =>
        go_wp2_with fail
        exact ⟨⟨k + 1, by omega, by go_num, HB.out, HLs.out, HLl.out, by rw [HTK.out]; have := HLm.out; rw [HCNT.out] at this; exact this⟩, by simp [intOf]; omega⟩
      | true =>
        obtain ⟨c9, hc9⟩ : ∃ c9, cnt + 1 = c9 := ⟨_, rfl⟩
        rw [hc9] at ec
        have HC9 := Lib.hid hc9
        clear hc9
        go_wp2_with fail
        refine ⟨⟨k + 1, by omega, by go_num, HB.out.setCell (p := ⟨bm, 0, none⟩) ?_ _, HLs.out.far (p := ⟨bm, 0, none⟩) ?_ _, HLl.out.far (p := ⟨bm, 0, none⟩) ?_ _, ?_⟩, by simp [intOf]; omega⟩
        · show w11.heap.size ≤ bm; rw [HBS.out]; have := HORD.out; omega
        · show bs ≠ bm; have := HORD.out; omega
        · show l0 ≠ bm; have := HORD.out; omega
        · rw [HTK.out, if_pos rfl, HC9.out]; exact HLm.out.set 0 _
    · obtain rfl : n' = k := by omega
      have htk : st.take n' = st := List.take_of_length_le (by rw [HSTL.out]; exact Nat.le_refl _)
      obtain ⟨many, hmany⟩ : ∃ many, st.count true = many := ⟨_, rfl⟩
      have HMY := Lib.hid hmany
      have hmb : many ≤ 65536 := by rw [htk, hmany] at hcnt; omega
      have HLm2 : Hid (Lies wM bm 3 [.int .i64 (many : Nat)]) := Lib.hid (by have h := HLm.out; rw [htk, hmany] at h; exact h)
      clear hb hLs hLl hLm hcnt hcb HCNT htk hmany HLm
      have bY := below_one wM (.cells #[.int .i64 0] 3)
      have hlt0 : Lies (wM.alloc (.cells #[.int .i64 0] 3)) wM.heap.size 3 [.int .i64 0] := Lies.new wM 3 [_]
      obtain ⟨wL, hwL⟩ : ∃ wL, wM.alloc (.cells #[.int .i64 0] 3) = wL := ⟨_, rfl⟩
      rw [hwL] at bY hlt0
      have HWL := Lib.hid hwL
      have HBY := Lib.hid bY
      have HLT0 := Lib.hid hlt0
      clear bY hlt0 hwL
      go_upto_region 17 with fail
      rw [HWL.out]
      obtain ⟨bt, hbt⟩ : ∃ bt, wM.heap.size = bt := ⟨_, rfl⟩
      have HBTE := Lib.hid hbt
      rw [hbt] at HLT0
      rw [HBTE.out]
      clear hbt
      have HSL2 := Lib.hid (HSL.out.lift (on HB.out HB.out.size HBY.out) (fun i => ⟨rfl, rfl, rfl, rfl, rfl, rfl⟩))
      have hrun := run_begin HR5.out.bt.st (show ({ CX with B1 := w11.heap.size, B2 := wL.heap.size } : Cx).obs = obs from HC.out.2.2) HSL2.out (by have h := HR5.out.right; rw [HFM.out] at h; show rightB CX.f CX.L = true; rw [HC.out.2.1]; unfold Cx.L; rw [HC.out.2.2]; exact h) HIN.out (by have := HR5.out.bt.len; have := HZS.out; omega)
      obtain ⟨C, hC⟩ : ∃ C, ({ CX with B1 := w11.heap.size, B2 := wL.heap.size } : Cx) = C := ⟨_, rfl⟩
      rw [hC] at hrun
      have HCE : Hid (C.n = nw ∧ C.f = f ∧ C.obs = obs ∧ C.S = CX.S ∧ C.B1 = bs ∧ C.B2 = wL.heap.size) := Lib.hid (by rw [← hC]; exact ⟨HC.out.1, HC.out.2.1, HC.out.2.2, rfl, HBS.out, rfl⟩)
      obtain ⟨P, hP⟩ : ∃ P, 10 * (Z + 10) * (Z + 10) = P := ⟨_, rfl⟩
      have HP := Lib.hid hP
      have hZs2 := HZS.out
      have hphi0 : Phi C (Pm.init C (fun p => (flat obs ++ tail).getD p 0) C.aw0) ≤ P := by
        have h := phi_init hrun.cok (by rw [HCE.out.1]; omega) C.aw0 (aw0_le hrun.cok)
        rw [HR5.out.bt.len, hP] at h; exact h
      obtain ⟨Q0, hQ0⟩ : ∃ Q0, Pm.init C (fun p => (flat obs ++ tail).getD p 0) C.aw0 = Q0 := ⟨_, rfl⟩
      rw [hQ0] at hphi0 hrun
      have e1 : IntKind.i64.wrap ((Z : Int) + 10) = (Z : Int) + 10 := IntWalk.i64_in _ (by omega)
      have e2 : IntKind.i64.wrap (10 * ((Z : Int) + 10)) = 10 * ((Z : Int) + 10) := IntWalk.i64_in _ (by omega)
      have hPI : 10 * ((Z : Int) + 10) * ((Z : Int) + 10) = (P : Int) := by rw [← hP]; simp
      have hPb : P ≤ 600000 := by
        have h1 : (Z + 10) * (Z + 10) ≤ 241 * 241 := Nat.mul_le_mul (by omega) (by omega)
        rw [← hP, Nat.mul_assoc]; omega
      have e3 : IntKind.i64.wrap (10 * ((Z : Int) + 10) * ((Z : Int) + 10)) = (P : Int) := by rw [hPI]; exact IntWalk.i64_in _ (by omega)
      have HPHI0 := Lib.hid hphi0
      have HG0 : Hid (Go3 C (flat obs ++ tail).length (fun p => (flat obs ++ tail).getD p 0) W0.toWorld wL bt 0 wL Q0) := Lib.hid ⟨⟨0, hrun, Int.le_refl _, Int.le_refl _, HLT0.out⟩, fun _ _ _ _ => rfl⟩
      have HBW : Hid (Below wM.heap.size wM wL ∧ wL.heap.size = bt + 1) := Lib.hid ⟨HBY.out, by rw [← HWL.out, World.size_alloc, HBTE.out]⟩
      have HLsL : Hid (Lies wL bs 38 [.pointer (some ⟨C.S, 0, none⟩)]) := Lib.hid (by rw [HCE.out.2.2.2.1]; exact HLs.out.kept HBY.out)
      have HLlL := Lib.hid (HLl.out.kept HBY.out)
      have HLmL := Lib.hid (HLm2.out.kept HBY.out)
      have HSTB : Hid (Stb st C.f C.obs) := Lib.hid (by rw [HCE.out.2.1, HCE.out.2.2.1, ← HFM.out]; exact HR5.out.stb)
      have HIB : Hid ((C.B1 ≤ bs ∧ bs < C.B2) ∧ (C.B1 ≤ l0 ∧ l0 < C.B2) ∧ (C.B1 ≤ bm ∧ bm < C.B2) ∧ (C.B1 ≤ bt ∧ bt < C.B2) ∧ bm ≠ bt ∧ bs ≠ bt ∧ l0 ≠ bt) := Lib.hid (by
        have h1 := HORD.out
        have h2 := HLm2.out.lt
        have h3 := HBTE.out
        have h4 := HBW.out.2
        obtain ⟨-, -, -, -, h5, h6⟩ := HCE.out
        rw [h5, h6, h4]
        omega)
      have HG5 : Hid (∀ T wr Q, Go3 C (flat obs ++ tail).length (fun p => (flat obs ++ tail).getD p 0) W0.toWorld wL bt T wr Q → Below w5.heap.size w5 wr) := Lib.hid (fun T wr Q h => HB0.out.trans (h.old.mono HS0.out))
      have HSTEP : Hid (∀ T wr Q j, Go3 C (flat obs ++ tail).length (fun p => (flat obs ++ tail).getD p 0) W0.toWorld wL bt T wr Q → j < nw → T ≤ 100000000 → Calls Tryz.prog 9 (#[.int .i64 (j : Nat)] ++ #[.pointer (some ⟨bs, 0, none⟩), .pointer (some ⟨bt, 0, none⟩), .pointer (some ⟨bm, 0, none⟩)]) wr fun e w' => e = .returned (.bool true) ∧ Go3 C (flat obs ++ tail).length (fun p => (flat obs ++ tail).getD p 0) W0.toWorld wL bt (T + 1) w' (stepO C Q j)) := Lib.hid (fun T wr Q j h hj hT => h.step (by rw [HCE.out.1]; exact hj) HSTB.out HMY.out hmb hT HLsL.out HLmL.out HIB.out.1 HIB.out.2.2.2.1 HIB.out.2.2.1 HIB.out.2.2.2.2.1 HIB.out.2.2.2.2.2.1)
      clear hC hP hPI hphi0 hQ0 hrun hZs2
      go_upto_region 18 with fail
      go_wp2_with fail
      go_loopw [93] (fun i wr => ∃ (k : Nat) (Q : Pm), k ≤ np ∧ i = .int .i64 (k : Nat) ∧ Go3 C (flat obs ++ tail).length (fun p => (flat obs ++ tail).getD p 0) W0.toWorld wL bt k wr Q ∧ Phi C Q ≤ P) (fun i _ => np - (intOf i).toNat)
      case atStart => exact ⟨0, Q0, Nat.zero_le _, rfl, HG0.out, HPHI0.out⟩
      case round =>
        obtain ⟨k1, Q, hk1, rfl, hG, hphi⟩ := hrel
        have HG := Lib.hid hG
        have HPH := Lib.hid hphi
        have HB5r := Lib.hid (HG5.out _ _ _ hG)
        clear hG hphi
        by_cases hkp : k1 < np
        · obtain ⟨adz, rfl, cz⟩ := (HPS.out.2.1.kept (on HB5.out HB5.out.size HB5r.out)).at_ (show k1 < ps.length by rw [HPS.out.1]; exact hkp)
          obtain ⟨z, hz⟩ : ∃ z, ps[k1]'(by rw [HPS.out.1]; exact hkp) = z := ⟨_, rfl⟩
          rw [hz] at cz
          have hz0 := (u8_all (HPS.out.2.2 _ (List.getElem_mem (by rw [HPS.out.1]; exact hkp : k1 < ps.length))))
          rw [hz] at hz0
          obtain ⟨pz, hpz⟩ : ∃ pz : Nat, z = (pz : Int) := ⟨z.toNat, by omega⟩
          subst hpz
          obtain ⟨who, hwho⟩ : ∃ who, pz % nw = who := ⟨_, rfl⟩
          have hwn : who < nw := by rw [← hwho]; exact Nat.mod_lt _ (by omega)
          have hpz9 : pz ≤ 255 := by omega
          have b2 : Int.tmod (pz : Int) (nw : Int) = (who : Int) := by rw [← hwho]; rfl
          have b4 : ((pz : Int) % (nw : Int)) = (who : Int) := by rw [← hwho]; rfl
          have b3 : ((nw : Int) == 0) = false := by simp; omega
          have k0 : (0 : Int) ≤ (k1 : Int) := by omega
          have k2 : (k1 : Int) < (np : Int) := by omega
          have HST := Lib.hid (HSTEP.out _ _ _ who HG.out hwn (by omega))
          clear hz hz0 hwho
          go_wp2_with fail
          refine HST.out.mono ?_
          rintro e w19 ⟨rfl, hG2⟩
          have HG2 := Lib.hid hG2
          have hphi2 := Nat.le_trans (phi_le HG.out.inv (show who < C.n by rw [HCE.out.1]; exact hwn)) HPH.out
          clear hG2 HST cz
          go_wp2_with fail
          exact ⟨⟨k1 + 1, stepO C Q who, by omega, by go_num, HG2.out, hphi2⟩, by simp [intOf]; omega⟩
        · obtain rfl : k1 = np := by omega
          go_wp2_with fail
          go_loopw [23] (fun i wr => ∃ (k : Nat) (Q : Pm), k ≤ P ∧ i = .int .i64 (k : Nat) ∧ Go3 C (flat obs ++ tail).length (fun p => (flat obs ++ tail).getD p 0) W0.toWorld wL bt (400 + 7 * k) wr Q ∧ (Q.left = 0 ∨ Phi C Q + k ≤ P)) (fun i _ => P - (intOf i).toNat)
          case atStart => exact ⟨0, Q, Nat.zero_le _, rfl, HG.out.mono (by omega), .inr (by have := HPH.out; omega)⟩
          case round =>
            clear HG HPH HB5r
            obtain ⟨k, Q, hk, rfl, hG, hphi⟩ := hrel
            have HG := Lib.hid hG
            have HPH := Lib.hid hphi
            have HB5r := Lib.hid (HG5.out _ _ _ hG)
            have HSZ := Lib.hid (size_z (HR5.out.kept HB5r.out).bt.st Z HR5.out.bt.len)
            have HO : Hid (Calls Tryz.prog 10 #[.pointer (some ⟨C.S, 0, none⟩)] wr fun e w' => e = .returned (.bool (decide (Q.left = 0))) ∧ wr = w') := Lib.hid (by obtain ⟨t, h1, _⟩ := hG.run; exact run_over h1)
            have s0 : wr.cell? ⟨bs, 0, none⟩ = some (.pointer (some ⟨C.S, 0, none⟩)) := (hG.lies HLsL.out HIB.out.1.1 HIB.out.1.2 HIB.out.2.2.2.2.2.1).cell 0
            by_cases hl : Q.left = 0
            · have dO : decide (Q.left = 0) = true := by simp [hl]
              rw [dO] at HO
              have HLE := Lib.hid hl
              clear hl dO hG hphi
              rcases Nat.lt_or_ge k P with hkP | hkP
              · have dk : decide ((k : Int) < (P : Int)) = true := by simp; omega
                go_wp2_with fail
                refine HSZ.out.mono ?_
                rintro e wx ⟨rfl, hwx⟩
                rw [hwx]; clear hwx wx
                go_wp2_with fail
                refine HSZ.out.mono ?_
                rintro e wx ⟨rfl, hwx⟩
                rw [hwx]; clear hwx wx
                go_wp2_with fail
                refine HO.out.mono ?_
                rintro e wx ⟨rfl, hwx⟩
                rw [← hwx]; clear hwx wx
                go_upto_region 33 with fail
                clear dk hkP
                have HHY := Lib.hid (HG.out.heap HCE.out.2.2.1 HCE.out.2.1 HR5.out.bt.st.fine HLE.out)
                have hflat : (flat obs).length ≤ 65536 := by have h1 := HR5.out.bt.len; have h2 := HZS.out; rw [List.length_append] at h1; omega
                have hnle := new_le f obs
                have hwith := new_within (f := f) hflat HR5.out.bt.clean
                have hnt := fun p => nought_tail (tail := tail) hnle p
                have htlen : (flat (newF f obs) ++ (List.replicate ((flat obs).length - (flat (newF f obs)).length) 0 ++ tail)).length = Z := by
                  have h1 := HR5.out.bt.len
                  rw [List.length_append] at h1
                  rw [List.length_append, List.length_append, List.length_replicate]; omega
                obtain ⟨tl, htl⟩ : ∃ tl, List.replicate ((flat obs).length - (flat (newF f obs)).length) 0 ++ tail = tl := ⟨_, rfl⟩
                rw [htl] at HHY htlen
                simp only [htl] at hnt
                obtain ⟨new, hnew⟩ : ∃ new, newF f obs = new := ⟨_, rfl⟩
                rw [hnew] at HHY htlen hwith
                simp only [hnew] at hnt
                have HNEW := Lib.hid hnew
                have HNT := Lib.hid hnt
                have HWI := Lib.hid hwith
                have HTLN := Lib.hid htlen
                have HFLT := Lib.hid hflat
                clear hnew htl hnt hwith htlen hnle hflat
                go_wp2_with fail
                refine HHY.out.mono ?_
                rintro e w20 ⟨g', gw', gb', rfl, hb20, hS20⟩
                have HS20 := Lib.hid hS20
                have HG20 := Lib.hid (HG.out.kept hb20)
                have HB5b := Lib.hid (on HB5r.out HB5r.out.size hb20)
                have s1 : w20.cell? ⟨bs, 0, none⟩ = some (.pointer (some ⟨C.S, 0, none⟩)) := (HG20.out.lies HLsL.out HIB.out.1.1 HIB.out.1.2 HIB.out.2.2.2.2.2.1).cell 0
                have hrl : rts.length = m := by rw [HR5.out.bt.rts_, List.length_map]; exact HR.out.1
                have HRI : Hid (∀ z ∈ rts, InR z) := Lib.hid fun z hz => good_inr (HR5.out.bt.good z hz) HFLT.out
                have HROK : Hid (rts.all (okW f (adr 0 obs)) = true) := Lib.hid (by have h := HR5.out.roots; rw [HFM.out] at h; exact h)
                have HRO := Lib.hid (HG20.out.roots HCE.out.2.2.1 HCE.out.2.1 B m cap rts (HR5.out.kept HB5b.out).bt.row.row hrl (by omega) HRI.out HROK.out)
                have HRL := Lib.hid hrl
                clear hb20 hS20 s0 hrl
                go_wp2_with fail
                refine HRO.out.mono ?_
                rintro e w21 ⟨q1, rfl, hq1, hL21, hb21⟩
                have HL21 := Lib.hid hL21
                have HG21 := Lib.hid (HG20.out.kept hb21)
                have HS21 := Lib.hid (HS20.out.kept hb21)
                have HB21 := Lib.hid (on HB5b.out HB5b.out.size hb21)
                have HMQ : Hid (Q.moved = many) := Lib.hid ((HG.out.all HSTB.out HLE.out).trans HMY.out)
                have HWAS := Lib.hid (HG21.out.lies HLlL.out HIB.out.2.1.1 HIB.out.2.1.2 HIB.out.2.2.2.2.2.2)
                have t0 : w21.cell? ⟨bs, 0, none⟩ = some (.pointer (some ⟨C.S, 0, none⟩)) := (HG21.out.lies HLsL.out HIB.out.1.1 HIB.out.1.2 HIB.out.2.2.2.2.2.1).cell 0
                have t1 : w21.cell? ⟨bm, 0, none⟩ = some (.int .i64 (many : Nat)) := (HG21.out.lies HLmL.out HIB.out.2.2.1.1 HIB.out.2.2.1.2 HIB.out.2.2.2.2.1).cell 0
                have t2 : w21.cell? ⟨rb, 0, none⟩ = some (.int .i64 (Z : Int)) := (HLRB.out.kept HB21.out).cell 0
                have t3 : w21.cell? ⟨rb, 1, none⟩ = some (.slice A n' c) := (HLRB.out.kept HB21.out).cell 1
                have f1 : ((m : Int) != (m : Int)) = false := by simp
                have f2 : ((many : Int) != (many : Int)) = false := by simp
                clear hq1 hL21 hb21 s1
                go_upto_region 35 with fail
                go_cut [171] from 142 to 170 (fun v wx => v = .bool false ∧ Below w21.heap.size w21 wx)
                case first =>
                  have HMV := Lib.hid (show ∀ V, Below w21.heap.size w21 V → Calls Tryz.prog 14 #[.pointer (some ⟨C.S, 0, none⟩)] V fun e w' => e = .returned (.int .i64 (many : Nat)) ∧ V = w' from fun V hV => by have h := (HG21.out.kept hV).moved; rw [HMQ.out] at h; exact h)
                  have HTN := Lib.hid (show ∀ V, Below w21.heap.size w21 V → Calls Tryz.prog 18 #[.pointer (some ⟨g, 0, none⟩)] V fun e w' => e = .returned (.int .i64 (top : Nat)) ∧ V = w' from fun V hV => top_n (HR5.out.bt.st.kept (on HB21.out HB21.out.size hV)) top HTOP.out)
                  have HSD := Lib.hid (show ∀ V, Below w21.heap.size w21 V → Calls Tryz.prog 19 #[.agg #[.int .i64 (Z : Int), .slice A n' c], .slice (some ⟨q, 0, none⟩) n' n'] V fun e w' => ∃ A2 n2 c2, e = .returned (.agg #[.int .i64 (Z : Int), .slice A2 n2 c2]) ∧ new.length = n2 ∧ Things w' A2 new ∧ Below V.heap.size V w' from fun V hV => by
                    have hR := HR5.out.kept (on HB21.out HB21.out.size hV)
                    have h := slide_any (w := V) (f := f) (Z : Int) n' c q hR.bt.st.fine hR.bt.own.things hR.bt.count HFLT.out hR.row (by rw [← HFM.out]; exact hR.stb) (by rw [← HFM.out]; exact hR.right) hR.bt.clean
                    rw [HNEW.out] at h
                    exact h)
                  have HIS := Lib.hid (show ∀ V A2 n2 c2, Below w21.heap.size w21 V → Things V A2 new → new.length = n2 → Calls Tryz.prog 17 #[.pointer (some ⟨g', 0, none⟩), .slice (some ⟨l0, 0, none⟩) Z Z, .int .i64 (top : Nat), .agg #[.int .i64 (Z : Int), .slice A2 n2 c2]] V fun e w' => e = .returned (.bool true) ∧ Below V.heap.size V w' from fun V A2 n2 c2 hV hT hn2 => by
                    have h5 := HR5.out.bt.len
                    refine is14_any (HS21.out.kept hV) hT HWI.out n2 c2 Z (flat new).length top hn2 HTLN.out rfl (HWAS.out.kept hV) h5 (by have h6 := HTOP.out; rw [List.length_append] at h5; omega) fun p h1 h2 => ?_
                    have h7 := HNT.out p h1 (by rw [h5]; exact h2)
                    rw [HTOP.out] at h7
                    exact h7)
                  have hb0 : Below w21.heap.size w21 w21.drew := (Below.refl _ w21).drew
                  have I0 := Lib.hid (show Below w21.heap.size w21 w21.drew ∧ w21.drew.cell? ⟨bs, 0, none⟩ = some (.pointer (some ⟨C.S, 0, none⟩)) ∧ w21.drew.cell? ⟨bm, 0, none⟩ = some (.int .i64 (many : Nat)) ∧ w21.drew.cell? ⟨rb, 0, none⟩ = some (.int .i64 (Z : Int)) ∧ w21.drew.cell? ⟨rb, 1, none⟩ = some (.slice A n' c) from ⟨hb0, t0, t1, t2, t3⟩)
                  clear hb0
                  go_region_held3 (fun W => Below w21.heap.size w21 W ∧ W.cell? ⟨bs, 0, none⟩ = some (.pointer (some ⟨C.S, 0, none⟩)) ∧ W.cell? ⟨bm, 0, none⟩ = some (.int .i64 (many : Nat)) ∧ W.cell? ⟨rb, 0, none⟩ = some (.int .i64 (Z : Int)) ∧ W.cell? ⟨rb, 1, none⟩ = some (.slice A n' c))
                    (repeat (first | exact I0.out | refine hold4 (by assumption) ?_))
                    ((first
                    | (go_at_call 14; refine (HMV.out _ (And.left (by assumption))).mono ?_; rintro e W5 ⟨rfl, rfl⟩)
                    | (go_at_call 18; refine (HTN.out _ (And.left (by assumption))).mono ?_; rintro e W5 ⟨rfl, rfl⟩)
                    | (go_at_call 19; refine (HSD.out _ (And.left (by assumption))).mono ?_; rintro e W5 ⟨A2, n2, c2, rfl, hn2, hTh, hk⟩)
                    | (go_at_call 17; refine (HIS.out _ _ _ _ (And.left (by assumption)) hTh hn2).mono ?_; rintro e W6 ⟨rfl, hk⟩)))
                  all_goals (go_wp2_with fail; go_meet; (rename_i hh; exact ⟨rfl, hh.1⟩))
                case rest =>
                obtain ⟨rfl, hc⟩ := hcut
                have HCx := Lib.hid hc
                clear hc t0 t1 t2 t3 f1 f2
                have HB22 := Lib.hid (on HB21.out HB21.out.size HCx.out)
                go_wp2_with fail
                go_loopw [174] (fun i wr => ∃ j : Nat, j ≤ m ∧ i = .int .i64 (j : Nat) ∧ Below w21.heap.size w21 wr) (fun i _ => m - (intOf i).toNat)
                case atStart => exact ⟨0, Nat.zero_le _, rfl, HCx.out⟩
                case round =>
                  obtain ⟨j, hj, rfl, hb⟩ := hrel
                  have HBj := Lib.hid hb
                  have HB5j := Lib.hid (on HB21.out HB21.out.size hb)
                  by_cases hjm : j < m
                  · obtain ⟨adr_, rfl, hcell⟩ := ((HR5.out.kept HB5j.out).bt.row.row).at_ (i := j) (by rw [HRL.out]; exact hjm)
                    have hjl : j < rts.length := by rw [HRL.out]; exact hjm
                    have hzr : InR (rts.getD j 0) := HRI.out _ (by simp [List.getD, hjl])
                    have hzk : okW f (adr 0 obs) (rts.getD j 0) = true := by
                      have h := HROK.out
                      rw [List.all_eq_true] at h
                      exact h _ (by simp [List.getD, hjl])
                    have hv : wr.cell? ⟨q1, j, none⟩ = some (.int .i64 (mvW f (adr 0 obs) (rts.getD j 0))) := by
                      rw [(HL21.out.kept hb).cell, List.getElem?_map, List.getElem?_map, List.getElem?_eq_getElem hjl]
                      simp [List.getD, hjl]
                    obtain ⟨z, hz⟩ : ∃ z, rts.getD j 0 = z := ⟨_, rfl⟩
                    rw [hz] at hcell hzr hzk hv
                    obtain ⟨v, hvv⟩ : ∃ v, mvW f (adr 0 obs) z = v := ⟨_, rfl⟩
                    rw [hvv] at hv
                    have HVQ := Lib.hid hv
                    have HWD := Lib.hid (show Calls Tryz.prog 20 #[.agg #[.int .i64 (Z : Int), .slice A n' c], .slice (some ⟨q, 0, none⟩) n' n', .int .i64 z] wr fun e w' => e = .returned (.tuple #[.int .i64 v, .bool true]) ∧ Below wr.heap.size wr w' from by
                      have hR := HR5.out.kept HB5j.out
                      have h := dword_any (w := wr) (f := f) (Z : Int) n' c q z hzr hR.bt.st.fine hR.bt.own.things hR.bt.count HFLT.out hR.row (by rw [← HFM.out]; exact hR.stb)
                      rw [hzk, if_pos rfl, hvv] at h
                      exact h)
                    have r0 : wr.cell? ⟨rb, 0, none⟩ = some (.int .i64 (Z : Int)) := (HLRB.out.kept HB5j.out).cell 0
                    have r1 : wr.cell? ⟨rb, 1, none⟩ = some (.slice A n' c) := (HLRB.out.kept HB5j.out).cell 1
                    have ea : (⟨q1, 0, none⟩ : Addr).add j = ⟨q1, j, none⟩ := add_at _ _
                    have j0 : (0 : Int) ≤ (j : Int) := by omega
                    have j1 : (j : Int) < (m : Int) := by omega
                    have dv : (v != v) = false := by simp
                    clear hb hz hvv hzr hzk hjl hv
                    go_wp2_with fail
                    refine HWD.out.mono ?_
                    rintro e w23 ⟨rfl, hb23⟩
                    have hv2 : w23.cell? ⟨q1, j, none⟩ = some (.int .i64 v) := (hb23.cell (block_lt_of_cell HVQ.out)).trans HVQ.out
                    have HB23 := Lib.hid (on HBj.out HBj.out.size hb23)
                    clear hb23 hcell r0 r1
                    go_wp2_with fail
                    exact ⟨⟨j + 1, by omega, by go_num, HB23.out⟩, by simp [intOf]; omega⟩
                  · obtain rfl : m = j := by omega
                    have HWW := Lib.hid (words_z (HR5.out.kept HB5j.out).bt.st Z HR5.out.bt.len)
                    obtain ⟨l2, hl2⟩ : ∃ l2, wr.heap.size = l2 := ⟨_, rfl⟩
                    rw [hl2] at HWW
                    have HL2 := Lib.hid hl2
                    obtain ⟨wJ, rfl⟩ : ∃ wJ, wJ = wr := ⟨_, rfl⟩
                    clear hb hl2
                    go_wp2_with fail
                    refine HWW.out.mono ?_
                    rintro e w24 ⟨rfl, hL24, hb24⟩
                    have HL24 := Lib.hid hL24
                    have HB24 := Lib.hid (on HBj.out HBj.out.size (show Below wJ.heap.size wJ w24 by rw [HL2.out]; exact hb24))
                    clear hL24 hb24
                    go_wp2_with fail
                    go_loopw [196] (fun i wr => ∃ j : Nat, j ≤ Z ∧ i = .int .i64 (j : Nat) ∧ Below w24.heap.size w24 wr) (fun i _ => Z - (intOf i).toNat)
                    case atStart => exact ⟨0, Nat.zero_le _, rfl, Below.refl _ _⟩
                    case round =>
                      obtain ⟨i3, hi3, rfl, hb⟩ := hrel
                      have HB25 := Lib.hid (on HB24.out HB24.out.size hb)
                      have HB25a := Lib.hid hb
                      by_cases hiZ : i3 < Z
                      · have hjl : i3 < (flat obs ++ tail).length := by rw [HR5.out.bt.len]; exact hiZ
                        obtain ⟨z, hz⟩ : ∃ z, (flat obs ++ tail)[i3]? = some z := ⟨_, List.getElem?_eq_getElem hjl⟩
                        have c1 : wr.cell? ⟨l2, i3, none⟩ = some (.int .i64 z) := by rw [(HL24.out.kept hb).cell, List.getElem?_map, hz]; rfl
                        have c2 : wr.cell? ⟨l0, i3, none⟩ = some (.int .i64 z) := by rw [(HWAS.out.kept HB25.out).cell, List.getElem?_map, hz]; rfl
                        have ea : (⟨l2, 0, none⟩ : Addr).add i3 = ⟨l2, i3, none⟩ := add_at _ _
                        have ea2 : (⟨l0, 0, none⟩ : Addr).add i3 = ⟨l0, i3, none⟩ := add_at _ _
                        have j0 : (0 : Int) ≤ (i3 : Int) := by omega
                        have j1 : (i3 : Int) < (Z : Int) := by omega
                        have dz : (z != z) = false := by simp
                        clear hb hz hjl
                        go_wp2_with fail
                        exact ⟨⟨i3 + 1, by omega, by go_num, HB25a.out⟩, by simp [intOf]; omega⟩
                      · obtain rfl : Z = i3 := by omega
                        have hGf := HG21.out.kept HB25.out
                        have s0 : wr.cell? ⟨bs, 0, none⟩ = some (.pointer (some ⟨C.S, 0, none⟩)) := (hGf.lies HLsL.out HIB.out.1.1 HIB.out.1.2 HIB.out.2.2.2.2.2.1).cell 0
                        have HR1 := Lib.hid (hGf.range (nw : Int) (.inr (by rw [HCE.out.1]; exact Int.le_refl _)))
                        have HR2 := Lib.hid (hGf.range (-1) (.inl (by omega)))
                        clear hb hGf
                        go_wp2_with fail
                        refine HR1.out.mono ?_
                        rintro e wx ⟨rfl, hwx⟩
                        rw [← hwx]; clear hwx wx
                        go_wp2_with fail
                        refine HR2.out.mono ?_
                        rintro e wx ⟨rfl, hwx⟩
                        rw [← hwx]; clear hwx wx
                        go_wp2_with fail
                        go_ret
                        exact ⟨rfl, on HB5.out HB5.out.size (on HB21.out HB21.out.size HB25.out)⟩
              · have dk : decide ((k : Int) < (P : Int)) = false := by simp; omega
                go_wp2_with fail
                refine HSZ.out.mono ?_
                rintro e wx ⟨rfl, hwx⟩
                rw [hwx]; clear hwx wx
                go_wp2_with fail
                refine HSZ.out.mono ?_
                rintro e wx ⟨rfl, hwx⟩
                rw [hwx]; clear hwx wx
                go_upto_region 33 with fail
                clear dk hkP
                have HHY := Lib.hid (HG.out.heap HCE.out.2.2.1 HCE.out.2.1 HR5.out.bt.st.fine HLE.out)
                have hflat : (flat obs).length ≤ 65536 := by have h1 := HR5.out.bt.len; have h2 := HZS.out; rw [List.length_append] at h1; omega
                have hnle := new_le f obs
                have hwith := new_within (f := f) hflat HR5.out.bt.clean
                have hnt := fun p => nought_tail (tail := tail) hnle p
                have htlen : (flat (newF f obs) ++ (List.replicate ((flat obs).length - (flat (newF f obs)).length) 0 ++ tail)).length = Z := by
                  have h1 := HR5.out.bt.len
                  rw [List.length_append] at h1
                  rw [List.length_append, List.length_append, List.length_replicate]; omega
                obtain ⟨tl, htl⟩ : ∃ tl, List.replicate ((flat obs).length - (flat (newF f obs)).length) 0 ++ tail = tl := ⟨_, rfl⟩
                rw [htl] at HHY htlen
                simp only [htl] at hnt
                obtain ⟨new, hnew⟩ : ∃ new, newF f obs = new := ⟨_, rfl⟩
                rw [hnew] at HHY htlen hwith
                simp only [hnew] at hnt
                have HNEW := Lib.hid hnew
                have HNT := Lib.hid hnt
                have HWI := Lib.hid hwith
                have HTLN := Lib.hid htlen
                have HFLT := Lib.hid hflat
                clear hnew htl hnt hwith htlen hnle hflat
                go_wp2_with fail
                refine HHY.out.mono ?_
                rintro e w20 ⟨g', gw', gb', rfl, hb20, hS20⟩
                have HS20 := Lib.hid hS20
                have HG20 := Lib.hid (HG.out.kept hb20)
                have HB5b := Lib.hid (on HB5r.out HB5r.out.size hb20)
                have s1 : w20.cell? ⟨bs, 0, none⟩ = some (.pointer (some ⟨C.S, 0, none⟩)) := (HG20.out.lies HLsL.out HIB.out.1.1 HIB.out.1.2 HIB.out.2.2.2.2.2.1).cell 0
                have hrl : rts.length = m := by rw [HR5.out.bt.rts_, List.length_map]; exact HR.out.1
                have HRI : Hid (∀ z ∈ rts, InR z) := Lib.hid fun z hz => good_inr (HR5.out.bt.good z hz) HFLT.out
                have HROK : Hid (rts.all (okW f (adr 0 obs)) = true) := Lib.hid (by have h := HR5.out.roots; rw [HFM.out] at h; exact h)
                have HRO := Lib.hid (HG20.out.roots HCE.out.2.2.1 HCE.out.2.1 B m cap rts (HR5.out.kept HB5b.out).bt.row.row hrl (by omega) HRI.out HROK.out)
                have HRL := Lib.hid hrl
                clear hb20 hS20 s0 hrl
                go_wp2_with fail
                refine HRO.out.mono ?_
                rintro e w21 ⟨q1, rfl, hq1, hL21, hb21⟩
                have HL21 := Lib.hid hL21
                have HG21 := Lib.hid (HG20.out.kept hb21)
                have HS21 := Lib.hid (HS20.out.kept hb21)
                have HB21 := Lib.hid (on HB5b.out HB5b.out.size hb21)
                have HMQ : Hid (Q.moved = many) := Lib.hid ((HG.out.all HSTB.out HLE.out).trans HMY.out)
                have HWAS := Lib.hid (HG21.out.lies HLlL.out HIB.out.2.1.1 HIB.out.2.1.2 HIB.out.2.2.2.2.2.2)
                have t0 : w21.cell? ⟨bs, 0, none⟩ = some (.pointer (some ⟨C.S, 0, none⟩)) := (HG21.out.lies HLsL.out HIB.out.1.1 HIB.out.1.2 HIB.out.2.2.2.2.2.1).cell 0
                have t1 : w21.cell? ⟨bm, 0, none⟩ = some (.int .i64 (many : Nat)) := (HG21.out.lies HLmL.out HIB.out.2.2.1.1 HIB.out.2.2.1.2 HIB.out.2.2.2.2.1).cell 0
                have t2 : w21.cell? ⟨rb, 0, none⟩ = some (.int .i64 (Z : Int)) := (HLRB.out.kept HB21.out).cell 0
                have t3 : w21.cell? ⟨rb, 1, none⟩ = some (.slice A n' c) := (HLRB.out.kept HB21.out).cell 1
                have f1 : ((m : Int) != (m : Int)) = false := by simp
                have f2 : ((many : Int) != (many : Int)) = false := by simp
                clear hq1 hL21 hb21 s1
                go_upto_region 35 with fail
                go_cut [171] from 142 to 170 (fun v wx => v = .bool false ∧ Below w21.heap.size w21 wx)
                case first =>
                  have HMV := Lib.hid (show ∀ V, Below w21.heap.size w21 V → Calls Tryz.prog 14 #[.pointer (some ⟨C.S, 0, none⟩)] V fun e w' => e = .returned (.int .i64 (many : Nat)) ∧ V = w' from fun V hV => by have h := (HG21.out.kept hV).moved; rw [HMQ.out] at h; exact h)
                  have HTN := Lib.hid (show ∀ V, Below w21.heap.size w21 V → Calls Tryz.prog 18 #[.pointer (some ⟨g, 0, none⟩)] V fun e w' => e = .returned (.int .i64 (top : Nat)) ∧ V = w' from fun V hV => top_n (HR5.out.bt.st.kept (on HB21.out HB21.out.size hV)) top HTOP.out)
                  have HSD := Lib.hid (show ∀ V, Below w21.heap.size w21 V → Calls Tryz.prog 19 #[.agg #[.int .i64 (Z : Int), .slice A n' c], .slice (some ⟨q, 0, none⟩) n' n'] V fun e w' => ∃ A2 n2 c2, e = .returned (.agg #[.int .i64 (Z : Int), .slice A2 n2 c2]) ∧ new.length = n2 ∧ Things w' A2 new ∧ Below V.heap.size V w' from fun V hV => by
                    have hR := HR5.out.kept (on HB21.out HB21.out.size hV)
                    have h := slide_any (w := V) (f := f) (Z : Int) n' c q hR.bt.st.fine hR.bt.own.things hR.bt.count HFLT.out hR.row (by rw [← HFM.out]; exact hR.stb) (by rw [← HFM.out]; exact hR.right) hR.bt.clean
                    rw [HNEW.out] at h
                    exact h)
                  have HIS := Lib.hid (show ∀ V A2 n2 c2, Below w21.heap.size w21 V → Things V A2 new → new.length = n2 → Calls Tryz.prog 17 #[.pointer (some ⟨g', 0, none⟩), .slice (some ⟨l0, 0, none⟩) Z Z, .int .i64 (top : Nat), .agg #[.int .i64 (Z : Int), .slice A2 n2 c2]] V fun e w' => e = .returned (.bool true) ∧ Below V.heap.size V w' from fun V A2 n2 c2 hV hT hn2 => by
                    have h5 := HR5.out.bt.len
                    refine is14_any (HS21.out.kept hV) hT HWI.out n2 c2 Z (flat new).length top hn2 HTLN.out rfl (HWAS.out.kept hV) h5 (by have h6 := HTOP.out; rw [List.length_append] at h5; omega) fun p h1 h2 => ?_
                    have h7 := HNT.out p h1 (by rw [h5]; exact h2)
                    rw [HTOP.out] at h7
                    exact h7)
                  have hb0 : Below w21.heap.size w21 w21.drew := (Below.refl _ w21).drew
                  have I0 := Lib.hid (show Below w21.heap.size w21 w21.drew ∧ w21.drew.cell? ⟨bs, 0, none⟩ = some (.pointer (some ⟨C.S, 0, none⟩)) ∧ w21.drew.cell? ⟨bm, 0, none⟩ = some (.int .i64 (many : Nat)) ∧ w21.drew.cell? ⟨rb, 0, none⟩ = some (.int .i64 (Z : Int)) ∧ w21.drew.cell? ⟨rb, 1, none⟩ = some (.slice A n' c) from ⟨hb0, t0, t1, t2, t3⟩)
                  clear hb0
                  go_region_held3 (fun W => Below w21.heap.size w21 W ∧ W.cell? ⟨bs, 0, none⟩ = some (.pointer (some ⟨C.S, 0, none⟩)) ∧ W.cell? ⟨bm, 0, none⟩ = some (.int .i64 (many : Nat)) ∧ W.cell? ⟨rb, 0, none⟩ = some (.int .i64 (Z : Int)) ∧ W.cell? ⟨rb, 1, none⟩ = some (.slice A n' c))
                    (repeat (first | exact I0.out | refine hold4 (by assumption) ?_))
                    ((first
                    | (go_at_call 14; refine (HMV.out _ (And.left (by assumption))).mono ?_; rintro e W5 ⟨rfl, rfl⟩)
                    | (go_at_call 18; refine (HTN.out _ (And.left (by assumption))).mono ?_; rintro e W5 ⟨rfl, rfl⟩)
                    | (go_at_call 19; refine (HSD.out _ (And.left (by assumption))).mono ?_; rintro e W5 ⟨A2, n2, c2, rfl, hn2, hTh, hk⟩)
                    | (go_at_call 17; refine (HIS.out _ _ _ _ (And.left (by assumption)) hTh hn2).mono ?_; rintro e W6 ⟨rfl, hk⟩)))
                  all_goals (go_wp2_with fail; go_meet; (rename_i hh; exact ⟨rfl, hh.1⟩))
                case rest =>
                obtain ⟨rfl, hc⟩ := hcut
                have HCx := Lib.hid hc
                clear hc t0 t1 t2 t3 f1 f2
                have HB22 := Lib.hid (on HB21.out HB21.out.size HCx.out)
                go_wp2_with fail
                go_loopw [174] (fun i wr => ∃ j : Nat, j ≤ m ∧ i = .int .i64 (j : Nat) ∧ Below w21.heap.size w21 wr) (fun i _ => m - (intOf i).toNat)
                case atStart => exact ⟨0, Nat.zero_le _, rfl, HCx.out⟩
                case round =>
                  obtain ⟨j, hj, rfl, hb⟩ := hrel
                  have HBj := Lib.hid hb
                  have HB5j := Lib.hid (on HB21.out HB21.out.size hb)
                  by_cases hjm : j < m
                  · obtain ⟨adr_, rfl, hcell⟩ := ((HR5.out.kept HB5j.out).bt.row.row).at_ (i := j) (by rw [HRL.out]; exact hjm)
                    have hjl : j < rts.length := by rw [HRL.out]; exact hjm
                    have hzr : InR (rts.getD j 0) := HRI.out _ (by simp [List.getD, hjl])
                    have hzk : okW f (adr 0 obs) (rts.getD j 0) = true := by
                      have h := HROK.out
                      rw [List.all_eq_true] at h
                      exact h _ (by simp [List.getD, hjl])
                    have hv : wr.cell? ⟨q1, j, none⟩ = some (.int .i64 (mvW f (adr 0 obs) (rts.getD j 0))) := by
                      rw [(HL21.out.kept hb).cell, List.getElem?_map, List.getElem?_map, List.getElem?_eq_getElem hjl]
                      simp [List.getD, hjl]
                    obtain ⟨z, hz⟩ : ∃ z, rts.getD j 0 = z := ⟨_, rfl⟩
                    rw [hz] at hcell hzr hzk hv
                    obtain ⟨v, hvv⟩ : ∃ v, mvW f (adr 0 obs) z = v := ⟨_, rfl⟩
                    rw [hvv] at hv
                    have HVQ := Lib.hid hv
                    have HWD := Lib.hid (show Calls Tryz.prog 20 #[.agg #[.int .i64 (Z : Int), .slice A n' c], .slice (some ⟨q, 0, none⟩) n' n', .int .i64 z] wr fun e w' => e = .returned (.tuple #[.int .i64 v, .bool true]) ∧ Below wr.heap.size wr w' from by
                      have hR := HR5.out.kept HB5j.out
                      have h := dword_any (w := wr) (f := f) (Z : Int) n' c q z hzr hR.bt.st.fine hR.bt.own.things hR.bt.count HFLT.out hR.row (by rw [← HFM.out]; exact hR.stb)
                      rw [hzk, if_pos rfl, hvv] at h
                      exact h)
                    have r0 : wr.cell? ⟨rb, 0, none⟩ = some (.int .i64 (Z : Int)) := (HLRB.out.kept HB5j.out).cell 0
                    have r1 : wr.cell? ⟨rb, 1, none⟩ = some (.slice A n' c) := (HLRB.out.kept HB5j.out).cell 1
                    have ea : (⟨q1, 0, none⟩ : Addr).add j = ⟨q1, j, none⟩ := add_at _ _
                    have j0 : (0 : Int) ≤ (j : Int) := by omega
                    have j1 : (j : Int) < (m : Int) := by omega
                    have dv : (v != v) = false := by simp
                    clear hb hz hvv hzr hzk hjl hv
                    go_wp2_with fail
                    refine HWD.out.mono ?_
                    rintro e w23 ⟨rfl, hb23⟩
                    have hv2 : w23.cell? ⟨q1, j, none⟩ = some (.int .i64 v) := (hb23.cell (block_lt_of_cell HVQ.out)).trans HVQ.out
                    have HB23 := Lib.hid (on HBj.out HBj.out.size hb23)
                    clear hb23 hcell r0 r1
                    go_wp2_with fail
                    exact ⟨⟨j + 1, by omega, by go_num, HB23.out⟩, by simp [intOf]; omega⟩
                  · obtain rfl : m = j := by omega
                    have HWW := Lib.hid (words_z (HR5.out.kept HB5j.out).bt.st Z HR5.out.bt.len)
                    obtain ⟨l2, hl2⟩ : ∃ l2, wr.heap.size = l2 := ⟨_, rfl⟩
                    rw [hl2] at HWW
                    have HL2 := Lib.hid hl2
                    obtain ⟨wJ, rfl⟩ : ∃ wJ, wJ = wr := ⟨_, rfl⟩
                    clear hb hl2
                    go_wp2_with fail
                    refine HWW.out.mono ?_
                    rintro e w24 ⟨rfl, hL24, hb24⟩
                    have HL24 := Lib.hid hL24
                    have HB24 := Lib.hid (on HBj.out HBj.out.size (show Below wJ.heap.size wJ w24 by rw [HL2.out]; exact hb24))
                    clear hL24 hb24
                    go_wp2_with fail
                    go_loopw [196] (fun i wr => ∃ j : Nat, j ≤ Z ∧ i = .int .i64 (j : Nat) ∧ Below w24.heap.size w24 wr) (fun i _ => Z - (intOf i).toNat)
                    case atStart => exact ⟨0, Nat.zero_le _, rfl, Below.refl _ _⟩
                    case round =>
                      obtain ⟨i3, hi3, rfl, hb⟩ := hrel
                      have HB25 := Lib.hid (on HB24.out HB24.out.size hb)
                      have HB25a := Lib.hid hb
                      by_cases hiZ : i3 < Z
                      · have hjl : i3 < (flat obs ++ tail).length := by rw [HR5.out.bt.len]; exact hiZ
                        obtain ⟨z, hz⟩ : ∃ z, (flat obs ++ tail)[i3]? = some z := ⟨_, List.getElem?_eq_getElem hjl⟩
                        have c1 : wr.cell? ⟨l2, i3, none⟩ = some (.int .i64 z) := by rw [(HL24.out.kept hb).cell, List.getElem?_map, hz]; rfl
                        have c2 : wr.cell? ⟨l0, i3, none⟩ = some (.int .i64 z) := by rw [(HWAS.out.kept HB25.out).cell, List.getElem?_map, hz]; rfl
                        have ea : (⟨l2, 0, none⟩ : Addr).add i3 = ⟨l2, i3, none⟩ := add_at _ _
                        have ea2 : (⟨l0, 0, none⟩ : Addr).add i3 = ⟨l0, i3, none⟩ := add_at _ _
                        have j0 : (0 : Int) ≤ (i3 : Int) := by omega
                        have j1 : (i3 : Int) < (Z : Int) := by omega
                        have dz : (z != z) = false := by simp
                        clear hb hz hjl
                        go_wp2_with fail
                        exact ⟨⟨i3 + 1, by omega, by go_num, HB25a.out⟩, by simp [intOf]; omega⟩
                      · obtain rfl : Z = i3 := by omega
                        have hGf := HG21.out.kept HB25.out
                        have s0 : wr.cell? ⟨bs, 0, none⟩ = some (.pointer (some ⟨C.S, 0, none⟩)) := (hGf.lies HLsL.out HIB.out.1.1 HIB.out.1.2 HIB.out.2.2.2.2.2.1).cell 0
                        have HR1 := Lib.hid (hGf.range (nw : Int) (.inr (by rw [HCE.out.1]; exact Int.le_refl _)))
                        have HR2 := Lib.hid (hGf.range (-1) (.inl (by omega)))
                        clear hb hGf
                        go_wp2_with fail
                        refine HR1.out.mono ?_
                        rintro e wx ⟨rfl, hwx⟩
                        rw [← hwx]; clear hwx wx
                        go_wp2_with fail
                        refine HR2.out.mono ?_
                        rintro e wx ⟨rfl, hwx⟩
                        rw [← hwx]; clear hwx wx
                        go_wp2_with fail
                        go_ret
                        exact ⟨rfl, on HB5.out HB5.out.size (on HB21.out HB21.out.size HB25.out)⟩
            · have HNLF := Lib.hid hl
              have hkP : k < P := by
                obtain ⟨t, h1, _⟩ := hG.run
                have := phi_pos h1 hl
                rcases hphi with h | h
                · exact absurd h hl
                · omega
              have dO : decide (Q.left = 0) = false := by simp [hl]
              rw [dO] at HO
              have dk : decide ((k : Int) < (P : Int)) = true := by simp; omega
              clear hl dO hG hphi
              go_wp2_with fail
              refine HSZ.out.mono ?_
              rintro e wx ⟨rfl, hwx⟩
              rw [hwx]; clear hwx wx
              go_wp2_with fail
              refine HSZ.out.mono ?_
              rintro e wx ⟨rfl, hwx⟩
              rw [hwx]; clear hwx wx
              go_wp2_with fail
              refine HO.out.mono ?_
              rintro e wx ⟨rfl, hwx⟩
              rw [← hwx]; clear hwx wx dk s0
              go_wp2_with fail
              go_loopw [123] (fun i wr => ∃ (j : Nat) (Q' : Pm), j ≤ nw ∧ i = .int .i64 (j : Nat) ∧ Go3 C (flat obs ++ tail).length (fun p => (flat obs ++ tail).getD p 0) W0.toWorld wL bt (400 + 7 * k + j) wr Q' ∧ InRnd C Q Q' (fun x => x < j)) (fun i _ => nw - (intOf i).toNat)
              case atStart => exact ⟨0, Q, Nat.zero_le _, rfl, HG.out, (within_start Q).mono fun j h => absurd h (Nat.not_lt_zero _)⟩
              case round =>
                obtain ⟨j, Q', hj, rfl, hG', hrnd⟩ := hrel
                have HG2 := Lib.hid hG'
                have HRND := Lib.hid hrnd
                by_cases hjn : j < nw
                · have HST := Lib.hid (HSTEP.out _ _ _ j hG' hjn (by omega))
                  clear hG' hrnd
                  go_wp2_with fail
                  refine HST.out.mono ?_
                  rintro e w19 ⟨rfl, hG3⟩
                  have HG3 := Lib.hid hG3
                  clear hG3 HST
                  go_wp2_with fail
                  exact ⟨⟨j + 1, stepO C Q' j, by omega, by go_num, HG3.out.mono (by omega), (within_step HG2.out.inv (show j < C.n by rw [HCE.out.1]; exact hjn) HRND.out).mono fun x hx => by show x < j ∨ x = j; omega⟩, by simp [intOf]; omega⟩
                · obtain rfl : j = nw := by omega
                  clear hG' hrnd
                  go_wp2_with fail
                  refine ⟨⟨k + 1, Q', by omega, by go_num, HG2.out.mono (by omega), ?_⟩, by simp [intOf]; omega⟩
                  rcases within_end HG2.out.cok HG.out.inv HRND.out (fun x hx => by rw [HCE.out.1] at hx; exact hx) with h | h
                  · exact .inl h
                  · refine .inr ?_
                    rcases HPH.out with h2 | h2
                    · exact absurd h2 HNLF.out
                    · omega
end Go.Proofs.YtklhdilbmpndkaaGreat

namespace Go.Proofs.YtklhdilbmpndkaaGreat
set_option maxRecDepth 20000
open Go.ChangeShapes Go.WideShapes Go.ChangeAt Go.RowKit Go.Deep
theorem reads_z {H : Type} {enc : TypeId × Value → H} {W : World} {sp : Nat → Bool} {held : Bool} {a : Option Addr} {len cap : Nat} {d : DataW H} {p : List MemPlace} (h : DataW.Trod enc Tryz.prog W 0 sp held 23 (.slice a len cap) d p) :
    ∃ zs, Mk.Came .u8 W a len zs ∧ len ≤ maxLen := by
  obtain ⟨fuel, hf⟩ := h
  have e : (Value.slice a len cap).cells.toList = [.slice a len cap] := rfl
  rw [e] at hf
  obtain ⟨a', len', cap', zs, e, h1, h2⟩ := bytes_reads hf
  injection e with e1 e2 e3
  subst e1 e2 e3
  exact ⟨zs, h1, h2⟩
end Go.Proofs.YtklhdilbmpndkaaGreat

namespace Go.Proofs.YtklhdilbmpndkaaGreat
set_option maxRecDepth 20000
open Go.ChangeShapes Go.WideShapes Go.ChangeAt Go.RowKit Go.Joins
set_option linter.unusedVariables false

theorem okWide_arr {P : Program} {w : World} {r : Reach} {base : Nat} {t e : TypeId} {n : Nat} {v : Value} (ht : P.underlying t = some (.array n e)) (h : Value.okWide P w r base t v) : ∃ cs, v = .agg cs ∧ cs.size = P.cellsOf t := by
  simp only [Value.okWide, ht] at h
  cases v <;> simp_all
theorem bd_lit {k : IntKind} {n : Int} (h : (Lit.int k n).wf = true) : k.min ≤ n ∧ n ≤ k.max := by simpa [Lit.wf] using h
theorem bd_byte {n : Int} (h : (Lit.int .u8 n).wf = true) : 0 ≤ n ∧ n ≤ 255 := bd_lit h
theorem cellsT26 : Tryz.prog.cellsOf 26 = 2 := by kernel_rfl
theorem reads_pair {H : Type} {enc : TypeId × Value → H} {W : World} {base : Nat} {v : Value} {d : DataW H} {p : List MemPlace} (hv : Value.okWide Tryz.prog W .any base 26 v) (h : DataW.Trod enc Tryz.prog W 0 (fun _ => true) true 26 v d p) :
    ∃ z0 z1 : Int, v = .agg #[.int .u8 z0, .int .u8 z1] ∧ ((0 ≤ z0 ∧ z0 ≤ 255) ∧ (0 ≤ z1 ∧ z1 ≤ 255)) := by
  obtain ⟨cs, rfl, hsz⟩ := okWide_arr Tryz.underlying26 hv
  obtain ⟨c0, c1, rfl⟩ := array2 (hsz.trans cellsT26)
  obtain ⟨fuel, hf⟩ := h
  obtain ⟨xs, m, _, _, _, hlen, hi⟩ := DataW.trod_array Tryz.underlying26 hf
  rw [cells5] at hi
  match xs, hlen with
  | [y0, y1], _ =>
    have h0 := hi 0 (by omega)
    have h1 := hi 1 (by omega)
    simp [Value.cells] at h0 h1
    obtain ⟨z0, e0, -, w0⟩ := DataW.trod_int Tryz.underlying5 h0
    obtain ⟨z1, e1, -, w1⟩ := DataW.trod_int Tryz.underlying5 h1
    simp at e0 e1
    subst e0 e1
    exact ⟨z0, z1, rfl, bd_byte w0, bd_byte w1⟩
theorem slides_walk (A0 B0 C0 : Option Addr) (n cN m cR np cZ : Nat) (x0 x1 : Int) (ds : List Nd) (rs : List Int) (w : World) (hN : CameN w A0 n ds) (hR : Mk.Came .u8 w B0 m rs) (hm : m ≤ maxLen) (hx : (0 ≤ x0 ∧ x0 ≤ 255) ∧ (0 ≤ x1 ∧ x1 ≤ 255)) (hZ : ∃ zs, Mk.Came .u8 w C0 np zs ∧ np ≤ maxLen) :
    Calls Tryz.prog 3 #[.agg #[.slice A0 n cN, .slice B0 m cR], .agg #[.int .u8 x0, .int .u8 x1], .slice C0 np cZ] w fun e w' => e = .returned (.bool true) ∧ Below w.heap.size w w' := by
  obtain ⟨zs, hz, hq⟩ := hZ
  by_cases h : fewB ds m = true ∧ np ≤ 400
  · exact slides_near A0 B0 C0 n cN m cR np cZ x0 x1 ds rs zs w hN hR hz h.1 h.2 hx.1 hx.2
  · refine slides_far A0 B0 C0 n cN m cR np cZ x0 x1 ds w hN hm hq ?_
    cases hf : fewB ds m with
    | false => exact .inl rfl
    | true =>
      by_cases h2 : np ≤ 400
      · exact absurd ⟨hf, h2⟩ h
      · exact .inr (by omega)
end Go.Proofs.YtklhdilbmpndkaaGreat
