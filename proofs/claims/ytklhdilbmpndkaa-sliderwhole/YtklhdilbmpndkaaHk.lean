/- SliderWhole: all is marked; nothing is changed: plain, and the marking. SliderWhole, plain: where all stays and nothing is filled, nothing is turned. What rounds of steps come to: for the laws. SliderWhole, walked. SliderWhole, whatever comes in. -/
import Derived.Test.YtklhdilbmpndkaaHj
import Derived.Test.YtklhdilbmpndkaaGv
import Derived.Deep.DeepCutAuto
import Derived.Test.YtklhdilbmpndkaaGx
namespace Go.Proofs.Ytklhdilbmpndkaa
set_option maxRecDepth 20000
open Go.RowKit
set_option linter.unusedVariables false
set_option linter.unusedSimpArgs false


/-- Marks where some objects begin. -/
def marksOf (obs : List Ob) (p : Nat) : Bool := (adr 0 obs).any fun x => decide (x.1 = p)
theorem marks_more (pre : List Ob) (o : Ob) (p : Nat) : marksOf (pre ++ [o]) p = (decide (p = (flat pre).length) || marksOf pre p) := by
  unfold marksOf
  rw [adr_append, List.any_append, Nat.zero_add]
  simp only [adr, List.any_cons, List.any_nil, Bool.or_false]
  rw [Bool.or_comm]
  congr 1
  rw [decide_eq_decide]
  exact eq_comm
set_option maxRecDepth 100000 in
set_option maxHeartbeats 1000000 in
theorem yield_all {W : World} {mg mw Z bm p : Nat} {ws : List Nat} (M : Mk.At W mg mw Z ws) (hp : p < Z) (a b c : Int) (hl : Lies W bm 36 [.pointer (some ⟨mg, 0, none⟩)]) :
    Calls Try.prog 25 (#[.int .i64 (p : Nat), .agg #[.int .i64 a, .int .i64 b, .int .i64 c]] ++ #[.pointer (some ⟨bm, 0, none⟩)]) W fun e W' => e = .returned (.bool true) ∧ Mk.At W' mg mw Z (Mk.setW ws p) ∧ Mk.Else mg mw W W' := by
  have b1 := below_one W (.cells #[.int .i64 a, .int .i64 b, .int .i64 c] 45)
  have hb2 : (W.alloc (.cells #[.int .i64 a, .int .i64 b, .int .i64 c] 45)).cell? ⟨bm, 0, none⟩ = some (.pointer (some ⟨mg, 0, none⟩)) := (hl.alloc _).cell 0
  have HS := Lib.hid (Mk.set_yes (M.kept b1) p hp)
  have HB1 := Lib.hid b1
  have hml := M.own.lt
  have hmw := M.words.lt
  clear M b1 hl
  go_enter Try.func25, Try.ntmps25
  go_wp2_with fail
  refine HS.out.mono ?_
  rintro e W2 ⟨rfl, M2, E2⟩
  have HM2 := Lib.hid M2
  have HE2 := Lib.hid E2
  clear M2 E2
  go_wp2_with fail
  go_ret
  refine ⟨rfl, HM2.out, ?_⟩
  exact (Mk.Else.of_below HB1.out).trans HE2.out

set_option maxRecDepth 100000 in
set_option maxHeartbeats 1000000 in
/-- All is marked: by the iterator and a function that marks. -/
theorem mark_all {w : World} {g gw gb mg mw Z bm bh : Nat} {obs : List Ob} {tail : List Int} {ws : List Nat} (S : St w g gw gb obs tail) (hZ : (flat obs ++ tail).length = Z) (M : Mk.At w mg mw Z ws) (h0 : ∀ p, Mk.bit ws p = false) (hl : Lies w bm 36 [.pointer (some ⟨mg, 0, none⟩)]) (hb : Lies w bh 29 [.pointer (some ⟨g, 0, none⟩)])
    (n1 : mg ≠ g ∧ mg ≠ gw ∧ mg ≠ gb ∧ mg ≠ bm ∧ mg ≠ bh) (n2 : mw ≠ g ∧ mw ≠ gw ∧ mw ≠ gb ∧ mw ≠ bm ∧ mw ≠ bh) :
    Calls Try.prog 48 #[.func (.func 25) #[] #[.pointer (some ⟨bm, 0, none⟩)], .pointer (some ⟨bh, 0, none⟩)] w fun e w' => e = .returned (.tuple #[]) ∧ ∃ ws', Mk.At w' mg mw Z ws' ∧ (∀ p, Mk.bit ws' p = marksOf obs p) ∧ Mk.Else mg mw w w' := by
  have key := walk1 25 #[.pointer (some ⟨bm, 0, none⟩)] g gw gb bh w.heap.size obs tail
    (fun pre W => ∃ ws', Mk.At W mg mw Z ws' ∧ (∀ p, Mk.bit ws' p = marksOf pre p) ∧ Mk.Else mg mw w W) (fun _ _ => False)
    (fun pre W h => by
      obtain ⟨ws', _, _, E⟩ := h
      have Z := S.lies
      exact ⟨⟨S.fine, Z.own.of_block (E.block _ Z.own.lt (by omega) (by omega)), Z.words.of_block (E.block _ Z.words.lt (by omega) (by omega)), Z.begins.of_block (E.block _ Z.begins.lt (by omega) (by omega)), Z.same, Z.some_, Z.most, Z.fits⟩, hb.of_block (E.block _ hb.lt (by omega) (by omega))⟩)
    (fun pre W W' h hB => by
      obtain ⟨ws', M', hb', E⟩ := h
      exact ⟨ws', M'.kept hB, hb', E.trans (Mk.Else.of_below hB)⟩)
    (fun pre o post W he h => by
      obtain ⟨ws', M', hb', E⟩ := h
      have hpZ : (flat pre).length < Z := by rw [← hZ, he, flat_append, flat_cons]; simp
      refine (yield_all M' hpZ _ _ _ (hl.of_block (E.block _ hl.lt (by omega) (by omega)))).mono ?_
      rintro e W' ⟨he', M2, E2⟩
      have E3 := E.trans E2
      refine .inl ⟨he', ⟨_, M2, fun p => ?_, E3⟩, ⟨E2.size, fun k hk hk2 => ?_⟩⟩
      · rw [Mk.bit_set _ _ _ (M'.place hpZ), hb', marks_more]
      · exact E2.block k hk2 (by have := M.own.lt; omega) (by have := M.words.lt; omega))
    (fun args W => rfl) w (Nat.le_refl _) ⟨ws, M, fun p => by rw [h0]; rfl, Mk.Else.refl _ _ _⟩
  refine key.mono ?_
  rintro e w' ⟨he, h | ⟨_, _, _, _, h⟩⟩
  · exact ⟨he, h⟩
  · exact h.elim
end Go.Proofs.Ytklhdilbmpndkaa

namespace Go.Proofs.Ytklhdilbmpndkaa
set_option maxRecDepth 20000
open Go.RowKit
set_option linter.unusedVariables false
set_option linter.unusedSimpArgs false


theorem two_heads {ds : List Nd} : ∀ k, k ≤ 2 → ∀ o ∈ (laidG ds k).1, o.1 % 16 ≠ 15
  | 0, _, o, ho => by simp [laidG] at ho
  | k + 1, hk, o, ho => by
    have ih := two_heads (ds := ds) k (by omega)
    cases hd : ds[k]? with
    | none => rw [laidG, hd] at ho; exact ih o ho
    | some d =>
      rw [laid_succ hd] at ho
      have hm : midN k d (laidG ds k).1 = (laidG ds k).1 := by unfold midN; rw [if_neg (by omega)]
      rw [hm] at ho
      rcases List.mem_append.1 ho with h | h
      · exact ih o h
      · rw [List.mem_singleton] at h
        rw [h]
        show headN d % 16 ≠ 15
        unfold headN packW
        omega
theorem no_fill {ds : List Nd} {obs : List Ob} (h2 : ds.length ≤ 2) (hh : obs.map Prod.fst = (laidG ds ds.length).1.map Prod.fst) : ∀ o ∈ obs, o.1 % 16 ≠ 15 := by
  intro o ho
  have h1 : o.1 ∈ obs.map Prod.fst := List.mem_map_of_mem ho
  rw [hh] at h1
  obtain ⟨o', h3, h4⟩ := List.mem_map.1 h1
  rw [← h4]
  exact two_heads _ h2 o' h3
theorem adr_snd : ∀ (a : Nat) (obs : List Ob), (adr a obs).map Prod.snd = obs
  | _, [] => rfl
  | a, o :: l => by rw [adr, List.map_cons, adr_snd]
section
variable {f : Nat → Bool} {obs : List Ob}
theorem whole_keep (hm : ∀ p, f p = marksOf obs p) (hn : ∀ o ∈ obs, o.1 % 16 ≠ 15) : ∀ x ∈ adr 0 obs, keepB f x = true := by
  intro x hx
  obtain ⟨pre, post, h1, _⟩ := mem_split hx
  have h2 := hn x.2 (by rw [h1]; simp)
  unfold keepB
  rw [hm]
  have h3 : marksOf obs x.1 = true := by unfold marksOf; rw [List.any_eq_true]; exact ⟨x, hx, by simp⟩
  simp [h2, h3]
theorem whole_go (hk : ∀ x ∈ adr 0 obs, keepB f x = true) : ∀ x ∈ adr 0 obs, goS f (adr 0 obs) x.1 = x.1 := by
  intro x hx
  obtain ⟨j, hj, rfl⟩ := List.getElem_of_mem hx
  have h1 := go_take (f := f) (adr_sorted 0 obs) (List.getElem?_eq_getElem hj)
  have h2 : ((adr 0 obs).take j).filter (keepB f) = (adr 0 obs).take j := by
    rw [List.filter_eq_self]
    exact fun y hy => hk y (List.mem_of_mem_take hy)
  rw [h2, sum_take] at h1
  rw [h1]
  have h3 := (adr_get (List.getElem?_eq_getElem hj)).2
  omega
theorem live_mem {a : Int} (h : Live obs a) : ∃ x ∈ adr 0 obs, a = (x.1 : Int) := by
  obtain ⟨pre, o, post, h1, h2, _⟩ := h
  refine ⟨((flat pre).length, o), ?_, h2⟩
  rw [h1, adr_append, adr, Nat.zero_add]
  simp
theorem whole_word (hk : ∀ x ∈ adr 0 obs, keepB f x = true) {v : Int} (h : v = 0 ∨ Live obs (v - 1)) : okW f (adr 0 obs) v = true ∧ mvW f (adr 0 obs) v = v := by
  rcases h with rfl | h
  · exact ⟨by simp [okW], by simp [mvW]⟩
  · obtain ⟨x, hx, hv⟩ := live_mem h
    have e : (v - 1).toNat = x.1 := by omega
    have hne : v ≠ 0 := by omega
    constructor
    · unfold okW
      rw [e, isK_at (adr_sorted 0 obs) hx, hk x hx]
      simp; omega
    · unfold mvW
      rw [if_neg hne, e, whole_go hk x hx]
      omega
theorem whole_right (hk : ∀ x ∈ adr 0 obs, keepB f x = true) (hc : Clean obs) : rightB f (adr 0 obs) = true := by
  unfold rightB
  rw [List.all_eq_true]
  intro x hx
  obtain ⟨pre, post, h1, _⟩ := mem_split hx
  have h2 := (hc x.2 (by rw [h1]; simp)).2
  have h3 : okX f (adr 0 obs) x = true := by
    unfold okX
    rw [List.all_eq_true]
    exact fun v hv => (whole_word hk (h2 v hv)).1
  rw [h3]; simp
theorem whole_new {C : Cx} (ho : C.obs = obs) (hk : ∀ x ∈ adr 0 obs, keepB C.f x = true) (hc : Clean obs) : C.new = obs := by
  have hL : C.L = adr 0 obs := by unfold Cx.L; rw [ho]
  unfold Cx.new
  rw [hL]
  have h1 : (adr 0 obs).filter (keepB C.f) = adr 0 obs := by rw [List.filter_eq_self]; exact hk
  rw [h1]
  conv => rhs; rw [← adr_snd 0 obs]
  refine List.map_congr_left fun x hx => ?_
  obtain ⟨pre, post, h2, _⟩ := mem_split hx
  have h3 := (hc x.2 (by rw [h2]; simp)).2
  unfold mvX
  refine Prod.ext rfl ?_
  show (tab x.2.2.length fun i => dstW C.f C.L x (i + 1)) = x.2.2
  refine List.ext_getElem? fun i => ?_
  by_cases hi : i < x.2.2.length
  · rw [tab_get _ hi, List.getElem?_eq_getElem hi]
    have hg : x.2.2.getD i 0 = x.2.2[i] := by simp [List.getD, hi]
    unfold dstW
    rw [if_neg (by omega), Nat.add_sub_cancel, hg, hL]
    by_cases hp : i + 1 ≤ ptrs x.2.1
    · rw [if_pos hp, (whole_word hk (h3 x.2.2[i] ?_)).2]
      refine List.mem_of_getElem? (i := i) ?_
      rw [List.getElem?_take_of_lt (by omega), List.getElem?_eq_getElem hi]
    · rw [if_neg hp]
  · rw [List.getElem?_eq_none (by rw [tab_len]; omega), List.getElem?_eq_none (by omega)]
end
end Go.Proofs.Ytklhdilbmpndkaa

namespace Go.Proofs.Ytklhdilbmpndkaa
set_option maxRecDepth 20000
open Go.RowKit
set_option linter.unusedVariables false
set_option linter.unusedSimpArgs false


section
variable {C : Cx} {size : Nat} {base : Nat → Int} {Q Q0 : Pm} {w0 w w' : World} {t : Int} {V V' : Nat → Prop}
theorem Run.old (R : Run C size base w0 w t Q) : Below w0.heap.size w0 w := by
  obtain ⟨M, h, _⟩ := R.mem; exact h.old
theorem phi_pos (R : Run C size base w0 w t Q) (hl : Q.left ≠ 0) : 0 < Phi C Q := by
  obtain ⟨j, hj, hc⟩ := goes_on R.cok R.inv hl
  have := phi_falls R.inv hj hc
  omega
theorem InRnd.mono (h : InRnd C Q0 Q V) (hv : ∀ j, V' j → V j) : InRnd C Q0 Q V' := by
  rcases h with h | h | ⟨h1, h2⟩
  · exact .inl h
  · exact .inr (.inl h)
  · exact .inr (.inr ⟨h1, fun j hj => h2 j (hv j hj)⟩)
end
end Go.Proofs.Ytklhdilbmpndkaa

namespace Go.Proofs.Ytklhdilbmpndkaa
set_option maxRecDepth 20000
open Go.RowKit
set_option linter.unusedVariables false
set_option linter.unusedSimpArgs false


theorem Nodes.take {w : World} {A : Option Addr} {ds : List Nd} (h : Nodes w A ds) (k : Nat) : Nodes w A (ds.take k) := fun i d hd => by
  rw [List.getElem?_take] at hd
  split at hd
  · exact h i d hd
  · simp at hd
theorem CameN.take {w : World} {A : Option Addr} {n : Nat} {ds : List Nd} (h : CameN w A n ds) (k : Nat) : CameN w A (min n k) (ds.take k) :=
  ⟨by rw [List.length_take, h.1, Nat.min_comm], h.2.1.take k, fun d hd => h.2.2.1 d (List.mem_of_mem_take hd), Nat.le_trans (Nat.min_le_left _ _) h.2.2.2⟩
/-- What was there first is there in a world between. -/
theorem below_first {w w0 w' : World} (h : Below w.heap.size w w') (k : Below w0.heap.size w0 w') (hs : w.heap.size ≤ w0.heap.size) : Below w.heap.size w w0 :=
  ⟨by rw [← k.os, h.os], by rw [← k.tape, h.tape], by rw [← k.output, h.output], hs, fun i hi => by rw [← k.block i (Nat.lt_of_lt_of_le hi hs), h.block i hi]⟩
set_option maxRecDepth 1000000 in
set_option maxHeartbeats 4000000 in
theorem whole_far (A0 B0 : Option Addr) (n cN m cR : Nat) (x0 x1 : Int) (ds : List Nd) (w : World) (hd : CameN w A0 n ds) (hm : m ≤ maxLen) (h : fewB ds m = false) :
    Calls Try.prog 5 #[.agg #[.slice A0 n cN, .slice B0 m cR], .agg #[.int .u8 x0, .int .u8 x1]] w fun e w' => e = .returned (.bool true) ∧ Below w.heap.size w w' := by
  have HD := Lib.hid hd
  have b0 : Below w.heap.size w ((w.alloc (.cells #[.slice A0 n cN, .slice B0 m cR] 25)).alloc (.cells #[.int .u8 x0, .int .u8 x1] 66)) := ((Below.refl _ w).alloc (Nat.le_refl _) _).alloc (by simp) _
  have LX : Lies ((w.alloc (.cells #[.slice A0 n cN, .slice B0 m cR] 25)).alloc (.cells #[.int .u8 x0, .int .u8 x1] 66)) w.heap.size 25 [.slice A0 n cN, .slice B0 m cR] := (Lies.new w 25 [_, _]).alloc _
  have LY : Lies ((w.alloc (.cells #[.slice A0 n cN, .slice B0 m cR] 25)).alloc (.cells #[.int .u8 x0, .int .u8 x1] 66)) (w.heap.size + 1) 66 [.int .u8 x0, .int .u8 x1] := by
    have := Lies.new (w.alloc (.cells #[.slice A0 n cN, .slice B0 m cR] 25)) 66 [.int .u8 x0, .int .u8 x1]
    rw [World.size_alloc] at this; exact this
  have HSZ1 : Hid (w.heap.size + 2 ≤ ((w.alloc (.cells #[.slice A0 n cN, .slice B0 m cR] 25)).alloc (.cells #[.int .u8 x0, .int .u8 x1] 66)).heap.size) := Lib.hid (by simp)
  obtain ⟨w1, hw1⟩ : ∃ w1, (w.alloc (.cells #[.slice A0 n cN, .slice B0 m cR] 25)).alloc (.cells #[.int .u8 x0, .int .u8 x1] 66) = w1 := ⟨_, rfl⟩
  rw [hw1] at b0 LX LY HSZ1
  have HW1 := Lib.hid hw1
  have HB1 := Lib.hid b0
  have HLX := Lib.hid LX
  have HLY := Lib.hid LY
  clear b0 LX LY hw1
  clear hd
  unfold maxLen at hm
  go_enter Try.func5, Try.ntmps5
  go_upto_region 1 with fail
  rw [HW1.out]
  go_wp2_with fail
  refine (awake_any _).mono ?_
  rintro e w2 ⟨rfl, hb2⟩
  have L2 := HLX.out.kept hb2
  have y0 : w2.cell? ⟨w.heap.size, 0, none⟩ = some (.slice A0 n cN) := L2.cell 0
  have y1 : w2.cell? ⟨w.heap.size, 1, none⟩ = some (.slice B0 m cR) := L2.cell 1
  have HB2 := Lib.hid (on HB1.out HB1.out.size hb2)
  clear hb2 L2
  go_wp2_with fail
  refine (few_any A0 B0 n cN m cR ds ⟨HD.out.1, HD.out.2.1.kept HB2.out, HD.out.2.2⟩ (by unfold maxLen; exact hm)).mono ?_
  rintro e w3 ⟨rfl, hb3⟩
  rw [h]
  have HB3 := Lib.hid (on HB2.out HB2.out.size hb3)
  clear hb3 y0 y1 h
  go_wp2_with fail
  refine (awake_any _).mono ?_
  rintro e w4 ⟨rfl, hb4⟩
  have HB4 := Lib.hid (on HB3.out HB3.out.size hb4)
  clear hb4
  go_wp2
  go_ret
  exact ⟨rfl, HB4.out⟩

set_option maxRecDepth 1000000 in
set_option maxHeartbeats 4000000 in
theorem whole_near (A0 B0 : Option Addr) (n cN m cR : Nat) (x0 x1 : Int) (ds : List Nd) (rs : List Int) (w : World) (hd : CameN w A0 n ds) (hnc0 : n ≤ cN ∧ cN ≤ maxLen) (hr : Mk.Came .u8 w B0 m rs) (hf : fewB ds m = true) (hx0 : 0 ≤ x0 ∧ x0 ≤ 255) (hx1 : 0 ≤ x1 ∧ x1 ≤ 255) :
    Calls Try.prog 5 #[.agg #[.slice A0 n cN, .slice B0 m cR], .agg #[.int .u8 x0, .int .u8 x1]] w fun e w' => e = .returned (.bool true) ∧ Below w.heap.size w w' := by
  have HD := Lib.hid hd
  have HR := Lib.hid hr
  have HF := Lib.hid hf
  have hfew := hf
  unfold fewB at hfew
  simp only [Bool.and_eq_true, List.all_eq_true, decide_eq_true_eq] at hfew
  obtain ⟨he, hn14, hm14⟩ := hfew
  rw [hd.1] at hn14
  have HE := Lib.hid he
  have HX0 := Lib.hid hx0
  have HX1 := Lib.hid hx1
  have hnc := hnc0.1
  obtain ⟨n2, hn2⟩ : ∃ n2, min n 2 = n2 := ⟨_, rfl⟩
  have hn2c : n2 ≤ n := by omega
  have hn2d : n2 ≤ 2 := by omega
  have hmn : (if (2 : Int) < (n : Int) then (2 : Int) else (n : Int)) = (n2 : Int) := by split <;> omega
  have hcm := hnc0.2
  unfold maxLen at hcm
  have HN2 := Lib.hid hn2
  have b0 : Below w.heap.size w ((w.alloc (.cells #[.slice A0 n cN, .slice B0 m cR] 25)).alloc (.cells #[.int .u8 x0, .int .u8 x1] 66)) := ((Below.refl _ w).alloc (Nat.le_refl _) _).alloc (by simp) _
  have LX : Lies ((w.alloc (.cells #[.slice A0 n cN, .slice B0 m cR] 25)).alloc (.cells #[.int .u8 x0, .int .u8 x1] 66)) w.heap.size 25 [.slice A0 n cN, .slice B0 m cR] := (Lies.new w 25 [_, _]).alloc _
  have LY : Lies ((w.alloc (.cells #[.slice A0 n cN, .slice B0 m cR] 25)).alloc (.cells #[.int .u8 x0, .int .u8 x1] 66)) (w.heap.size + 1) 66 [.int .u8 x0, .int .u8 x1] := by
    have := Lies.new (w.alloc (.cells #[.slice A0 n cN, .slice B0 m cR] 25)) 66 [.int .u8 x0, .int .u8 x1]
    rw [World.size_alloc] at this; exact this
  have HSZ1 : Hid (w.heap.size + 2 ≤ ((w.alloc (.cells #[.slice A0 n cN, .slice B0 m cR] 25)).alloc (.cells #[.int .u8 x0, .int .u8 x1] 66)).heap.size) := Lib.hid (by simp)
  obtain ⟨w1, hw1⟩ : ∃ w1, (w.alloc (.cells #[.slice A0 n cN, .slice B0 m cR] 25)).alloc (.cells #[.int .u8 x0, .int .u8 x1] 66) = w1 := ⟨_, rfl⟩
  rw [hw1] at b0 LX LY HSZ1
  have HW1 := Lib.hid hw1
  have HB1 := Lib.hid b0
  have HLX := Lib.hid LX
  have HLY := Lib.hid LY
  clear b0 LX LY hw1
  clear hd hr hf he hx0 hx1 hnc0 hn2
  go_enter Try.func5, Try.ntmps5
  go_upto_region 1 with fail
  rw [HW1.out]
  go_wp2_with fail
  refine (awake_any _).mono ?_
  rintro e w2 ⟨rfl, hb2⟩
  have L2 := HLX.out.kept hb2
  have y0 : w2.cell? ⟨w.heap.size, 0, none⟩ = some (.slice A0 n cN) := L2.cell 0
  have y1 : w2.cell? ⟨w.heap.size, 1, none⟩ = some (.slice B0 m cR) := L2.cell 1
  have HL2 := Lib.hid L2
  have HB2 := Lib.hid (on HB1.out HB1.out.size hb2)
  have HY2 := Lib.hid (HLY.out.kept hb2)
  clear hb2 L2
  go_wp2_with fail
  refine (few_any A0 B0 n cN m cR ds ⟨HD.out.1, HD.out.2.1.kept HB2.out, HD.out.2.2⟩ (by unfold maxLen; omega)).mono ?_
  rintro e w3 ⟨rfl, hb3⟩
  rw [HF.out]
  have L3 := HL2.out.kept hb3
  have y2 : w3.cell? ⟨w.heap.size, 0, none⟩ = some (.slice A0 n cN) := L3.cell 0
  have y3 : w3.cell? ⟨w.heap.size, 1, none⟩ = some (.slice B0 m cR) := L3.cell 1
  have f2 := L3.frozen 0
  have HL3 := Lib.hid L3
  have HB3 := Lib.hid (on HB2.out HB2.out.size hb3)
  have HY3 := Lib.hid (HY2.out.kept hb3)
  have lt3 : w.heap.size < w3.heap.size := L3.lt
  clear hb3 L3 y0 y1
  go_wp2_with fail
  have HS3 := Lib.hid (HB3.out.setCell (p := ⟨w.heap.size, 0, none⟩) (Nat.le_refl _) (.slice A0 n2 cN))
  have HYS := Lib.hid (HY3.out.far (p := ⟨w.heap.size, 0, none⟩) (by show w.heap.size + 1 ≠ w.heap.size; omega) (.slice A0 n2 cN))
  have HZs := Lib.hid (size_small (ds := ds.take 2) (fun d hd => HE.out d (List.mem_of_mem_take hd)) n2 1 (by rw [List.length_take]; omega))
  have HCN : Hid (CameN (w3.setCell ⟨w.heap.size, 0, none⟩ (.slice A0 n2 cN)) A0 n2 (ds.take 2)) := Lib.hid (by
    have h := HD.out.take 2
    rw [HN2.out] at h
    exact ⟨h.1, h.2.1.kept HS3.out, h.2.2⟩)
  have HCR : Hid (Mk.Came .u8 (w3.setCell ⟨w.heap.size, 0, none⟩ (.slice A0 n2 cN)) B0 m rs) := Lib.hid ⟨HR.out.1, HR.out.2.1.kept HS3.out, HR.out.2.2⟩
  have HLE2 : Hid ((ds.take 2).length ≤ 2) := Lib.hid (by rw [List.length_take]; omega)
  obtain ⟨d2, hd2⟩ : ∃ d2, ds.take 2 = d2 := ⟨_, rfl⟩
  rw [hd2] at HZs HCN HLE2
  have HE2 : Hid (∀ d ∈ d2, d.edges.length ≤ 10) := Lib.hid (by rw [← hd2]; exact fun d hd => HE.out d (List.mem_of_mem_take hd))
  clear hd2
  obtain ⟨w3s, hw3s⟩ : ∃ x, w3.setCell ⟨w.heap.size, 0, none⟩ (.slice A0 n2 cN) = x := ⟨_, rfl⟩
  rw [hw3s] at HS3 HYS HCN HCR ⊢
  clear hw3s y2 y3 f2 lt3
  refine (build_any A0 B0 n2 cN m cR 1 d2 rs HCN.out HCR.out (by omega) hm14 HE2.out (by omega)).mono ?_
  rintro e w4 ⟨g, gw, gb, base, obs, tail, A, n', c, xs, B, cap, rts, rfl, BT⟩
  obtain ⟨Z, hZ⟩ : ∃ Z, sizeG d2 1 n2 = Z := ⟨_, rfl⟩
  have hZs := HZs.out
  rw [hZ] at BT hZs ⊢
  have HZ1 : 1 ≤ Z := by rw [← hZ]; unfold sizeG; omega
  have bX := below_one w4 (.cells #[.int .i64 (Z : Int), .slice A n' c] 33)
  have HBT := Lib.hid (BT.kept bX)
  have HB4 := Lib.hid (on (on HS3.out HS3.out.size BT.old) (on HS3.out HS3.out.size BT.old).size bX)
  have HY4 := Lib.hid ((HYS.out.kept BT.old).kept bX)
  have HNF := Lib.hid (no_fill HLE2.out BT.heads)
  obtain ⟨w5, hw5⟩ : ∃ w5, w4.alloc (.cells #[.int .i64 (Z : Int), .slice A n' c] 33) = w5 := ⟨_, rfl⟩
  rw [hw5] at HBT HB4 HY4
  have HW5 := Lib.hid hw5
  clear BT bX hZ hw5 HZs hnc hmn hn2c hcm
  go_upto_region 5 with fail
  rw [HW5.out]
  go_wp2_with fail
  refine (size_z HBT.out.st Z HBT.out.len).mono ?_
  rintro e w6 ⟨rfl, rfl⟩
  go_wp2_with fail
  refine (Mk.new_yes (Z : Int) Z rfl _ HZ1 (by omega)).mono ?_
  rintro e w7 ⟨mg, mw, rfl, hb7, hmg, hmw, M7⟩
  have b8 := below_one w7 (.cells #[.pointer (some ⟨mg, 0, none⟩)] 36)
  have HB8 := Lib.hid (on hb7 hb7.size b8)
  have HM8 := Lib.hid (M7.kept b8)
  have hbm8 : Lies (w7.alloc (.cells #[.pointer (some ⟨mg, 0, none⟩)] 36)) w7.heap.size 36 [.pointer (some ⟨mg, 0, none⟩)] := Lies.new w7 36 [_]
  have hmgl := M7.own.lt
  have hmwl := M7.words.lt
  have hs7 := hb7.size
  obtain ⟨bm, hbm⟩ : ∃ bm, w7.heap.size = bm := ⟨_, rfl⟩
  have hs8 : (w7.alloc (.cells #[.pointer (some ⟨mg, 0, none⟩)] 36)).heap.size = bm + 1 := by rw [World.size_alloc, hbm]
  obtain ⟨w8, hw8⟩ : ∃ w8, w7.alloc (.cells #[.pointer (some ⟨mg, 0, none⟩)] 36) = w8 := ⟨_, rfl⟩
  rw [hw8] at HB8 HM8 hbm8 hs8
  rw [hbm] at hbm8 hmgl hmwl hs7
  have HBM8 := Lib.hid hbm8
  have HW8 := Lib.hid hw8
  have HBMe := Lib.hid hbm
  have hlo := HBT.out.lo
  have hhi := HBT.out.hi
  have hrm := HBT.out.room
  have HNE : Hid ((mg ≠ g ∧ mg ≠ gw ∧ mg ≠ gb ∧ mg ≠ bm ∧ mg ≠ w8.heap.size) ∧ (mw ≠ g ∧ mw ≠ gw ∧ mw ≠ gb ∧ mw ≠ bm ∧ mw ≠ w8.heap.size)) := Lib.hid (by omega)
  have HSZ8 := Lib.hid hs8
  have HMGL := Lib.hid (And.intro hmg hmw)
  have lx8 : w8.cell? ⟨bm, 0, none⟩ = some (.pointer (some ⟨mg, 0, none⟩)) := hbm8.cell 0
  have hZs2 := Lib.hid hZs
  clear hb7 M7 b8 hmg hmw hbm8 hmgl hmwl hs7 hs8 hbm hw8 hlo hhi hrm hZs hn2d
  go_upto_region 6 with fail
  rw [HW8.out, HBMe.out]
  go_wp2_with fail
  refine walk_any.mono ?_
  rintro e w9 ⟨rfl, hw9⟩
  have b9 := below_one w8 (.cells #[.pointer (some ⟨g, 0, none⟩)] 29)
  have hbh : Lies (w8.alloc (.cells #[.pointer (some ⟨g, 0, none⟩)] 29)) w8.heap.size 29 [.pointer (some ⟨g, 0, none⟩)] := Lies.new w8 29 [_]
  rw [← hw9] at b9 hbh
  have HB9 := Lib.hid (on HB8.out HB8.out.size b9)
  have HM9 := Lib.hid (HM8.out.kept b9)
  have HBM9 := Lib.hid (HBM8.out.kept b9)
  have HBH := Lib.hid hbh
  have HBT9 := Lib.hid (HBT.out.kept HB9.out)
  clear b9 hbh hw9 lx8
  go_wp2_with fail
  refine (mark_all HBT9.out.st HBT9.out.len HM9.out (fun p => Mk.bit_new _ _) HBM9.out HBH.out HNE.out.1 HNE.out.2).mono ?_
  rintro e w10 ⟨rfl, ws, M10, hbits, E10⟩
  have B10 : Below w6.heap.size w6 w10 := HB9.out.trans (E10.below HB9.out.size HMGL.out.1 HMGL.out.2)
  have HM10 := Lib.hid M10
  have HBITS := Lib.hid hbits
  have HT10 := Lib.hid (HBT.out.kept B10)
  have HB10 := Lib.hid (on HB4.out HB4.out.size B10)
  have HY10 := Lib.hid (HY4.out.kept B10)
  have lx : w10.cell? ⟨bm, 0, none⟩ = some (.pointer (some ⟨mg, 0, none⟩)) := (E10.lies HBM9.out HNE.out.1.2.2.2.1.symm HNE.out.2.2.2.2.1.symm).cell 0
  have yx0 : w10.cell? ⟨w.heap.size + 1, 0, none⟩ = some (.int .u8 x0) := HY10.out.cell 0
  have yx1 : w10.cell? ⟨w.heap.size + 1, 1, none⟩ = some (.int .u8 x1) := HY10.out.cell 1
  have hx0 := HX0.out.1
  have hx01 := HX0.out.2
  have hx1 := HX1.out.1
  have hx11 := HX1.out.2
  have hm0 : 0 ≤ x0 % 7 := by omega
  have hm1 : x0 % 7 < 7 := by omega
  have hm2 : 0 ≤ x1 % 20 := by omega
  have hm3 : x1 % 20 < 20 := by omega
  clear M10 hbits E10 B10 HB8 HM8 HBM8 HBM9 HBH HBT9 HM9 HB9
  go_upto_region 8 with fail
  obtain ⟨z7, hz7⟩ : ∃ z7 : Nat, x0 % 7 = (z7 : Int) := ⟨(x0 % 7).toNat, by omega⟩
  have hz7b : z7 < 7 := by omega
  rw [hz7]
  have enw : (1 : Int) + (z7 : Int) = ((1 + z7 : Nat) : Int) := by omega
  rw [enw]
  obtain ⟨nw, hnw⟩ : ∃ nw, 1 + z7 = nw := ⟨_, rfl⟩
  rw [hnw]
  have hnw1 : 1 ≤ nw := by omega
  have hnw2 : nw ≤ 7 := by omega
  clear hz7 enw hnw hz7b hm0 hm1 hx0 hx01 yx0
  have HIN : Hid (∀ o ∈ obs, ∀ z ∈ o.2, InR z) := Lib.hid fun o ho => (HT10.out.clean o ho).1
  have hzs := hZs2.out
  have HKP := Lib.hid (whole_keep HBITS.out HNF.out)
  have HRB := Lib.hid (whole_right HKP.out HT10.out.clean)
  obtain ⟨W, hW⟩ : ∃ W, wOf (x1 % 20) = W := ⟨_, rfl⟩
  obtain ⟨top, htop⟩ : ∃ top, (flat obs).length = top := ⟨_, rfl⟩
  obtain ⟨K, hK⟩ : ∃ K, K = (top + W - 1) / W := ⟨_, rfl⟩
  have hlenZ := HT10.out.len
  have HN := Lib.hid (snew_any HT10.out.st HM10.out (x1 % 20) nw W K top hW htop hK (by unfold InR; omega) hnw1 (by omega) HIN.out (by omega))
  have HTOP := Lib.hid htop
  clear hW hK htop hlenZ
  go_wp2_with fail
  refine HN.out.mono ?_
  rintro e w11 ⟨-, hyes, hb11⟩
  obtain ⟨w0, C, rfl, hSl, hCn, hCW, hCK, hCtop, hCf, hCo, hs⟩ := hyes HRB.out
  have hL : C.L = adr 0 obs := by unfold Cx.L; rw [hCo]
  have HB0 := Lib.hid (below_first hb11 hSl.old hs)
  have hSl2 : Sl w0 w11 C (Ms.new (flat obs ++ tail) (sgL C.f C.W C.K C.L C.L) C.top) := by rw [hCf, hCW, hCK, hL, hCtop]; exact hSl
  have hlenZ := HT10.out.len
  have hrun := run_begin HT10.out.st hCo hSl2 (by rw [hCf, hL]; exact HRB.out) HIN.out (by omega)
  have HS0 := Lib.hid hs
  have HCN := Lib.hid hCn
  have HCO := Lib.hid hCo
  obtain ⟨P, hP⟩ : ∃ P, 10 * (Z + 10) * (Z + 10) = P := ⟨_, rfl⟩
  have hphi0 : Phi C (Pm.init C (fun p => (flat obs ++ tail).getD p 0) C.aw0) ≤ P := by
    have := phi_init hrun.cok (by omega) C.aw0 (aw0_le hrun.cok)
    rw [hlenZ, hP] at this; exact this
  obtain ⟨Q0, hQ0⟩ : ∃ Q0, Pm.init C (fun p => (flat obs ++ tail).getD p 0) C.aw0 = Q0 := ⟨_, rfl⟩
  rw [hQ0] at hphi0 hrun
  have HRUN := Lib.hid hrun
  have HNEW : Hid (C.new = obs) := Lib.hid (whole_new hCo (by rw [hCf]; exact HKP.out) HT10.out.clean)
  have HPHI0 := Lib.hid hphi0
  have e1 : IntKind.i64.wrap ((Z : Int) + 10) = (Z : Int) + 10 := IntWalk.i64_in _ (by omega)
  have e2 : IntKind.i64.wrap (10 * ((Z : Int) + 10)) = 10 * ((Z : Int) + 10) := IntWalk.i64_in _ (by omega)
  have hPI : 10 * ((Z : Int) + 10) * ((Z : Int) + 10) = (P : Int) := by rw [← hP]; simp
  have hPb : P ≤ 600000 := by
    have h1 : (Z + 10) * (Z + 10) ≤ 241 * 241 := Nat.mul_le_mul (by omega) (by omega)
    rw [← hP, Nat.mul_assoc]; omega
  have e3 : IntKind.i64.wrap (10 * ((Z : Int) + 10) * ((Z : Int) + 10)) = (P : Int) := by rw [hPI]; exact IntWalk.i64_in _ (by omega)
  clear hyes hb11 hSl hCn hCW hCK hCtop hCf hCo hs hL hSl2 hlenZ hrun hphi0 hQ0 hP hPI HN lx yx1 hm2 hm3 hx1 hx11
  go_wp2_with fail
  trace_state
  go_loopw [13] (fun i wr => ∃ (k : Nat) (Q : Pm) (t : Int), k ≤ P ∧ i = .int .i64 (k : Nat) ∧ Run C (flat obs ++ tail).length (fun p => (flat obs ++ tail).getD p 0) w0 wr t Q ∧ (Q.left = 0 ∨ Phi C Q + k ≤ P)) (fun i _ => P - (intOf i).toNat)
  case atStart => exact ⟨0, Q0, 0, Nat.zero_le _, rfl, HRUN.out, .inr (by have := HPHI0.out; omega)⟩
  case round =>
    obtain ⟨k, Q, t, hk, rfl, hR, hphi⟩ := hrel
    have HR1 := Lib.hid hR
    have HPH := Lib.hid hphi
    have HBr : Hid (Below w10.heap.size w10 wr) := Lib.hid (HB0.out.trans (hR.old.mono HS0.out))
    have HSZ := Lib.hid (size_z (HT10.out.kept HBr.out).st Z HT10.out.len)
    have HO := Lib.hid (run_over hR)
    by_cases hl : Q.left = 0
    · have HLE := Lib.hid hl
      have dO : decide (Q.left = 0) = true := by simp [hl]
      rw [dO] at HO
      have HTT : Hid (C.T = top ∧ C.top = top) := Lib.hid (by
        have h1 := new_len hR.cok
        have h2 := hR.cok.top_
        rw [HNEW.out, HTOP.out] at h1
        rw [HCO.out, HTOP.out] at h2
        exact ⟨h1.symm, h2.symm⟩)
      have HHY := Lib.hid (sheap_yes HCO.out HT10.out.st.fine hR hl)
      clear hl dO hR hphi
      rcases Nat.lt_or_ge k P with hkP | hkP
      · have dk : decide ((k : Int) < (P : Int)) = true := by simp; omega
        go_wp2_with fail
        refine HSZ.out.mono ?_
        rintro e wx ⟨rfl, hwx⟩
        rw [hwx]; clear hwx wx
        go_wp2_with fail
        refine HSZ.out.mono ?_
        rintro e wx ⟨rfl, hwx⟩
        rw [hwx]; clear hwx wx
        go_wp2_with fail
        refine HO.out.mono ?_
        rintro e wx ⟨rfl, hwx⟩
        rw [← hwx]; clear hwx wx
        go_upto_region 19 with fail
        clear dk hkP
        go_wp2_with fail
        refine HHY.out.mono ?_
        rintro e w13 ⟨g', gw', gb', rfl, hb13, hH⟩
        have hH2 : ∃ bs, HeapAt w13 g' gw' gb' (flat obs ++ tail) top bs := by
          rw [HNEW.out, HTT.out.1, HTT.out.2, Nat.sub_self] at hH
          simp only [List.replicate_zero, List.append_nil] at hH
          exact ⟨_, hH⟩
        obtain ⟨bs, hH3⟩ := hH2
        have HH := Lib.hid hH3
        have HBx := Lib.hid (on HBr.out HBr.out.size hb13)
        have HSx := Lib.hid (HT10.out.kept HBx.out).st.lies
        rw [HTOP.out] at HSx
        clear hb13 hH hH3
        go_wp2_with fail
        refine (top_any HH.out).mono ?_
        rintro e wx ⟨rfl, hwx⟩
        rw [← hwx]; clear hwx wx
        go_wp2_with fail
        refine (top_any HSx.out).mono ?_
        rintro e wx ⟨rfl, hwx⟩
        rw [← hwx]; clear hwx wx
        have HW1 := Lib.hid (words_any HSx.out)
        rw [HT10.out.len] at HW1
        obtain ⟨l1, hl1⟩ : ∃ l1, w13.heap.size = l1 := ⟨_, rfl⟩
        rw [hl1] at HW1
        have HL1 := Lib.hid hl1
        clear hl1
        go_wp2_with fail
        refine HW1.out.mono ?_
        rintro e w14 ⟨rfl, hL14, hb14⟩
        have HL14 := Lib.hid hL14
        have HB14 := Lib.hid (show Below w13.heap.size w13 w14 by rw [HL1.out]; exact hb14)
        clear hL14 hb14
        go_wp2_with fail
        go_loopw [115] (fun i wr => ∃ j : Nat, j ≤ Z ∧ i = .int .i64 (j : Nat) ∧ Below w14.heap.size w14 wr) (fun i _ => Z - (intOf i).toNat)
        case atStart => exact ⟨0, Nat.zero_le _, rfl, Below.refl _ _⟩
        case round =>
          obtain ⟨j, hj, rfl, hb15⟩ := hrel
          have HB15 := Lib.hid (on HB14.out HB14.out.size hb15)
          have HB15a := Lib.hid hb15
          have HL15 := Lib.hid (HL14.out.kept hb15)
          by_cases hjZ : j < Z
          · have hjl : j < (flat obs ++ tail).length := by rw [HT10.out.len]; exact hjZ
            obtain ⟨z, hz⟩ : ∃ z, (flat obs ++ tail)[j]? = some z := ⟨_, List.getElem?_eq_getElem hjl⟩
            have HZZ := Lib.hid hz
            have c1 : wr.cell? ⟨l1, j, none⟩ = some (.int .i64 z) := by rw [HL15.out.cell, List.getElem?_map, hz]; rfl
            have ea : (⟨l1, 0, none⟩ : Addr).add j = ⟨l1, j, none⟩ := add_at l1 j
            have j0 : (0 : Int) ≤ (j : Int) := by omega
            have j1 : (j : Int) < (Z : Int) := by omega
            have HW2 := Lib.hid (words_any (HH.out.kept HB15.out))
            rw [HT10.out.len] at HW2
            obtain ⟨l2, hl2⟩ : ∃ l2, wr.heap.size = l2 := ⟨_, rfl⟩
            have HL2 := Lib.hid hl2
            clear hz hjl hb15 hl2
            go_wp2_with fail
            refine HW2.out.mono ?_
            rintro e w16 ⟨rfl, hL16, hb16⟩
            rw [HL2.out] at hL16 ⊢
            have c2 : w16.cell? ⟨l2, j, none⟩ = some (.int .i64 z) := by rw [hL16.cell, List.getElem?_map, HZZ.out]; rfl
            have ea2 : (⟨l2, 0, none⟩ : Addr).add j = ⟨l2, j, none⟩ := add_at l2 j
            have HB16 := Lib.hid (on HB15a.out HB15a.out.size hb16)
            have dz : (z != z) = false := by simp
            clear hL16 hb16 c1
            go_wp2_with fail
            exact ⟨⟨j + 1, by omega, by go_num, HB16.out⟩, by simp [intOf]; omega⟩
          · obtain rfl : j = Z := by omega
            clear hb15
            go_wp2_with fail
            go_ret
            exact ⟨rfl, on HB10.out HB10.out.size (on HBx.out HBx.out.size HB15.out)⟩
      · have dk : decide ((k : Int) < (P : Int)) = false := by simp; omega
        go_wp2_with fail
        refine HSZ.out.mono ?_
        rintro e wx ⟨rfl, hwx⟩
        rw [hwx]; clear hwx wx
        go_wp2_with fail
        refine HSZ.out.mono ?_
        rintro e wx ⟨rfl, hwx⟩
        rw [hwx]; clear hwx wx
        go_upto_region 19 with fail
        clear dk hkP
        go_wp2_with fail
        refine HHY.out.mono ?_
        rintro e w13 ⟨g', gw', gb', rfl, hb13, hH⟩
        have hH2 : ∃ bs, HeapAt w13 g' gw' gb' (flat obs ++ tail) top bs := by
          rw [HNEW.out, HTT.out.1, HTT.out.2, Nat.sub_self] at hH
          simp only [List.replicate_zero, List.append_nil] at hH
          exact ⟨_, hH⟩
        obtain ⟨bs, hH3⟩ := hH2
        have HH := Lib.hid hH3
        have HBx := Lib.hid (on HBr.out HBr.out.size hb13)
        have HSx := Lib.hid (HT10.out.kept HBx.out).st.lies
        rw [HTOP.out] at HSx
        clear hb13 hH hH3
        go_wp2_with fail
        refine (top_any HH.out).mono ?_
        rintro e wx ⟨rfl, hwx⟩
        rw [← hwx]; clear hwx wx
        go_wp2_with fail
        refine (top_any HSx.out).mono ?_
        rintro e wx ⟨rfl, hwx⟩
        rw [← hwx]; clear hwx wx
        have HW1 := Lib.hid (words_any HSx.out)
        rw [HT10.out.len] at HW1
        obtain ⟨l1, hl1⟩ : ∃ l1, w13.heap.size = l1 := ⟨_, rfl⟩
        rw [hl1] at HW1
        have HL1 := Lib.hid hl1
        clear hl1
        go_wp2_with fail
        refine HW1.out.mono ?_
        rintro e w14 ⟨rfl, hL14, hb14⟩
        have HL14 := Lib.hid hL14
        have HB14 := Lib.hid (show Below w13.heap.size w13 w14 by rw [HL1.out]; exact hb14)
        clear hL14 hb14
        go_wp2_with fail
        go_loopw [115] (fun i wr => ∃ j : Nat, j ≤ Z ∧ i = .int .i64 (j : Nat) ∧ Below w14.heap.size w14 wr) (fun i _ => Z - (intOf i).toNat)
        case atStart => exact ⟨0, Nat.zero_le _, rfl, Below.refl _ _⟩
        case round =>
          obtain ⟨j, hj, rfl, hb15⟩ := hrel
          have HB15 := Lib.hid (on HB14.out HB14.out.size hb15)
          have HB15a := Lib.hid hb15
          have HL15 := Lib.hid (HL14.out.kept hb15)
          by_cases hjZ : j < Z
          · have hjl : j < (flat obs ++ tail).length := by rw [HT10.out.len]; exact hjZ
            obtain ⟨z, hz⟩ : ∃ z, (flat obs ++ tail)[j]? = some z := ⟨_, List.getElem?_eq_getElem hjl⟩
            have HZZ := Lib.hid hz
            have c1 : wr.cell? ⟨l1, j, none⟩ = some (.int .i64 z) := by rw [HL15.out.cell, List.getElem?_map, hz]; rfl
            have ea : (⟨l1, 0, none⟩ : Addr).add j = ⟨l1, j, none⟩ := add_at l1 j
            have j0 : (0 : Int) ≤ (j : Int) := by omega
            have j1 : (j : Int) < (Z : Int) := by omega
            have HW2 := Lib.hid (words_any (HH.out.kept HB15.out))
            rw [HT10.out.len] at HW2
            obtain ⟨l2, hl2⟩ : ∃ l2, wr.heap.size = l2 := ⟨_, rfl⟩
            have HL2 := Lib.hid hl2
            clear hz hjl hb15 hl2
            go_wp2_with fail
            refine HW2.out.mono ?_
            rintro e w16 ⟨rfl, hL16, hb16⟩
            rw [HL2.out] at hL16 ⊢
            have c2 : w16.cell? ⟨l2, j, none⟩ = some (.int .i64 z) := by rw [hL16.cell, List.getElem?_map, HZZ.out]; rfl
            have ea2 : (⟨l2, 0, none⟩ : Addr).add j = ⟨l2, j, none⟩ := add_at l2 j
            have HB16 := Lib.hid (on HB15a.out HB15a.out.size hb16)
            have dz : (z != z) = false := by simp
            clear hL16 hb16 c1
            go_wp2_with fail
            exact ⟨⟨j + 1, by omega, by go_num, HB16.out⟩, by simp [intOf]; omega⟩
          · obtain rfl : j = Z := by omega
            clear hb15
            go_wp2_with fail
            go_ret
            exact ⟨rfl, on HB10.out HB10.out.size (on HBx.out HBx.out.size HB15.out)⟩
    · have HNL := Lib.hid hl
      have hkP : k < P := by
        have := phi_pos hR hl
        rcases hphi with h | h
        · exact absurd h hl
        · omega
      have dO : decide (Q.left = 0) = false := by simp [hl]
      rw [dO] at HO
      have dk : decide ((k : Int) < (P : Int)) = true := by simp; omega
      clear hl dO hR hphi
      go_wp2_with fail
      refine HSZ.out.mono ?_
      rintro e wx ⟨rfl, hwx⟩
      rw [hwx]; clear hwx wx
      go_wp2_with fail
      refine HSZ.out.mono ?_
      rintro e wx ⟨rfl, hwx⟩
      rw [hwx]; clear hwx wx
      go_wp2_with fail
      refine HO.out.mono ?_
      rintro e wx ⟨rfl, hwx⟩
      rw [← hwx]; clear hwx wx dk
      go_wp2_with fail
      go_loopw [91] (fun i wr => ∃ (j : Nat) (Q' : Pm) (t' : Int), j ≤ nw ∧ i = .int .i64 (j : Nat) ∧ Run C (flat obs ++ tail).length (fun p => (flat obs ++ tail).getD p 0) w0 wr t' Q' ∧ InRnd C Q Q' (fun x => x < j)) (fun i _ => nw - (intOf i).toNat)
      case atStart => exact ⟨0, Q, t, Nat.zero_le _, rfl, HR1.out, (within_start Q).mono fun j h => absurd h (Nat.not_lt_zero _)⟩
      case round =>
        obtain ⟨j, Q', t', hj, rfl, hR', hrnd⟩ := hrel
        have HR2 := Lib.hid hR'
        have HRND := Lib.hid hrnd
        by_cases hjn : j < nw
        · have HST := Lib.hid (run_step hR' (show j < C.n by rw [HCN.out]; exact hjn))
          clear hR' hrnd
          go_wp2_with fail
          refine HST.out.mono ?_
          rintro e w12 ⟨rfl, t2, hR2, -, -⟩
          have HR3 := Lib.hid hR2
          clear hR2 HST
          generalize (if Q'.left = 0 then (12 : Int) else 0) = res at *
          go_wp2_with fail
          refine ⟨⟨j + 1, stepO C Q' j, t2, by omega, by go_num, HR3.out, (within_step HR2.out.inv (show j < C.n by rw [HCN.out]; exact hjn) HRND.out).mono fun x hx => by show x < j ∨ x = j; omega⟩, by simp [intOf]; omega⟩
        · obtain rfl : j = nw := by omega
          clear hR' hrnd
          go_wp2_with fail
          refine ⟨⟨k + 1, Q', t', by omega, by go_num, HR2.out, ?_⟩, by simp [intOf]; omega⟩
          rcases within_end HR2.out.cok HR1.out.inv HRND.out (fun x hx => by rw [HCN.out] at hx; exact hx) with h | h
          · exact .inl h
          · refine .inr ?_
            rcases HPH.out with h2 | h2
            · exact absurd h2 HNL.out
            · omega
end Go.Proofs.Ytklhdilbmpndkaa

namespace Go.Proofs.Ytklhdilbmpndkaa
set_option maxRecDepth 20000
open Go.ChangeShapes Go.WideShapes Go.ChangeAt Go.RowKit Go.Joins Go.Deep
theorem reads_cap {H : Type} {enc : TypeId × Value → H} {W : World} {sp : Nat → Bool} {held : Bool} {A B : Option Addr} {n c m c2 : Nat} {d : DataW H} {p : List MemPlace} (h : DataW.Trod enc Try.prog W 0 sp held 25 (.agg #[.slice A n c, .slice B m c2]) d p) : n ≤ c ∧ c ≤ maxLen := by
  obtain ⟨fuel, hf0⟩ := h
  have hcs : (Value.agg #[.slice A n c, .slice B m c2]).cells.toList = [.slice A n c, .slice B m c2] := rfl
  rw [hcs] at hf0
  obtain ⟨xs, m2, _, _, hcl, hxl, hf⟩ := DataW.trod_struct Try.underlying25 hf0
  have f0 : DataW.trod enc Try.prog W 0 sp held m2 22 (([Value.slice A n c, .slice B m c2].drop 0).take (Try.prog.cellsOf 22)) = xs[0]? := hf 0 _ rfl
  rw [cells22] at f0
  have hxl2 : xs.length = 2 := hxl
  rw [List.getElem?_eq_getElem (by omega)] at f0
  rcases open_slice Try.underlying22 f0 with ⟨hcs, _⟩ | ⟨x, l, c3, m3, n3, D, Pl, hcs, _, hl, hm, _⟩
  · simp at hcs
    obtain ⟨_, rfl, rfl⟩ := hcs
    exact ⟨Nat.le_refl _, Nat.zero_le _⟩
  · simp at hcs
    obtain ⟨_, rfl, rfl⟩ := hcs
    exact ⟨hl, hm⟩
theorem whole_walk (A0 B0 : Option Addr) (n cN m cR : Nat) (x0 x1 : Int) (ds : List Nd) (rs : List Int) (w : World) (hN : CameN w A0 n ds) (hnc : n ≤ cN ∧ cN ≤ maxLen) (hR : Mk.Came .u8 w B0 m rs) (hm : m ≤ maxLen) (hx : (0 ≤ x0 ∧ x0 ≤ 255) ∧ (0 ≤ x1 ∧ x1 ≤ 255)) :
    Calls Try.prog 5 #[.agg #[.slice A0 n cN, .slice B0 m cR], .agg #[.int .u8 x0, .int .u8 x1]] w fun e w' => e = .returned (.bool true) ∧ Below w.heap.size w w' := by
  cases hf : fewB ds m with
  | false => exact whole_far A0 B0 n cN m cR x0 x1 ds w hN hm hf
  | true => exact whole_near A0 B0 n cN m cR x0 x1 ds rs w hN hnc hR hf hx.1 hx.2
end Go.Proofs.Ytklhdilbmpndkaa
