/- What the reference's Split answers where it refuses. -/
import Derived.Test.YtibfhpbklnpknaaRPl2
namespace Go.Proofs.Ytibfhpbklnpknaa
open Go.RowKit
set_option linter.unusedVariables false
set_option linter.unusedSimpArgs false

/-- What the reference's Split leaves. -/
def SplitPost (w : World) (base Z : Nat) (obs : List Ob) (r : Int × Int × List Ob) (e : Ending) (w' : World) : Prop :=
  (∃ A' n' c' xs', e = .returned (.tuple #[.agg #[.int .i64 (Z : Int), .slice A' n' c'], .int .i64 r.1, .int .i64 r.2.1]) ∧ r.2.2.length = n' ∧ Owned w' base A' n' c' r.2.2 xs') ∧ Below w.heap.size w w'

theorem post_same {w w' : World} {base Z n c : Nat} {A : Option Addr} {obs : List Ob} {xs : List Value} (OWN : Owned w base A n c obs xs) (hn : obs.length = n) (x : Int) (hb : Below w.heap.size w w') :
    SplitPost w base Z obs (0, x, obs) (.returned (.tuple #[.agg #[.int .i64 (Z : Int), .slice A n c], .int .i64 0, .int .i64 x])) w' :=
  ⟨⟨A, n, c, xs, rfl, hn, OWN.kept hb⟩, hb⟩

set_option maxRecDepth 100000 in
set_option maxHeartbeats 2000000 in
theorem rsplit_no {w : World} {base : Nat} {xs : List Value} (Z : Nat) (A : Option Addr) (n c : Nat) (obs : List Ob) (hf : Fine obs) (OWN : Owned w base A n c obs xs) (hn : obs.length = n) (hn6 : n ≤ 65536) (a k l p : Int) (h : (splitF obs a k l p).2.1 ≠ 0) :
    Calls Try.prog 18 #[.agg #[.int .i64 (Z : Int), .slice A n c], .int .i64 a, .agg #[.int .i64 k, .int .i64 l, .int .i64 p]] w (SplitPost w base Z obs (splitF obs a k l p)) := by
  have HF := Lib.hid hf
  have HOW := Lib.hid OWN
  have Hn := Lib.hid hn
  clear hf OWN hn
  obtain ⟨Wp, hWp⟩ : ∃ Wp, Wp = ((w.alloc (.cells #[.int .i64 (Z : Int), .slice A n c] 36)).alloc (.cells #[.int .i64 k, .int .i64 l, .int .i64 p] 40)).alloc (.cells #[.int .i64 0, .slice none 0 0] 36) := ⟨_, rfl⟩
  have bp : Below w.heap.size w Wp := by
    rw [hWp]
    repeat (first | exact Below.refl _ _ | refine Below.alloc ?_ (by simp <;> omega) _)
  have Lh : Lies Wp w.heap.size 36 [.int .i64 (Z : Int), .slice A n c] := by rw [hWp]; exact ((Lies.new w 36 [_, _]).alloc _).alloc _
  have Lx : Lies Wp (w.heap.size + 1) 40 [.int .i64 k, .int .i64 l, .int .i64 p] := by
    rw [hWp]
    have := (Lies.new (w.alloc (.cells #[.int .i64 (Z : Int), .slice A n c] 36)) 40 [.int .i64 k, .int .i64 l, .int .i64 p]).alloc (.cells #[.int .i64 0, .slice none 0 0] 36)
    rw [World.size_alloc] at this; exact this
  have Lr : Lies Wp (w.heap.size + 1 + 1) 36 [.int .i64 0, .slice none 0 0] := by
    rw [hWp]
    have := Lies.new ((w.alloc (.cells #[.int .i64 (Z : Int), .slice A n c] 36)).alloc (.cells #[.int .i64 k, .int .i64 l, .int .i64 p] 40)) 36 [.int .i64 0, .slice none 0 0]
    rw [World.size_alloc, World.size_alloc] at this; exact this
  have HPh := Lib.hid Lh
  have HPx := Lib.hid Lx
  have HPr := Lib.hid Lr
  have Hbp := Lib.hid bp
  have HWp := Lib.hid hWp
  clear Lh Lx Lr bp hWp
  cases hl : look obs a with
  | none =>
    have hr : splitF obs a k l p = (0, 3, obs) := by unfold splitF; rw [hl]
    have hv : findV obs a = -1 := by unfold findV; rw [hl]
    rw [hr]
    clear hl hr h
    go_enter Try.func18, Try.ntmps18
    go_wp2_with fail
    rw [← HWp.out]
    refine (rfind_any (Z : Int) a n c (HOW.out.things.kept Hbp.out) Hn.out hn6).mono ?_
    rintro e w2 ⟨rfl, hb2⟩
    rw [hv]
    have Lh2 := HPh.out.below hb2 HPh.out.lt
    have Lr2 := HPr.out.below hb2 HPr.out.lt
    have y0 : w2.cell? ⟨w.heap.size, 0, none⟩ = some (.int .i64 (Z : Int)) := Lh2.cell 0
    have y1 : w2.cell? ⟨w.heap.size, 1, none⟩ = some (.slice A n c) := Lh2.cell 1
    have r0 : w2.cell? ⟨w.heap.size + 1 + 1, 0, none⟩ = some (.int .i64 0) := Lr2.cell 0
    have r1 : w2.cell? ⟨w.heap.size + 1 + 1, 1, none⟩ = some (.slice none 0 0) := Lr2.cell 1
    have f0 := Lr2.frozen 0
    have f1 := Lr2.frozen 1
    have lt := Lr2.lt
    have HB2 := Lib.hid (on Hbp.out Hbp.out.size hb2)
    clear Lh2 Lr2 hb2
    go_wp2
    refine bodyPost_ret (v := .tuple #[.agg #[.int .i64 (Z : Int), .slice A n c], .int .i64 0, .int .i64 3]) (by simp [results, Try.results18, go_sem, y0, y1, r0, r1, f0, f1, lt]) rfl (post_same HOW.out Hn.out 3 ?_)
    have := HB2.out
    repeat (first | exact this | refine Below.setCell ?_ (by simp <;> omega) _)
  | some x =>
    obtain ⟨pre, o, post⟩ := x
    obtain ⟨hv, ho⟩ := find_look hl
    simp only at hv ho
    obtain ⟨e0, ea⟩ := look_some _ _ _ hl
    have hh := (HF.out o (by rw [e0]; simp)).1
    have hs : splitF obs a k l p = if o.1 % 16 ≠ 15 then (0, 2, obs) else if goodB k l p = false then (0, 1, obs) else if o.1 / 65536 < l then (0, 6, obs) else (splitF obs a k l p) := by
      unfold splitF; rw [hl]
      by_cases h1 : o.1 % 16 ≠ 15
      · simp only [if_pos h1]
      · simp only [if_neg h1]
        by_cases h2 : goodB k l p = false
        · simp only [if_pos h2]
        · simp only [if_neg h2]
          by_cases h3 : o.1 / 65536 < l
          · simp only [if_pos h3]
          · simp only [if_neg h3]
    have hz : o.1 % 16 ≠ 15 ∨ (o.1 % 16 = 15 ∧ goodB k l p = false) ∨ (o.1 % 16 = 15 ∧ goodB k l p = true ∧ o.1 / 65536 < l) := by
      by_cases h1 : o.1 % 16 ≠ 15
      · exact .inl h1
      · refine .inr ?_
        have h1' : o.1 % 16 = 15 := by omega
        cases h2 : goodB k l p with
        | false => exact .inl ⟨h1', rfl⟩
        | true =>
          refine .inr ⟨h1', rfl, ?_⟩
          apply Classical.byContradiction
          intro h3
          apply h
          unfold splitF; rw [hl]
          simp only [if_neg h1, h2, Bool.true_eq_false, if_false, if_neg h3]
          split <;> rfl
    have hi : pre.length < n := by
      have := (List.getElem?_eq_some_iff.1 ho).1
      rw [Hn.out] at this; exact this
    obtain ⟨i, hie⟩ : ∃ i, pre.length = i := ⟨_, rfl⟩
    rw [hie] at hv ho hi
    have HO := Lib.hid ho
    have HV := Lib.hid hv
    have hh0 : 0 ≤ o.1 := head_nn hh
    have hh1 := head_lt hh
    obtain ⟨z, hzo⟩ : ∃ z, o.1 = z := ⟨_, rfl⟩
    rw [hzo] at hs hz hh0 hh1
    have HZO := Lib.hid hzo
    clear e0 ea hl hh hv ho h hie hzo
    rcases hz with h1 | ⟨h1, h2⟩ | ⟨h1, h2, h3⟩
    · rw [if_pos h1] at hs
      rw [hs]
      have h1' : (z % 16 != 15) = true := by simpa using h1
      clear hs h1
      go_enter Try.func18, Try.ntmps18
      go_wp2_with fail
      rw [← HWp.out]
      refine (rfind_any (Z : Int) a n c (HOW.out.things.kept Hbp.out) Hn.out hn6).mono ?_
      rintro e w2 ⟨rfl, hb2⟩
      rw [HV.out]
      obtain ⟨ad, bd, cc, rfl, c0, c1, c2, c3, c4, hR, hadl⟩ := ((HOW.out.things.kept Hbp.out).at2 HO.out hb2)
      rw [HZO.out] at c1 c2 c3
      have Lh2 := HPh.out.below hb2 HPh.out.lt
      have Lr2 := HPr.out.below hb2 HPr.out.lt
      have y0 : w2.cell? ⟨w.heap.size, 0, none⟩ = some (.int .i64 (Z : Int)) := Lh2.cell 0
      have y1 : w2.cell? ⟨w.heap.size, 1, none⟩ = some (.slice (some ad) n c) := Lh2.cell 1
      have r0 : w2.cell? ⟨w.heap.size + 1 + 1, 0, none⟩ = some (.int .i64 0) := Lr2.cell 0
      have r1 : w2.cell? ⟨w.heap.size + 1 + 1, 1, none⟩ = some (.slice none 0 0) := Lr2.cell 1
      have f0 := Lr2.frozen 0
      have f1 := Lr2.frozen 1
      have lt := Lr2.lt
      have l0 : w.heap.size < w2.heap.size := by omega
      have l1 : w.heap.size + 1 < w2.heap.size := by omega
      have n0 : ¬ w.heap.size = w2.heap.size := by omega
      have n1 : ¬ w.heap.size + 1 = w2.heap.size := by omega
      have n2 : ¬ w.heap.size + 1 + 1 = w2.heap.size := by omega
      have i0 : (0 : Int) ≤ (i : Int) := by omega
      have i1 : (i : Int) < (n : Int) := by omega
      have HB2 := Lib.hid (on Hbp.out Hbp.out.size hb2)
      clear Lh2 Lr2 hb2 c0 c4 hR
      go_wp2
      refine bodyPost_ret (v := .tuple #[.agg #[.int .i64 (Z : Int), .slice (some ad) n c], .int .i64 0, .int .i64 2]) (by simp [results, Try.results18, go_sem, y0, y1, r0, r1, f0, f1, lt, l0, l1, n0, n1, n2]) rfl (post_same HOW.out Hn.out 2 ?_)
      have := HB2.out
      have hz2 := this.size
      repeat (first | exact this | refine Below.setCell ?_ (by simp <;> omega) _ | refine Below.alloc ?_ (by simp <;> omega) _)
    · rw [if_neg (by omega), if_pos h2] at hs
      rw [hs]
      have h1' : (z % 16 != 15) = false := by simpa using h1
      clear hs h1
      go_enter Try.func18, Try.ntmps18
      go_wp2_with fail
      rw [← HWp.out]
      refine (rfind_any (Z : Int) a n c (HOW.out.things.kept Hbp.out) Hn.out hn6).mono ?_
      rintro e w2 ⟨rfl, hb2⟩
      rw [HV.out]
      obtain ⟨ad, bd, cc, rfl, c0, c1, c2, c3, c4, hR, hadl⟩ := ((HOW.out.things.kept Hbp.out).at2 HO.out hb2)
      rw [HZO.out] at c1 c2 c3
      have Lh2 := HPh.out.below hb2 HPh.out.lt
      have Lr2 := HPr.out.below hb2 HPr.out.lt
      have y0 : w2.cell? ⟨w.heap.size, 0, none⟩ = some (.int .i64 (Z : Int)) := Lh2.cell 0
      have y1 : w2.cell? ⟨w.heap.size, 1, none⟩ = some (.slice (some ad) n c) := Lh2.cell 1
      have r0 : w2.cell? ⟨w.heap.size + 1 + 1, 0, none⟩ = some (.int .i64 0) := Lr2.cell 0
      have r1 : w2.cell? ⟨w.heap.size + 1 + 1, 1, none⟩ = some (.slice none 0 0) := Lr2.cell 1
      have f0 := Lr2.frozen 0
      have f1 := Lr2.frozen 1
      have lt := Lr2.lt
      have l0 : w.heap.size < w2.heap.size := by omega
      have l1 : w.heap.size + 1 < w2.heap.size := by omega
      have n0 : ¬ w.heap.size = w2.heap.size := by omega
      have n1 : ¬ w.heap.size + 1 = w2.heap.size := by omega
      have n2 : ¬ w.heap.size + 1 + 1 = w2.heap.size := by omega
      have i0 : (0 : Int) ≤ (i : Int) := by omega
      have i1 : (i : Int) < (n : Int) := by omega
      have HB2 := Lib.hid (on Hbp.out Hbp.out.size hb2)
      have Lx2 := HPx.out.below hb2 HPx.out.lt
      have x0 : w2.cell? ⟨w.heap.size + 1, 0, none⟩ = some (.int .i64 k) := Lx2.cell 0
      have x1 : w2.cell? ⟨w.heap.size + 1, 1, none⟩ = some (.int .i64 l) := Lx2.cell 1
      have x2 : w2.cell? ⟨w.heap.size + 1, 2, none⟩ = some (.int .i64 p) := Lx2.cell 2
      clear Lh2 Lr2 Lx2 hb2 c0 c4 hR
      go_wp2_with fail
      refine (good_any k l p _).mono ?_
      rintro e w4 ⟨rfl, rfl⟩
      rw [h2]
      go_wp2
      refine bodyPost_ret (v := .tuple #[.agg #[.int .i64 (Z : Int), .slice (some ad) n c], .int .i64 0, .int .i64 1]) (by simp [results, Try.results18, go_sem, y0, y1, r0, r1, f0, f1, lt, l0, l1, n0, n1, n2]) rfl (post_same HOW.out Hn.out 1 ?_)
      have := HB2.out
      have hz2 := this.size
      repeat (first | exact this | refine Below.setCell ?_ (by simp <;> omega) _ | refine Below.alloc ?_ (by simp <;> omega) _)
    · rw [if_neg (by omega), if_neg (by rw [h2]; simp), if_pos h3] at hs
      rw [hs]
      have h1' : (z % 16 != 15) = false := by simpa using h1
      clear hs h1
      go_enter Try.func18, Try.ntmps18
      go_wp2_with fail
      rw [← HWp.out]
      refine (rfind_any (Z : Int) a n c (HOW.out.things.kept Hbp.out) Hn.out hn6).mono ?_
      rintro e w2 ⟨rfl, hb2⟩
      rw [HV.out]
      obtain ⟨ad, bd, cc, rfl, c0, c1, c2, c3, c4, hR, hadl⟩ := ((HOW.out.things.kept Hbp.out).at2 HO.out hb2)
      rw [HZO.out] at c1 c2 c3
      have Lh2 := HPh.out.below hb2 HPh.out.lt
      have Lr2 := HPr.out.below hb2 HPr.out.lt
      have y0 : w2.cell? ⟨w.heap.size, 0, none⟩ = some (.int .i64 (Z : Int)) := Lh2.cell 0
      have y1 : w2.cell? ⟨w.heap.size, 1, none⟩ = some (.slice (some ad) n c) := Lh2.cell 1
      have r0 : w2.cell? ⟨w.heap.size + 1 + 1, 0, none⟩ = some (.int .i64 0) := Lr2.cell 0
      have r1 : w2.cell? ⟨w.heap.size + 1 + 1, 1, none⟩ = some (.slice none 0 0) := Lr2.cell 1
      have f0 := Lr2.frozen 0
      have f1 := Lr2.frozen 1
      have lt := Lr2.lt
      have l0 : w.heap.size < w2.heap.size := by omega
      have l1 : w.heap.size + 1 < w2.heap.size := by omega
      have n0 : ¬ w.heap.size = w2.heap.size := by omega
      have n1 : ¬ w.heap.size + 1 = w2.heap.size := by omega
      have n2 : ¬ w.heap.size + 1 + 1 = w2.heap.size := by omega
      have i0 : (0 : Int) ≤ (i : Int) := by omega
      have i1 : (i : Int) < (n : Int) := by omega
      have HB2 := Lib.hid (on Hbp.out Hbp.out.size hb2)
      have Lx2 := HPx.out.below hb2 HPx.out.lt
      have x0 : w2.cell? ⟨w.heap.size + 1, 0, none⟩ = some (.int .i64 k) := Lx2.cell 0
      have x1 : w2.cell? ⟨w.heap.size + 1, 1, none⟩ = some (.int .i64 l) := Lx2.cell 1
      have x2 : w2.cell? ⟨w.heap.size + 1, 2, none⟩ = some (.int .i64 p) := Lx2.cell 2
      clear Lh2 Lr2 Lx2 hb2 c0 c4 hR
      go_wp2_with fail
      refine (good_any k l p _).mono ?_
      rintro e w4 ⟨rfl, rfl⟩
      rw [h2]
      go_wp2
      refine bodyPost_ret (v := .tuple #[.agg #[.int .i64 (Z : Int), .slice (some ad) n c], .int .i64 0, .int .i64 6]) (by simp [results, Try.results18, go_sem, y0, y1, r0, r1, f0, f1, lt, l0, l1, n0, n1, n2]) rfl (post_same HOW.out Hn.out 6 ?_)
      have := HB2.out
      have hz2 := this.size
      repeat (first | exact this | refine Below.setCell ?_ (by simp <;> omega) _ | refine Below.alloc ?_ (by simp <;> omega) _)
end Go.Proofs.Ytibfhpbklnpknaa
