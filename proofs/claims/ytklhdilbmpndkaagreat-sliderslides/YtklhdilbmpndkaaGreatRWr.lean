/- What the reference's Write answers where it refuses. -/
import Derived.Test.YtklhdilbmpndkaaGreatGg
namespace Go.Proofs.YtklhdilbmpndkaaGreat
set_option maxRecDepth 20000
open Go.RowKit
set_option linter.unusedVariables false
set_option linter.unusedSimpArgs false

/-- What the reference's Write leaves. -/
def WritePost (w : World) (base Z : Nat) (r : Int × List Ob) (e : Ending) (w' : World) : Prop :=
  (∃ A' n' c' xs', e = .returned (.tuple #[.agg #[.int .i64 (Z : Int), .slice A' n' c'], .int .i64 r.1]) ∧ r.2.length = n' ∧ Owned w' base A' n' c' r.2 xs') ∧ Below w.heap.size w w'

theorem wpost_same {w w' : World} {base Z n c : Nat} {A : Option Addr} {obs : List Ob} {xs : List Value} (OWN : Owned w base A n c obs xs) (hn : obs.length = n) (x : Int) (hb : Below w.heap.size w w') :
    WritePost w base Z (x, obs) (.returned (.tuple #[.agg #[.int .i64 (Z : Int), .slice A n c], .int .i64 x])) w' :=
  ⟨⟨A, n, c, xs, rfl, hn, OWN.kept hb⟩, hb⟩

set_option maxRecDepth 100000 in
set_option maxHeartbeats 2000000 in
theorem rwrite_no {w : World} {base : Nat} {xs : List Value} (Z : Nat) (A : Option Addr) (n c : Nat) (obs : List Ob) (hf : Fine obs) (OWN : Owned w base A n c obs xs) (hn : obs.length = n) (hn6 : n ≤ 65536) (a f v : Int) (hv64 : InR v) (h : (writeF obs a f v).1 ≠ 0) :
    Calls Tryz.prog 44 #[.agg #[.int .i64 (Z : Int), .slice A n c], .int .i64 a, .int .i64 f, .int .i64 v] w (WritePost w base Z (writeF obs a f v)) := by
  have HF := Lib.hid hf
  have HOW := Lib.hid OWN
  have Hn := Lib.hid hn
  have HV64 := Lib.hid hv64
  clear hf OWN hn hv64
  obtain ⟨Wp, hWp⟩ : ∃ Wp, Wp = (w.alloc (.cells #[.int .i64 (Z : Int), .slice A n c] 34)).alloc (.cells #[.int .i64 0, .slice none 0 0] 34) := ⟨_, rfl⟩
  have bp : Below w.heap.size w Wp := by
    rw [hWp]
    repeat (first | exact Below.refl _ _ | refine Below.alloc ?_ (by simp <;> omega) _)
  have Lh : Lies Wp w.heap.size 34 [.int .i64 (Z : Int), .slice A n c] := by rw [hWp]; exact (Lies.new w 34 [_, _]).alloc _
  have Lr : Lies Wp (w.heap.size + 1) 34 [.int .i64 0, .slice none 0 0] := by
    rw [hWp]
    have := Lies.new (w.alloc (.cells #[.int .i64 (Z : Int), .slice A n c] 34)) 34 [.int .i64 0, .slice none 0 0]
    rw [World.size_alloc] at this; exact this
  have HPh := Lib.hid Lh
  have HPr := Lib.hid Lr
  have Hbp := Lib.hid bp
  have HWp := Lib.hid hWp
  clear Lh Lr bp hWp
  cases hl : look obs a with
  | none =>
    have hr : writeF obs a f v = (3, obs) := by unfold writeF; rw [hl]
    have hv : findV obs a = -1 := by unfold findV; rw [hl]
    rw [hr]
    clear hl hr h
    go_enter Tryz.func44, Tryz.ntmps44
    go_wp2_with fail
    rw [← HWp.out]
    refine (rfind_any (Z : Int) a n c (HOW.out.things.kept Hbp.out) Hn.out hn6).mono ?_
    rintro e w2 ⟨rfl, hb2⟩
    rw [hv]
    have Lh2 := HPh.out.below hb2 HPh.out.lt
    have Lr2 := HPr.out.below hb2 HPr.out.lt
    have y0 : w2.cell? ⟨w.heap.size, 0, none⟩ = some (.int .i64 (Z : Int)) := Lh2.cell 0
    have y1 : w2.cell? ⟨w.heap.size, 1, none⟩ = some (.slice A n c) := Lh2.cell 1
    have r0 : w2.cell? ⟨w.heap.size + 1, 0, none⟩ = some (.int .i64 0) := Lr2.cell 0
    have r1 : w2.cell? ⟨w.heap.size + 1, 1, none⟩ = some (.slice none 0 0) := Lr2.cell 1
    have f0 := Lr2.frozen 0
    have f1 := Lr2.frozen 1
    have lt := Lr2.lt
    have HB2 := Lib.hid (on Hbp.out Hbp.out.size hb2)
    clear Lh2 Lr2 hb2
    go_wp2
    refine bodyPost_ret (v := .tuple #[.agg #[.int .i64 (Z : Int), .slice A n c], .int .i64 3]) (by simp [results, Tryz.results44, go_sem, y0, y1, r0, r1, f0, f1, lt]) rfl (wpost_same HOW.out Hn.out 3 ?_)
    have := HB2.out
    repeat (first | exact this | refine Below.setCell ?_ (by simp <;> omega) _)
  | some x =>
    obtain ⟨pre, o, post⟩ := x
    obtain ⟨hv, ho⟩ := find_look hl
    simp only at hv ho
    obtain ⟨e0, ea⟩ := look_some _ _ _ hl
    have hh := (HF.out o (by rw [e0]; simp)).1
    have hs : writeF obs a f v = if ¬ (0 ≤ f ∧ f < o.1 / 65536) ∨ o.1 % 16 = 15 then (4, obs) else if f < o.1 % 65536 / 16 ∧ astrayO obs v = true then (5, obs) else (0, pre ++ (o.1, o.2.set f.toNat v) :: post) := by
      unfold writeF; rw [hl]
    have hz : f < 0 ∨ (0 ≤ f ∧ o.1 / 65536 ≤ f) ∨ (0 ≤ f ∧ f < o.1 / 65536 ∧ o.1 % 16 = 15) ∨ (0 ≤ f ∧ f < o.1 / 65536 ∧ o.1 % 16 ≠ 15 ∧ f < o.1 % 65536 / 16 ∧ astrayO obs v = true) := by
      by_cases h1 : ¬ (0 ≤ f ∧ f < o.1 / 65536) ∨ o.1 % 16 = 15
      · omega
      · rw [hs, if_neg h1] at h
        by_cases h2 : f < o.1 % 65536 / 16 ∧ astrayO obs v = true
        · exact .inr (.inr (.inr ⟨by omega, by omega, by omega, h2.1, h2.2⟩))
        · rw [if_neg h2] at h; exact (h rfl).elim
    have hi : pre.length < n := by
      have := (List.getElem?_eq_some_iff.1 ho).1
      rw [Hn.out] at this; exact this
    obtain ⟨i, hie⟩ : ∃ i, pre.length = i := ⟨_, rfl⟩
    rw [hie] at hv ho hi
    have HO := Lib.hid ho
    have HV := Lib.hid hv
    have hh0 : 0 ≤ o.1 := head_nn hh
    have hh1 := head_lt hh
    obtain ⟨z, hzo⟩ : ∃ z, o.1 = z := ⟨_, rfl⟩
    rw [hzo] at hs hz hh0 hh1
    have HZO := Lib.hid hzo
    clear e0 ea hl hh hv ho h hie hzo
    rcases hz with h1 | ⟨h1, h2⟩ | ⟨h1, h2, h3⟩ | ⟨h1, h2, h3, h4, h5⟩
    · rw [if_pos (by omega)] at hs
      rw [hs]
      clear hs
      go_enter Tryz.func44, Tryz.ntmps44
      go_wp2_with fail
      rw [← HWp.out]
      refine (rfind_any (Z : Int) a n c (HOW.out.things.kept Hbp.out) Hn.out hn6).mono ?_
      rintro e w2 ⟨rfl, hb2⟩
      rw [HV.out]
      obtain ⟨ad, bd, cc, rfl, c0, c1, c2, c3, c4, hR, hadl⟩ := ((HOW.out.things.kept Hbp.out).at2 HO.out hb2)
      rw [HZO.out] at c1 c2 c3
      have Lh2 := HPh.out.below hb2 HPh.out.lt
      have Lr2 := HPr.out.below hb2 HPr.out.lt
      have y0 : w2.cell? ⟨w.heap.size, 0, none⟩ = some (.int .i64 (Z : Int)) := Lh2.cell 0
      have y1 : w2.cell? ⟨w.heap.size, 1, none⟩ = some (.slice (some ad) n c) := Lh2.cell 1
      have r0 : w2.cell? ⟨w.heap.size + 1, 0, none⟩ = some (.int .i64 0) := Lr2.cell 0
      have r1 : w2.cell? ⟨w.heap.size + 1, 1, none⟩ = some (.slice none 0 0) := Lr2.cell 1
      have f0 := Lr2.frozen 0
      have f1 := Lr2.frozen 1
      have lt := Lr2.lt
      have l0 : w.heap.size < w2.heap.size := by omega
      have n0 : ¬ w.heap.size = w2.heap.size := by omega
      have n1 : ¬ w.heap.size + 1 = w2.heap.size := by omega
      have i0 : (0 : Int) ≤ (i : Int) := by omega
      have i1 : (i : Int) < (n : Int) := by omega
      have HB2 := Lib.hid (on Hbp.out Hbp.out.size hb2)
      clear Lh2 Lr2 hb2 hR
      go_wp2
      refine bodyPost_ret (v := .tuple #[.agg #[.int .i64 (Z : Int), .slice (some ad) n c], .int .i64 4]) (by simp [results, Tryz.results44, go_sem, y0, y1, r0, r1, f0, f1, lt, l0, n0, n1]) rfl (wpost_same HOW.out Hn.out 4 ?_)
      have := HB2.out
      have hz2 := this.size
      repeat (first | exact this | refine Below.setCell ?_ (by simp <;> omega) _ | refine Below.alloc ?_ (by simp <;> omega) _)
    · rw [if_pos (by omega)] at hs
      rw [hs]
      clear hs
      go_enter Tryz.func44, Tryz.ntmps44
      go_wp2_with fail
      rw [← HWp.out]
      refine (rfind_any (Z : Int) a n c (HOW.out.things.kept Hbp.out) Hn.out hn6).mono ?_
      rintro e w2 ⟨rfl, hb2⟩
      rw [HV.out]
      obtain ⟨ad, bd, cc, rfl, c0, c1, c2, c3, c4, hR, hadl⟩ := ((HOW.out.things.kept Hbp.out).at2 HO.out hb2)
      rw [HZO.out] at c1 c2 c3
      have Lh2 := HPh.out.below hb2 HPh.out.lt
      have Lr2 := HPr.out.below hb2 HPr.out.lt
      have y0 : w2.cell? ⟨w.heap.size, 0, none⟩ = some (.int .i64 (Z : Int)) := Lh2.cell 0
      have y1 : w2.cell? ⟨w.heap.size, 1, none⟩ = some (.slice (some ad) n c) := Lh2.cell 1
      have r0 : w2.cell? ⟨w.heap.size + 1, 0, none⟩ = some (.int .i64 0) := Lr2.cell 0
      have r1 : w2.cell? ⟨w.heap.size + 1, 1, none⟩ = some (.slice none 0 0) := Lr2.cell 1
      have f0 := Lr2.frozen 0
      have f1 := Lr2.frozen 1
      have lt := Lr2.lt
      have l0 : w.heap.size < w2.heap.size := by omega
      have n0 : ¬ w.heap.size = w2.heap.size := by omega
      have n1 : ¬ w.heap.size + 1 = w2.heap.size := by omega
      have i0 : (0 : Int) ≤ (i : Int) := by omega
      have i1 : (i : Int) < (n : Int) := by omega
      have HB2 := Lib.hid (on Hbp.out Hbp.out.size hb2)
      clear Lh2 Lr2 hb2 hR
      go_wp2
      refine bodyPost_ret (v := .tuple #[.agg #[.int .i64 (Z : Int), .slice (some ad) n c], .int .i64 4]) (by simp [results, Tryz.results44, go_sem, y0, y1, r0, r1, f0, f1, lt, l0, n0, n1]) rfl (wpost_same HOW.out Hn.out 4 ?_)
      have := HB2.out
      have hz2 := this.size
      repeat (first | exact this | refine Below.setCell ?_ (by simp <;> omega) _ | refine Below.alloc ?_ (by simp <;> omega) _)
    · rw [if_pos (by omega)] at hs
      rw [hs]
      have h3' : (z % 16 == 15) = true := by simpa using h3
      clear hs h3
      go_enter Tryz.func44, Tryz.ntmps44
      go_wp2_with fail
      rw [← HWp.out]
      refine (rfind_any (Z : Int) a n c (HOW.out.things.kept Hbp.out) Hn.out hn6).mono ?_
      rintro e w2 ⟨rfl, hb2⟩
      rw [HV.out]
      obtain ⟨ad, bd, cc, rfl, c0, c1, c2, c3, c4, hR, hadl⟩ := ((HOW.out.things.kept Hbp.out).at2 HO.out hb2)
      rw [HZO.out] at c1 c2 c3
      have Lh2 := HPh.out.below hb2 HPh.out.lt
      have Lr2 := HPr.out.below hb2 HPr.out.lt
      have y0 : w2.cell? ⟨w.heap.size, 0, none⟩ = some (.int .i64 (Z : Int)) := Lh2.cell 0
      have y1 : w2.cell? ⟨w.heap.size, 1, none⟩ = some (.slice (some ad) n c) := Lh2.cell 1
      have r0 : w2.cell? ⟨w.heap.size + 1, 0, none⟩ = some (.int .i64 0) := Lr2.cell 0
      have r1 : w2.cell? ⟨w.heap.size + 1, 1, none⟩ = some (.slice none 0 0) := Lr2.cell 1
      have f0 := Lr2.frozen 0
      have f1 := Lr2.frozen 1
      have lt := Lr2.lt
      have l0 : w.heap.size < w2.heap.size := by omega
      have n0 : ¬ w.heap.size = w2.heap.size := by omega
      have n1 : ¬ w.heap.size + 1 = w2.heap.size := by omega
      have i0 : (0 : Int) ≤ (i : Int) := by omega
      have i1 : (i : Int) < (n : Int) := by omega
      have HB2 := Lib.hid (on Hbp.out Hbp.out.size hb2)
      clear Lh2 Lr2 hb2 hR
      go_wp2
      refine bodyPost_ret (v := .tuple #[.agg #[.int .i64 (Z : Int), .slice (some ad) n c], .int .i64 4]) (by simp [results, Tryz.results44, go_sem, y0, y1, r0, r1, f0, f1, lt, l0, n0, n1]) rfl (wpost_same HOW.out Hn.out 4 ?_)
      have := HB2.out
      have hz2 := this.size
      repeat (first | exact this | refine Below.setCell ?_ (by simp <;> omega) _ | refine Below.alloc ?_ (by simp <;> omega) _)
    · rw [if_neg (by omega), if_pos ⟨h4, h5⟩] at hs
      rw [hs]
      have h3' : (z % 16 == 15) = false := by simpa using h3
      have H5 := Lib.hid h5
      clear hs h3 h5
      go_enter Tryz.func44, Tryz.ntmps44
      go_wp2_with fail
      rw [← HWp.out]
      refine (rfind_any (Z : Int) a n c (HOW.out.things.kept Hbp.out) Hn.out hn6).mono ?_
      rintro e w2 ⟨rfl, hb2⟩
      rw [HV.out]
      obtain ⟨ad, bd, cc, rfl, c0, c1, c2, c3, c4, hR, hadl⟩ := ((HOW.out.things.kept Hbp.out).at2 HO.out hb2)
      rw [HZO.out] at c1 c2 c3
      have Lh2 := HPh.out.below hb2 HPh.out.lt
      have Lr2 := HPr.out.below hb2 HPr.out.lt
      have y0 : w2.cell? ⟨w.heap.size, 0, none⟩ = some (.int .i64 (Z : Int)) := Lh2.cell 0
      have y1 : w2.cell? ⟨w.heap.size, 1, none⟩ = some (.slice (some ad) n c) := Lh2.cell 1
      have r0 : w2.cell? ⟨w.heap.size + 1, 0, none⟩ = some (.int .i64 0) := Lr2.cell 0
      have r1 : w2.cell? ⟨w.heap.size + 1, 1, none⟩ = some (.slice none 0 0) := Lr2.cell 1
      have f0 := Lr2.frozen 0
      have f1 := Lr2.frozen 1
      have lt := Lr2.lt
      have l0 : w.heap.size < w2.heap.size := by omega
      have n0 : ¬ w.heap.size = w2.heap.size := by omega
      have n1 : ¬ w.heap.size + 1 = w2.heap.size := by omega
      have i0 : (0 : Int) ≤ (i : Int) := by omega
      have i1 : (i : Int) < (n : Int) := by omega
      have HB2 := Lib.hid (on Hbp.out Hbp.out.size hb2)
      have HLh2 := Lib.hid Lh2
      have HLr2 := Lib.hid Lr2
      clear Lh2 Lr2 hR hb2
      go_wp2_with fail
      refine (leads_any (Z : Int) v n c ((HOW.out.things.kept HB2.out).kept (below_one w2 _)) Hn.out hn6 HV64.out).mono ?_
      rintro e w4 ⟨rfl, hb4⟩
      rw [H5.out]
      have b4 := (below_one w2 _).trans (hb4.mono (by simp))
      have Lh4 := HLh2.out.below b4 HLh2.out.lt
      have Lr4 := HLr2.out.below b4 HLr2.out.lt
      have HB4 := Lib.hid (on HB2.out HB2.out.size b4)
      clear y0 y1 r0 r1 f0 f1 lt l0 n0 n1 hb4 b4 HB2 c0 c1 c2 c3 c4
      have y0 : w4.cell? ⟨w.heap.size, 0, none⟩ = some (.int .i64 (Z : Int)) := Lh4.cell 0
      have y1 : w4.cell? ⟨w.heap.size, 1, none⟩ = some (.slice (some ad) n c) := Lh4.cell 1
      have r0 : w4.cell? ⟨w.heap.size + 1, 0, none⟩ = some (.int .i64 0) := Lr4.cell 0
      have r1 : w4.cell? ⟨w.heap.size + 1, 1, none⟩ = some (.slice none 0 0) := Lr4.cell 1
      have f0 := Lr4.frozen 0
      have f1 := Lr4.frozen 1
      have lt := Lr4.lt
      clear Lh4 Lr4
      go_wp2
      refine bodyPost_ret (v := .tuple #[.agg #[.int .i64 (Z : Int), .slice (some ad) n c], .int .i64 5]) (by simp [results, Tryz.results44, go_sem, y0, y1, r0, r1, f0, f1, lt]) rfl (wpost_same HOW.out Hn.out 5 ?_)
      have := HB4.out
      have hz2 := this.size
      repeat (first | exact this | refine Below.setCell ?_ (by simp <;> omega) _ | refine Below.alloc ?_ (by simp <;> omega) _)
end Go.Proofs.YtklhdilbmpndkaaGreat
