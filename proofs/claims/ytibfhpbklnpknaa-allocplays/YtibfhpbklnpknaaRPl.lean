/- What the reference's Place answers. -/
import Derived.Test.YtibfhpbklnpknaaRPl0
namespace Go.Proofs.Ytibfhpbklnpknaa
open Go.RowKit
set_option linter.unusedVariables false
set_option linter.unusedSimpArgs false

set_option maxRecDepth 100000 in
set_option maxHeartbeats 1000000 in
theorem rplace_bad {w : World} (s : Int) (A : Option Addr) (n c : Nat) (k l p : Int) (hg : goodB k l p = false) :
    Calls Try.prog 17 #[.agg #[.int .i64 s, .slice A n c], .agg #[.int .i64 k, .int .i64 l, .int .i64 p]] w fun e w' => e = .returned (.tuple #[.agg #[.int .i64 s, .slice A n c], .int .i64 0, .int .i64 1]) ∧ Below w.heap.size w w' := by
  go_enter Try.func17, Try.ntmps17
  go_wp2_with fail
  refine (good_any k l p _).mono ?_
  rintro e w1 ⟨rfl, rfl⟩
  rw [hg]
  go_wp2
  exact bodyPost_ret (v := .tuple #[.agg #[.int .i64 s, .slice A n c], .int .i64 0, .int .i64 1]) (by simp [results, Try.results17, go_sem]) rfl ⟨rfl, by
    repeat (first | exact Below.refl _ _ | refine Below.setCell ?_ (by simp <;> omega) _ | refine Below.alloc ?_ (by simp <;> omega) _)⟩

set_option maxRecDepth 100000 in
set_option maxHeartbeats 1000000 in
theorem rplace_full {w : World} (Z : Nat) (A : Option Addr) (n c N l : Nat) (k p : Int) (obs : List Ob) (hf : Fine obs) (T : Things w A obs) (hn : obs.length = n) (hN : (flat obs).length = N) (hNZ : N ≤ Z) (hZ : Z ≤ 65536) (hg : goodB k (l : Int) p = true) (hfull : Z < N + 1 + l) :
    Calls Try.prog 17 #[.agg #[.int .i64 (Z : Int), .slice A n c], .agg #[.int .i64 k, .int .i64 (l : Int), .int .i64 p]] w fun e w' => e = .returned (.tuple #[.agg #[.int .i64 (Z : Int), .slice A n c], .int .i64 0, .int .i64 6]) ∧ Below w.heap.size w w' := by
  have hl := ((good_iff _ _ _).1 hg).2.2.2.1
  have d5 : decide ((Z : Int) < (N : Int) + 1 + (l : Int)) = true := by simp; omega
  have HF := Lib.hid hf
  have HT := Lib.hid T
  have Hn := Lib.hid hn
  have HN := Lib.hid hN
  have HM := Lib.hid (show (flat obs).length ≤ 65536 by omega)
  clear hf T hn hN
  go_enter Try.func17, Try.ntmps17
  go_wp2_with fail
  refine (good_any k l p _).mono ?_
  rintro e w1 ⟨rfl, rfl⟩
  rw [hg]
  obtain ⟨Wp, hWp⟩ : ∃ Wp, Wp = (((w.alloc (.cells #[.int .i64 (Z : Int), .slice A n c] 36)).alloc (.cells #[.int .i64 k, .int .i64 (l : Int), .int .i64 p] 40)).alloc (.cells #[.int .i64 0, .slice none 0 0] 36)).alloc (.cells #[.int .i64 k, .int .i64 (l : Int), .int .i64 p] 40) := ⟨_, rfl⟩
  have bp : Below w.heap.size w Wp := by
    rw [hWp]
    repeat (first | exact Below.refl _ _ | refine Below.alloc ?_ (by simp <;> omega) _)
  have Lh : Lies Wp w.heap.size 36 [.int .i64 (Z : Int), .slice A n c] := by rw [hWp]; exact (((Lies.new w 36 [_, _]).alloc _).alloc _).alloc _
  have Lx : Lies Wp (w.heap.size + 1) 40 [.int .i64 k, .int .i64 (l : Int), .int .i64 p] := by
    rw [hWp]
    have := ((Lies.new (w.alloc (.cells #[.int .i64 (Z : Int), .slice A n c] 36)) 40 [.int .i64 k, .int .i64 (l : Int), .int .i64 p]).alloc (.cells #[.int .i64 0, .slice none 0 0] 36)).alloc (.cells #[.int .i64 k, .int .i64 (l : Int), .int .i64 p] 40)
    rw [World.size_alloc] at this; exact this
  have Lr : Lies Wp (w.heap.size + 1 + 1) 36 [.int .i64 0, .slice none 0 0] := by
    rw [hWp]
    have := (Lies.new ((w.alloc (.cells #[.int .i64 (Z : Int), .slice A n c] 36)).alloc (.cells #[.int .i64 k, .int .i64 (l : Int), .int .i64 p] 40)) 36 [.int .i64 0, .slice none 0 0]).alloc (.cells #[.int .i64 k, .int .i64 (l : Int), .int .i64 p] 40)
    rw [World.size_alloc, World.size_alloc] at this; exact this
  have HLh := Lib.hid Lh
  have HLx := Lib.hid Lx
  have HLr := Lib.hid Lr
  have Hbp := Lib.hid bp
  have HWp := Lib.hid hWp
  clear Lh Lx Lr bp hWp
  go_wp2_with fail
  rw [← HWp.out]
  refine (rtop_any (Z : Int) n c HF.out (HT.out.kept Hbp.out) Hn.out HM.out).mono ?_
  rintro e w2 ⟨rfl, hb2⟩
  rw [HN.out]
  have Lh2 := HLh.out.below hb2 HLh.out.lt
  have Lx2 := HLx.out.below hb2 HLx.out.lt
  have Lr2 := HLr.out.below hb2 HLr.out.lt
  have y0 : w2.cell? ⟨w.heap.size, 0, none⟩ = some (.int .i64 (Z : Int)) := Lh2.cell 0
  have y1 : w2.cell? ⟨w.heap.size, 1, none⟩ = some (.slice A n c) := Lh2.cell 1
  have x1 : w2.cell? ⟨w.heap.size + 1, 1, none⟩ = some (.int .i64 (l : Int)) := Lx2.cell 1
  have r0 : w2.cell? ⟨w.heap.size + 1 + 1, 0, none⟩ = some (.int .i64 0) := Lr2.cell 0
  have r1 : w2.cell? ⟨w.heap.size + 1 + 1, 1, none⟩ = some (.slice none 0 0) := Lr2.cell 1
  have f0 := Lr2.frozen 0
  have f1 := Lr2.frozen 1
  have lt := Lr2.lt
  have B2 := on Hbp.out Hbp.out.size hb2
  have HB2 := Lib.hid B2
  clear Lh2 Lx2 Lr2 hb2 B2
  go_wp2
  exact bodyPost_ret (v := .tuple #[.agg #[.int .i64 (Z : Int), .slice A n c], .int .i64 0, .int .i64 6]) (by simp [results, Try.results17, go_sem, y0, y1, r0, r1, f0, f1, lt]) rfl ⟨rfl, by
    have := HB2.out
    repeat (first | exact this | refine Below.setCell ?_ (by simp <;> omega) _)⟩
end Go.Proofs.Ytibfhpbklnpknaa
