/- The document's fixed fact; where the laws don't play. -/
import Derived.Test.YthjbechbioeglaaRgO
namespace Go.Proofs.Ythjbechbioeglaa
open Go.RowKit
set_option linter.unusedVariables false
set_option linter.unusedSimpArgs false

theorem awake_obs {obs : List Ob} (hf : Fine obs) (hh : obs.map Prod.fst = (laidG [⟨0, [], 2⟩] 1).1.map Prod.fst) : ∃ o, obs = [o] ∧ o.1 % 16 = 0 ∧ o.2.length = 2 := by
  have e : (laidG [⟨0, [], 2⟩] 1).1.map Prod.fst = [131072] := by decide
  rw [e] at hh
  cases obs with
  | nil => simp at hh
  | cons o l =>
    simp at hh
    obtain ⟨h1, h2⟩ := hh
    subst h2
    refine ⟨o, rfl, by rw [h1]; rfl, ?_⟩
    have := (hf o (by simp)).2
    rw [this, h1]; rfl
theorem awake_mark (o : Ob) (f : Nat → Bool) (hf : ∀ p, f p = markB [o] [0] p) : f 0 = true := by
  rw [hf]
  simp [markB, atI_zero]

set_option maxRecDepth 1000000 in
set_option maxHeartbeats 2000000 in
theorem awake_any (w : World) : Calls Try.prog 7 #[] w fun e w' => e = .returned (.bool true) ∧ Below w.heap.size w w' := by
  go_enter Try.func7, Try.ntmps7
  go_wp2_with fail
  have b1 : Below w.heap.size w ((w.alloc (.cells #[.int .u8 0, .slice none 0 0, .int .u8 2] 54)).alloc (.cells #[.int .u8 0] 5)) := ((Below.refl _ w).alloc (Nat.le_refl _) _).alloc (by simp) _
  have L1 : Lies ((w.alloc (.cells #[.int .u8 0, .slice none 0 0, .int .u8 2] 54)).alloc (.cells #[.int .u8 0] 5)) w.heap.size 54 [.int .u8 0, .slice none 0 0, .int .u8 2] := (Lies.new w 54 [_, _, _]).alloc _
  have L2 : Lies ((w.alloc (.cells #[.int .u8 0, .slice none 0 0, .int .u8 2] 54)).alloc (.cells #[.int .u8 0] 5)) (w.heap.size + 1) 5 [.int .u8 0] := by
    have := Lies.new (w.alloc (.cells #[.int .u8 0, .slice none 0 0, .int .u8 2] 54)) 5 [.int .u8 0]
    rw [World.size_alloc] at this; exact this
  obtain ⟨w1, hw1⟩ : ∃ w1, (w.alloc (.cells #[.int .u8 0, .slice none 0 0, .int .u8 2] 54)).alloc (.cells #[.int .u8 0] 5) = w1 := ⟨_, rfl⟩
  rw [hw1] at b1 L1 L2 ⊢
  have hN : CameN w1 (some ⟨w.heap.size, 0, none⟩) 1 [⟨0, [], 2⟩] := by
    refine ⟨rfl, fun i d hd => ?_, fun d hd => ?_, by unfold maxLen; omega⟩
    · cases i with
      | zero =>
        simp at hd; subst hd
        refine ⟨⟨w.heap.size, 0, none⟩, none, 0, rfl, L1.lt, fun j v hv => ?_, fun h => by simp at h⟩
        rw [Nat.zero_mul, Nat.zero_add, add_at, L1.cell]
        simpa using hv
      | succ i => simp at hd
    · simp at hd; subst hd
      exact ⟨by simp, by simp, fun e he => by simp at he⟩
  have hR : Mk.Came .u8 w1 none 0 [] := ⟨rfl, fun h => by simp at h, fun z hz => by simp at hz⟩
  have hZ : Mk.Came .u8 w1 (some ⟨w.heap.size + 1, 0, none⟩) 1 [0] := by
    refine ⟨rfl, fun _ => ⟨_, rfl, L2.lt, fun j v hv => ?_⟩, fun z hz => by simp at hz; subst hz; decide⟩
    rw [add_at, L2.cell]
    simpa using hv
  have HM := Lib.hid (marked_any (w := w1) (some ⟨w.heap.size, 0, none⟩) none (some ⟨w.heap.size + 1, 0, none⟩) 1 1 0 0 1 1 [⟨0, [], 2⟩] [] [0] hN hR hZ (by omega) (by omega) (by omega) (fun d hd => by simp at hd; subst hd; simp))
  have HB1 := Lib.hid b1
  clear hN hR hZ L1 L2 b1 hw1
  refine HM.out.mono ?_
  rintro e w2 ⟨g, gw, gb, base, obs, tail, A, n', c, xs, mg, mw, ws, rfl, MK⟩
  obtain ⟨Z, hZ⟩ : ∃ Z, sizeG [⟨0, [], 2⟩] 2 1 = Z := ⟨_, rfl⟩
  rw [hZ] at MK ⊢
  obtain ⟨B, cap, rts, BT⟩ := MK.heap
  obtain ⟨o, rfl, ho1, ho2⟩ := awake_obs BT.st.fine BT.heads
  have hf0 := awake_mark o (Mk.bit ws) MK.bits
  have htop : (flat [o]).length = 3 := by simp [flat, ho2]
  have bX := below_one w2 (.cells #[.int .i64 (Z : Int), .slice A n' c] 32)
  have HO := Lib.hid (of_any (BT.st.kept bX) (MK.map.kept bX) 2 2 2 3 (by decide) htop (by decide) (by unfold InR; omega))
  have HB2 := Lib.hid (on (on HB1.out HB1.out.size MK.old) (on HB1.out HB1.out.size MK.old).size bX)
  have hkp : keepB (Mk.bit ws) (0, o) = true := by unfold keepB; simp [ho1, hf0]
  have ein0 : inR (Mk.bit ws) 2 0 (adr 0 [o]) = [(0, o)] := by unfold inR adr; simp [adr, hkp]
  have ein1 : inR (Mk.bit ws) 2 1 (adr 0 [o]) = [] := by unfold inR adr; simp [adr]
  have est0 : stayR (Mk.bit ws) 2 0 (adr 0 [o]) = [0] := by unfold stayR; rw [ein0]; rfl
  have elv0 : liveR (Mk.bit ws) 2 0 (adr 0 [o]) = 3 := by unfold liveR; rw [ein0, sumL_one, ho2]
  have elv1 : liveR (Mk.bit ws) 2 1 (adr 0 [o]) = 0 := by unfold liveR; rw [ein1]; rfl
  have eT : firstR (Mk.bit ws) 2 (adr 0 [o]) 2 = 3 := by simp [firstR, elv0, elv1]
  have HST := Lib.hid est0
  have HT := Lib.hid eT
  clear MK BT HM hf0 htop bX hkp ein0 ein1 est0 elv0 elv1 eT hZ ho1 ho2
  go_wp2_with fail
  refine HO.out.mono ?_
  rintro e w4 ⟨q, l, base4, T, rfl, R4, G4, hT, hb4, -⟩
  rw [HT.out] at hT
  subst hT
  have HB4 := Lib.hid (on HB2.out HB2.out.size hb4)
  obtain ⟨x, hx, hrow, -, -⟩ := G4.2 0 (by omega)
  have hKl := G4.1
  rw [HST.out] at hrow
  have bY := below_one w4 (.cells #[.int .i64 2, .slice (some ⟨q, 0, none⟩) 2 2, .int .i64 3] 37)
  have HR5 := Lib.hid (R4.kept bY)
  have HB5 := Lib.hid (on HB4.out HB4.out.size bY)
  have LBX := Lib.hid (show Lies (w4.alloc (.cells #[.int .i64 2, .slice (some ⟨q, 0, none⟩) 2 2, .int .i64 3] 37)) w4.heap.size 37 [.int .i64 2, .slice (some ⟨q, 0, none⟩) 2 2, .int .i64 3] from Lies.new w4 37 [_, _, _])
  have HX := Lib.hid hx
  have HKL := Lib.hid hKl
  have HRW := Lib.hid (show x.row.length = 1 by rw [hrow]; rfl)
  clear HO hb4 R4 G4 hx hrow bY hKl
  unfold rv
  go_wp2_with fail
  refine (total_any _ 2 q 2 3).mono ?_
  rintro e w6 ⟨rfl, hb6⟩
  have L6 := LBX.out.kept hb6
  have y0 : w6.cell? ⟨w4.heap.size, 0, none⟩ = some (.int .i64 2) := L6.cell 0
  have y1 : w6.cell? ⟨w4.heap.size, 1, none⟩ = some (.slice (some ⟨q, 0, none⟩) 2 2) := L6.cell 1
  have y2 : w6.cell? ⟨w4.heap.size, 2, none⟩ = some (.int .i64 3) := L6.cell 2
  have HR6 := Lib.hid (HR5.out.kept hb6)
  have HB6 := Lib.hid (on HB5.out HB5.out.size hb6)
  have HL6 := Lib.hid L6
  have ec : ((3 : Nat) : Int) = 3 := rfl
  clear hb6 L6
  rw [ec]
  go_wp2_with fail
  refine (len_any _ 2 q 2 3).mono ?_
  rintro e w7 ⟨rfl, hb7⟩
  have L7 := HL6.out.kept hb7
  have z0 : w7.cell? ⟨w4.heap.size, 0, none⟩ = some (.int .i64 2) := L7.cell 0
  have z1 : w7.cell? ⟨w4.heap.size, 1, none⟩ = some (.slice (some ⟨q, 0, none⟩) 2 2) := L7.cell 1
  have z2 : w7.cell? ⟨w4.heap.size, 2, none⟩ = some (.int .i64 3) := L7.cell 2
  have HR7 := Lib.hid (HR6.out.kept hb7)
  have HB7 := Lib.hid (on HB6.out HB6.out.size hb7)
  have ec2 : ((2 : Nat) : Int) = 2 := rfl
  clear hb7 L7 y0 y1 y2
  rw [ec2]
  go_wp2_with fail
  refine (stays_any HR7.out 2 2 3 0 HKL.out (by omega) x HX.out 1 HRW.out (by omega)).mono ?_
  rintro e w8 ⟨B2, cap2, rfl, -, hb8⟩
  have HB8 := Lib.hid (on HB7.out HB7.out.size hb8)
  clear hb8 z0 z1 z2
  go_wp2
  go_ret
  exact ⟨rfl, HB8.out⟩
end Go.Proofs.Ythjbechbioeglaa
