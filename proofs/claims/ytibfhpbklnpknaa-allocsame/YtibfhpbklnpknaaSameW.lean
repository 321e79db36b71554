/- The walk of AllocSame. -/
import Derived.Test.YtibfhpbklnpknaaAlSum
import Derived.Test.YtibfhpbklnpknaaAlRead
import Derived.Test.YtibfhpbklnpknaaRefs
namespace Go.Proofs.Ytibfhpbklnpknaa
open Go.RowKit
set_option linter.unusedVariables false
set_option linter.unusedSimpArgs false

/-- Two allocators of heaps with the same objects. -/
structure Pair (w W : World) (ga gf g gw gb ha hf h hw hb s n : Nat) (bs : List Int) (obs : List Ob) (tail : List Int) : Prop where
  a : Al W ga gf g gw gb s bs obs tail
  b : Al W ha hf h hw hb s bs obs tail
  len : (flat obs ++ tail).length = n
  bl : bs.length = 3
  old : Below w.heap.size w W

/-- None of the one's is the other one's. -/
structure Far (B ga gf g gw gb ha hf h hw hb : Nat) : Prop where
  o1 : B ≤ g
  o2 : B ≤ gw
  o3 : B ≤ gb
  o4 : B ≤ gf
  p1 : B ≤ h
  p2 : B ≤ hw
  p3 : B ≤ hb
  p4 : B ≤ hf
  a1 : ga ≠ h ∧ ga ≠ hw ∧ ga ≠ hb ∧ ga ≠ hf
  a2 : gf ≠ h ∧ gf ≠ hw ∧ gf ≠ hb ∧ gf ≠ hf
  a3 : g ≠ h ∧ g ≠ hw ∧ g ≠ hb ∧ g ≠ hf
  a4 : gw ≠ h ∧ gw ≠ hw ∧ gw ≠ hb ∧ gw ≠ hf
  a5 : gb ≠ h ∧ gb ≠ hw ∧ gb ≠ hb ∧ gb ≠ hf
  b1 : ha ≠ g ∧ ha ≠ gw ∧ ha ≠ gb ∧ ha ≠ gf
  b2 : hf ≠ g ∧ hf ≠ gw ∧ hf ≠ gb ∧ hf ≠ gf
  b3 : h ≠ g ∧ h ≠ gw ∧ h ≠ gb ∧ h ≠ gf
  b4 : hw ≠ g ∧ hw ≠ gw ∧ hw ≠ gb ∧ hw ≠ gf
  b5 : hb ≠ g ∧ hb ≠ gw ∧ hb ≠ gb ∧ hb ≠ gf

section
variable {w W W' : World} {ga gf g gw gb ha hf h hw hb s n : Nat} {bs : List Int} {obs : List Ob} {tail : List Int}
theorem Pair.kept (P : Pair w W ga gf g gw gb ha hf h hw hb s n bs obs tail) (bel : Below W.heap.size W W') : Pair w W' ga gf g gw gb ha hf h hw hb s n bs obs tail :=
  ⟨P.a.kept bel, P.b.kept bel, P.len, P.bl, on P.old P.old.size bel⟩

/-- The first one allocates: the second one is as it was. -/
theorem Pair.one (P : Pair w W ga gf g gw gb ha hf h hw hb s n bs obs tail) (F : Far w.heap.size ga gf g gw gb ha hf h hw hb) (E : Else4 g gw gb gf W W') : Al W' ha hf h hw hb s bs obs tail ∧ Below w.heap.size w W' :=
  ⟨P.b.else4 E F.b1 F.b2 F.b3 F.b4 F.b5, P.old.trans (E.below P.old.size F.o1 F.o2 F.o3 F.o4)⟩
end

set_option maxRecDepth 100000 in
set_option maxHeartbeats 2000000 in
theorem same_yes (x0 x1 : Int) (B : Option Addr) (c : Nat) (ds : List Deal) (w : World) (hx : 0 ≤ x0) (hx' : x0 ≤ 65535) (h2 : ds.length ≤ 40) (hd : Deals w B ds) (hz : ∀ d ∈ ds, d.fit) (y0 : 0 ≤ x1) (y1 : x1 ≤ 255) :
    Calls Try.prog 6 #[.int .u16 x0, .int .u8 x1, .slice B ds.length c] w fun e w' => e = .returned (.bool true) ∧ Below w.heap.size w w' := by
  have d1 : decide ((40 : Int) < (ds.length : Int)) = false := by simp; omega
  have HD := Lib.hid hd
  have HZ := Lib.hid hz
  have hnil := fun W g => anil_ne W g
  obtain ⟨n, hn⟩ : ∃ n : Nat, 1 + x0 % 400 = (n : Int) := ⟨(1 + x0 % 400).toNat, by omega⟩
  have n1 : 1 ≤ n := by omega
  have n2 : n ≤ 400 := by omega
  have HN := Lib.hid hn
  clear hd hz hn
  go_enter Try.func6, Try.ntmps6
  go_wp2_with fail
  refine (awake_any _).mono ?_
  rintro e w1 ⟨rfl, hb1⟩
  have HB1 := Lib.hid hb1
  clear hb1
  go_wp2_with fail
  rw [HN.out]
  refine (new_st n _ n1 (by omega)).mono ?_
  rintro e w2 ⟨g, gw, gb, rfl, hb2, q1, q2, q3, S2⟩
  have sz1 := HB1.out.size
  have HB2 := Lib.hid (on HB1.out HB1.out.size hb2)
  have HS2 := Lib.hid S2
  have l1 := S2.lies.own.lt
  have l2 := S2.lies.words.lt
  have l3 := S2.lies.begins.lt
  clear hb2 S2
  go_wp2_with fail
  refine (new_st n _ n1 (by omega)).mono ?_
  rintro e w3 ⟨h, hw, hb, rfl, hb3, q4, q5, q6, S3⟩
  have sz2 := HB2.out.size
  have sz3 := hb3.size
  have HB3 := Lib.hid (on HB2.out HB2.out.size hb3)
  have HT3 := Lib.hid (HS2.out.kept hb3)
  have HS3 := Lib.hid S3
  have l4 := S3.lies.own.lt
  have l5 := S3.lies.words.lt
  have l6 := S3.lies.begins.lt
  clear hb3 S3 HS2
  go_wp2_with fail
  refine (anew_yes HT3.out 3 x1 (by omega) (by omega)).mono ?_
  rintro e w4 ⟨ga, gf, rfl, A4, hb4, q7, q8⟩
  have sz4 := hb4.size
  have HB4 := Lib.hid (on HB3.out HB3.out.size hb4)
  have HS4 := Lib.hid (HS3.out.kept hb4)
  have HA4 := Lib.hid A4
  have l7 := A4.own.lt
  have l8 := A4.row.lt
  clear hb4 A4 HS3 HT3
  go_wp2_with fail
  refine (anew_yes HS4.out 3 x1 (by omega) (by omega)).mono ?_
  rintro e w5 ⟨ha, hf, rfl, A5, hb5, q9, q10⟩
  have FR := Lib.hid (show Far w.heap.size ga gf g gw gb ha hf h hw hb from by
    refine ⟨?_, ?_, ?_, ?_, ?_, ?_, ?_, ?_, ?_, ?_, ?_, ?_, ?_, ?_, ?_, ?_, ?_, ?_⟩ <;> first | omega | (refine ⟨?_, ?_, ?_, ?_⟩ <;> omega))
  have P5 : Pair w w5 ga gf g gw gb ha hf h hw hb (sizeF x1) n (List.replicate 3 0) [] (List.replicate n 0) :=
    ⟨HA4.out.kept hb5, A5, by simp [flat_nil], by simp, on HB4.out HB4.out.size hb5⟩
  have HP5 := Lib.hid P5
  clear hb5 A5 P5 HS4 HA4 HB4 HB3 HB2 HB1 q1 q2 q3 q4 q5 q6 q7 q8 q9 q10 l1 l2 l3 l4 l5 l6 l7 l8 sz1 sz2 sz3 sz4
  generalize sizeF x1 = s at *
  go_wp2
  go_loopw [84, 17, 18, 19, 20, 21, 22, 23, 24, 25, 26, 27, 28, 29] (fun i _ _ _ _ _ _ _ _ _ _ _ _ _ wr => ∃ (j : Nat) (bs : List Int) (obs : List Ob) (tail : List Int), j ≤ ds.length ∧ i = .int .i64 j ∧ Pair w wr ga gf g gw gb ha hf h hw hb s n bs obs tail) (fun i _ _ _ _ _ _ _ _ _ _ _ _ _ _ => ds.length - (intOf i).toNat)
  case atStart => exact ⟨0, _, _, _, Nat.zero_le _, rfl, HP5.out⟩
  case round =>
    obtain ⟨j, bs, obs, tail, hj, rfl, P⟩ := hrel
    by_cases hjl : j < ds.length
    · obtain ⟨ad, rfl, c0, c1, c2, c3, c4⟩ := HD.out.at_ hjl wr P.old
      have hfit := HZ.out ds[j] (List.getElem_mem hjl)
      generalize ds[j] = d at c0 c1 c2 c3 c4 hfit
      obtain ⟨kd, th, k, l, p⟩ := d
      simp only at c0 c1 c2 c3 c4
      have k0 : 0 ≤ kd := hfit.1.1
      have k1 : kd ≤ 255 := hfit.1.2
      have j0 : (0 : Int) ≤ (j : Int) := by omega
      have j1 : (j : Int) < (ds.length : Int) := by omega
      obtain ⟨X, hX⟩ : ∃ X : Obj, X = .cells #[.int .u8 kd, .int .i64 th, .int .i64 k, .int .i64 l, .int .i64 p] 45 := ⟨_, rfl⟩
      have PX := P.kept (below_one wr X)
      have LX : Lies (wr.alloc X) wr.heap.size 45 [.int .u8 kd, .int .i64 th, .int .i64 k, .int .i64 l, .int .i64 p] := by rw [hX]; exact Lies.new wr 45 [_, _, _, _, _]
      have HPX := Lib.hid PX
      have HLX := Lib.hid LX
      have ne1 : wr.heap.size ≠ g := by have := P.a.st.lies.own.lt; omega
      have ne2 : wr.heap.size ≠ gw := by have := P.a.st.lies.words.lt; omega
      have ne3 : wr.heap.size ≠ gb := by have := P.a.st.lies.begins.lt; omega
      have ne4 : wr.heap.size ≠ gf := by have := P.a.row.lt; omega
      have ne5 : wr.heap.size ≠ h := by have := P.b.st.lies.own.lt; omega
      have ne6 : wr.heap.size ≠ hw := by have := P.b.st.lies.words.lt; omega
      have ne7 : wr.heap.size ≠ hb := by have := P.b.st.lies.begins.lt; omega
      have ne8 : wr.heap.size ≠ hf := by have := P.b.row.lt; omega
      have HFin := Lib.hid P.a.st.fine
      have HTt := Lib.hid (alloc_total s bs tail (kd % 3) k l p P.a.st.fine)
      have HTl := Lib.hid (alloc_length s bs obs tail (kd % 3) k l p)
      clear P PX LX HP5 hfit
      by_cases h200 : 200 ≤ kd
      · have r0 : 0 ≤ kd % 3 := by omega
        have r1 : kd % 3 < ((bs.length : Nat) : Int) := by rw [HPX.out.bl]; omega
        have HL := Lib.hid (fun W A => Left_any (w := W) (ga := ga) (gf := gf) (g := g) (gw := gw) (gb := gb) (size := s) (bs := bs) (obs := obs) (tail := tail) A (kd % 3))
        have HRa := Lib.hid (fun W A => Retire_any (w := W) (ga := ga) (gf := gf) (g := g) (gw := gw) (gb := gb) (size := s) (bs := bs) (obs := obs) (tail := tail) A (kd % 3))
        have HRb := Lib.hid (fun W A => Retire_any (w := W) (ga := ha) (gf := hf) (g := h) (gw := hw) (gb := hb) (size := s) (bs := bs) (obs := obs) (tail := tail) A (kd % 3))
        have HL2 := Lib.hid (fun W A => Left_any (w := W) (ga := ga) (gf := gf) (g := g) (gw := gw) (gb := gb) (size := s) (bs := (retireA bs (kd % 3)).2) (obs := obs) (tail := tail) A (kd % 3))
        rw [left_retired bs obs (kd % 3) r0 r1] at HL2
        have nn := left_nn HFin.out bs (kd % 3)
        have HRl := Lib.hid (retire_length bs (kd % 3))
        generalize leftA bs obs (kd % 3) = Q at *
        obtain ⟨q, cq⟩ := Q
        generalize retireA bs (kd % 3) = R at *
        obtain ⟨cr, bs2⟩ := R
        simp only at HL HRa HRb HL2 HRl nn
        have HNz := Lib.hid HPX.out.len
        have m0 : (wr.alloc X).cell? ⟨wr.heap.size, 0, none⟩ = some (.int .u8 kd) := HLX.out.cell 0
        subst hX
        clear r1 HFin
        go_wp2_with fail
        refine (HL.out _ HPX.out.a).mono ?_
        rintro e w6 ⟨rfl, hb6⟩
        have HP6 := Lib.hid (HPX.out.kept hb6)
        clear hb6 HPX HLX m0
        go_wp2_with fail
        refine (words_z HP6.out.a.st n HNz.out).mono ?_
        rintro e w7 ⟨rfl, L7, hb7⟩
        have HP7 := Lib.hid (HP6.out.kept hb7)
        have HL7 := Lib.hid L7
        have u1 : w6.heap.size ≠ g := by have := HP6.out.a.st.lies.own.lt; omega
        have u2 : w6.heap.size ≠ gw := by have := HP6.out.a.st.lies.words.lt; omega
        have u3 : w6.heap.size ≠ gb := by have := HP6.out.a.st.lies.begins.lt; omega
        have u4 : w6.heap.size ≠ gf := by have := HP6.out.a.row.lt; omega
        have u5 : w6.heap.size ≠ h := by have := HP6.out.b.st.lies.own.lt; omega
        have u6 : w6.heap.size ≠ hw := by have := HP6.out.b.st.lies.words.lt; omega
        have u7 : w6.heap.size ≠ hb := by have := HP6.out.b.st.lies.begins.lt; omega
        have u8 : w6.heap.size ≠ hf := by have := HP6.out.b.row.lt; omega
        clear hb7 L7 HP6
        generalize w6.heap.size = b1 at *
        go_wp2_with fail
        refine (HRa.out _ HP7.out.a).mono ?_
        rintro e w8 ⟨rfl, A8, E8⟩
        obtain ⟨B8, O8⟩ := HP7.out.one FR.out E8
        have HL8 := Lib.hid (E8.lies HL7.out u1 u2 u3 u4)
        have HA8 := Lib.hid A8
        have HB8 := Lib.hid B8
        have HO8 := Lib.hid O8
        clear A8 B8 O8 E8 HL7
        go_wp2_with fail
        refine (HRb.out _ HB8.out).mono ?_
        rintro e w9 ⟨rfl, A9, E9⟩
        have P9 : Pair w w9 ga gf g gw gb ha hf h hw hb s n bs2 obs tail :=
          ⟨HA8.out.else4 E9 FR.out.a1 FR.out.a2 FR.out.a3 FR.out.a4 FR.out.a5, A9, HNz.out, HRl.out.trans HP7.out.bl, HO8.out.trans (E9.below HO8.out.size FR.out.p1 FR.out.p2 FR.out.p3 FR.out.p4)⟩
        have HL9 := Lib.hid (E9.lies HL8.out u5 u6 u7 u8)
        have HP9 := Lib.hid P9
        clear A9 E9 P9 HA8 HB8 HO8 HL8 HP7
        go_wp2_with fail
        refine (HL2.out _ HP9.out.a).mono ?_
        rintro e wa ⟨rfl, hba⟩
        have HPa := Lib.hid (HP9.out.kept hba)
        have HLa := Lib.hid (HL9.out.below hba HL9.out.lt)
        clear hba HP9 HL9 HL HL2 HRa HRb
        go_wp2_with fail
        refine (words_z HPa.out.a.st n HNz.out).mono ?_
        rintro e wb ⟨rfl, Lb, hbb⟩
        have HPb := Lib.hid (HPa.out.kept hbb)
        have HL1 := Lib.hid (HLa.out.below hbb HLa.out.lt)
        have HL2 := Lib.hid Lb
        clear hbb Lb HPa HLa
        generalize wa.heap.size = b2 at *
        go_wp2_with fail
        go_loopw [128, 24, 25] (fun i _ _ ws => ∃ m : Nat, m ≤ n ∧ i = .int .i64 m ∧ ws = wb) (fun i _ _ _ => n - (intOf i).toNat)
        case atStart => exact ⟨0, Nat.zero_le _, rfl, rfl⟩
        case round =>
          obtain ⟨m, hm, rfl, rfl⟩ := hrel
          by_cases hlt : m < n
          · have v1 : wr.cell? ⟨b1, m, none⟩ = some (.int .i64 ((flat obs ++ tail).getD m 0)) := (HL1.out.cell m).trans (by rw [← HNz.out] at hlt; simp only [List.getElem?_map, List.getElem?_eq_getElem hlt]; simp [List.getD, List.getElem?_eq_getElem hlt])
            have v2 : wr.cell? ⟨b2, m, none⟩ = some (.int .i64 ((flat obs ++ tail).getD m 0)) := (HL2.out.cell m).trans (by rw [← HNz.out] at hlt; simp only [List.getElem?_map, List.getElem?_eq_getElem hlt]; simp [List.getD, List.getElem?_eq_getElem hlt])
            generalize (flat obs ++ tail).getD m 0 = z at *
            have hzz : (z != z) = false := by simp
            have i0 : (0 : Int) ≤ (m : Int) := by omega
            have i1 : (m : Int) < (n : Int) := by omega
            go_wp2
            exact ⟨⟨m + 1, by omega, by go_num, trivial⟩, by simp [intOf]; omega⟩
          · go_wp2
            exact ⟨⟨j + 1, _, _, _, by omega, by go_num, HPb.out⟩, by simp [intOf]; omega⟩
      · have g200 : kd < 200 := by omega
        have HA := Lib.hid (fun W A => Alloc_any (w := W) (ga := ga) (gf := gf) (g := g) (gw := gw) (gb := gb) (size := s) (bs := bs) (obs := obs) (tail := tail) A (kd % 3) k l p)
        have HB := Lib.hid (fun W A => Alloc_any (w := W) (ga := ha) (gf := hf) (g := h) (gw := hw) (gb := hb) (size := s) (bs := bs) (obs := obs) (tail := tail) A (kd % 3) k l p)
        generalize allocF s bs obs tail (kd % 3) k l p = R at *
        obtain ⟨r, cd, bs2, obs2, tail2⟩ := R
        simp only at HA HB HTt HTl
        have m2 : (wr.alloc X).cell? ⟨wr.heap.size, 2, none⟩ = some (.int .i64 k) := HLX.out.cell 2
        have m3 : (wr.alloc X).cell? ⟨wr.heap.size, 3, none⟩ = some (.int .i64 l) := HLX.out.cell 3
        have m4 : (wr.alloc X).cell? ⟨wr.heap.size, 4, none⟩ = some (.int .i64 p) := HLX.out.cell 4
        have m0 : (wr.alloc X).cell? ⟨wr.heap.size, 0, none⟩ = some (.int .u8 kd) := HLX.out.cell 0
        subst hX
        clear h200
        go_wp2_with fail
        refine (HA.out _ HPX.out.a).mono ?_
        rintro e w6 ⟨rfl, A6, E6⟩
        obtain ⟨B6, O6⟩ := HPX.out.one FR.out E6
        have LX6 := E6.lies HLX.out ne1 ne2 ne3 ne4
        clear m0 m2 m3 m4
        have m2 : w6.cell? ⟨wr.heap.size, 2, none⟩ = some (.int .i64 k) := LX6.cell 2
        have m3 : w6.cell? ⟨wr.heap.size, 3, none⟩ = some (.int .i64 l) := LX6.cell 3
        have m4 : w6.cell? ⟨wr.heap.size, 4, none⟩ = some (.int .i64 p) := LX6.cell 4
        have HA6 := Lib.hid A6
        have HB6 := Lib.hid B6
        have HO6 := Lib.hid O6
        clear A6 E6 B6 O6 LX6
        go_wp2_with fail
        refine (HB.out _ HB6.out).mono ?_
        rintro e w7 ⟨rfl, A7, E7⟩
        have P7 : Pair w w7 ga gf g gw gb ha hf h hw hb s n bs2 obs2 tail2 :=
          ⟨HA6.out.else4 E7 FR.out.a1 FR.out.a2 FR.out.a3 FR.out.a4 FR.out.a5, A7, HTt.out.trans HPX.out.len, HTl.out.trans HPX.out.bl, HO6.out.trans (E7.below HO6.out.size FR.out.p1 FR.out.p2 FR.out.p3 FR.out.p4)⟩
        obtain ⟨N, hN⟩ : ∃ N, (flat obs2).length = N := ⟨_, rfl⟩
        have HNN := Lib.hid hN
        have HP7 := Lib.hid P7
        have e1 : (r != r) = false := by simp
        have e2 : (cd != cd) = false := by simp
        have e3 : ((N : Int) != (N : Int)) = false := by simp
        clear hN P7 A7 E7 m2 m3 m4 HA HB HA6 HB6 HO6 HPX
        go_wp2_with fail
        refine (top_n HP7.out.a.st N HNN.out).mono ?_
        rintro e w8 ⟨rfl, rfl⟩
        go_wp2_with fail
        refine (top_n HP7.out.b.st N HNN.out).mono ?_
        rintro e w8 ⟨rfl, rfl⟩
        go_wp2
        exact ⟨⟨j + 1, _, _, _, by omega, by go_num, HP7.out⟩, by simp [intOf]; omega⟩
    · have HNz := Lib.hid P.len
      have HP := Lib.hid P
      clear P HP5
      go_wp2_with fail
      refine (words_z HP.out.a.st n HNz.out).mono ?_
      rintro e wb ⟨rfl, Lb, hbb⟩
      have HPb := Lib.hid (HP.out.kept hbb)
      have HL1 := Lib.hid Lb
      clear hbb Lb HP
      generalize wr.heap.size = b1 at *
      go_wp2_with fail
      go_loopw [175, 30, 31] (fun i _ _ ws => ∃ m : Nat, m ≤ n ∧ i = .int .i64 m ∧ Below wb.heap.size wb ws) (fun i _ _ _ => n - (intOf i).toNat)
      case atStart => exact ⟨0, Nat.zero_le _, rfl, Below.refl _ _⟩
      case round =>
        obtain ⟨m, hm, rfl, hbr⟩ := hrel
        have HPr := Lib.hid (HPb.out.kept hbr)
        have HLr := Lib.hid (HL1.out.below hbr HL1.out.lt)
        have HBr := Lib.hid hbr
        clear hbr
        by_cases hlt : m < n
        · have hcell : ∀ W b, Lies W b 3 ((flat obs ++ tail).map (Value.int .i64)) → W.cell? ⟨b, m, none⟩ = some (.int .i64 ((flat obs ++ tail).getD m 0)) := fun W b hl => (hl.cell m).trans (by rw [← HNz.out] at hlt; simp only [List.getElem?_map, List.getElem?_eq_getElem hlt]; simp [List.getD, List.getElem?_eq_getElem hlt])
          have HC := Lib.hid hcell
          have v1 := hcell _ _ HLr.out
          clear hcell
          have HW := Lib.hid (words_z HPr.out.b.st n HNz.out)
          generalize (flat obs ++ tail).getD m 0 = z at *
          have hzz : (z != z) = false := by simp
          have i0 : (0 : Int) ≤ (m : Int) := by omega
          have i1 : (m : Int) < (n : Int) := by omega
          go_wp2_with fail
          refine HW.out.mono ?_
          rintro e wc ⟨rfl, Lc, hbc⟩
          have v2 := HC.out _ _ Lc
          have HBc := Lib.hid (on HBr.out HBr.out.size hbc)
          clear Lc hbc v1
          go_wp2
          exact ⟨⟨m + 1, by omega, by go_num, HBc.out⟩, by simp [intOf]; omega⟩
        · go_wp2
          go_ret
          exact ⟨rfl, HPr.out.old⟩
end Go.Proofs.Ytibfhpbklnpknaa
