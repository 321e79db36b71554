/- The walk of AllocLarge. -/
import Derived.Test.YtibfhpbklnpknaaAlNew
import Derived.Test.YtibfhpbklnpknaaAlRead
import Derived.Test.YtibfhpbklnpknaaIs
import Derived.Deep.DeepCutAuto
namespace Go.Proofs.Ytibfhpbklnpknaa
open Go.RowKit
set_option linter.unusedVariables false
set_option linter.unusedSimpArgs false

/-- The first two that stand there: an object without words, and the rest of the buffer. -/
def two (s : Nat) : List Ob := [(packW 0 0 0, []), (packW 15 ((s : Int) - 2) 0, zeros ((s : Int) - 2))]

theorem pack_len (k l p : Int) (hg : goodB k l p = true) : packW k l p / 65536 = l := (head_pack hg).2.2.1
theorem pack_kind (k l p : Int) (hg : goodB k l p = true) : packW k l p % 16 = k := (head_pack hg).2.1

theorem large_first (s N : Nat) (h1 : 8 ≤ s) (h2 : s ≤ 255) (hN : 255 ≤ N) :
    allocF s [0, 0] [] (List.replicate N 0) 0 0 0 0 = (0, 0, [2, 0], two s, List.replicate (N - s) 0) := by
  have g15 : goodB 15 ((s : Int) - 1) 0 = true := good_yes (by omega)
  have e1 : placeF [] (List.replicate N 0) 15 ((s : Int) - 1) 0 = (0, 0, [(packW 15 ((s : Int) - 1) 0, zeros ((s : Int) - 1))], List.replicate (N - s) 0) := by
    unfold placeF
    rw [if_neg (by rw [g15]; simp), if_neg (by simp; omega)]
    have : N - (1 + ((s : Int) - 1).toNat) = N - s := by omega
    rw [List.drop_replicate, this]
    simp [flat_nil]
  have e2 : renewF s [0, 0] [] (List.replicate N 0) 0 = (true, [1, 0], [(packW 15 ((s : Int) - 1) 0, zeros ((s : Int) - 1))], List.replicate (N - s) 0) := by
    unfold renewF
    rw [e1]
    rfl
  have e3 : splitF [(packW 15 ((s : Int) - 1) 0, zeros ((s : Int) - 1))] 0 0 0 0 = (1, 0, two s) := by
    unfold splitF
    simp only [look, if_pos]
    rw [if_neg (by rw [pack_kind _ _ _ g15]; simp), if_neg (by decide), pack_len _ _ _ g15, if_neg (by omega), if_neg (by omega)]
    simp only [two, zeros]
    have : (s : Int) - 1 - 0 - 1 = (s : Int) - 2 := by omega
    rw [this]
    rfl
  have e4 : cutF [1, 0] [(packW 15 ((s : Int) - 1) 0, zeros ((s : Int) - 1))] 0 0 0 0 = (0, [2, 0], two s) := by
    unfold cutF
    have : ([1, 0] : List Int).getD 0 0 - 1 = 0 := rfl
    rw [this, e3]
    rfl
  have o1 : objB 0 0 0 = true := by decide
  unfold allocF
  rw [if_neg (by rw [o1]; simp), if_neg (by omega), if_pos (by simp [leftF])]
  simp only [Int.toNat_zero]
  rw [e2]
  simp only
  rw [if_neg (by simp), e4]

theorem two_flat (s : Nat) (h1 : 8 ≤ s) : (flat (two s)).length = s := by
  simp [two, flat_cons, flat_nil, zeros]; omega

theorem large_left (s : Nat) (L : List Ob) (h1 : 8 ≤ s) (h2 : s ≤ 255) : leftA [2, 0] (two s ++ L) 0 = ((s : Int) - 1, 0) := by
  have g15 : goodB 15 ((s : Int) - 2) 0 = true := good_yes (by omega)
  have e : look (two s ++ L) 1 = some ([(packW 0 0 0, [])], (packW 15 ((s : Int) - 2) 0, zeros ((s : Int) - 2)), L) := look_here [(packW 0 0 0, [])] (packW 15 ((s : Int) - 2) 0, zeros ((s : Int) - 2)) L
  unfold leftA leftF headF
  have b : ([2, 0] : List Int).getD (0 : Int).toNat 0 = 2 := rfl
  rw [if_pos (by simp), b]
  have c : (2 : Int) - 1 = 1 := rfl
  rw [c, e]
  simp only [pack_len _ _ _ g15]
  rw [if_neg (by omega)]
  congr 1
  omega
theorem large_right (s : Nat) (L : List Ob) : leftA [2, 0] (two s ++ L) 1 = (0, 0) := rfl

theorem large_next (s : Nat) (obs : List Ob) (tail : List Int) (n t : Int) (h1 : 8 ≤ s) (h2 : s ≤ 255) (hn : 0 ≤ n) (hn' : n ≤ 255) (ht : 0 ≤ t) (ht' : t ≤ 1) (hr : 1 + ((s : Int) / 2 + n).toNat ≤ tail.length) :
    allocF s [2, 0] obs tail t 1 ((s : Int) / 2 + n) 0 = ((((flat obs).length : Nat) : Int), 0, [2, 0], obs ++ [(packW 1 ((s : Int) / 2 + n) 0, zeros ((s : Int) / 2 + n))], tail.drop (1 + ((s : Int) / 2 + n).toNat)) := by
  have g1 : goodB 1 ((s : Int) / 2 + n) 0 = true := good_yes (by omega)
  have o1 : objB 1 ((s : Int) / 2 + n) 0 = true := by unfold objB; rw [g1]; rfl
  have e1 : placeF obs tail 1 ((s : Int) / 2 + n) 0 = ((((flat obs).length : Nat) : Int), 0, obs ++ [(packW 1 ((s : Int) / 2 + n) 0, zeros ((s : Int) / 2 + n))], tail.drop (1 + ((s : Int) / 2 + n).toNat)) := by
    unfold placeF
    rw [if_neg (by rw [g1]; simp), if_neg (by omega)]
  unfold allocF
  rw [if_neg (by rw [o1]; simp; omega), if_pos (by omega)]
  unfold placeA
  rw [e1]
  rfl

/-- Behind some large ones. -/
structure Lg (w W : World) (ga gf g gw gb s j : Nat) (top : Int) (L : List Ob) (tail : List Int) : Prop where
  al : Al W ga gf g gw gb s [2, 0] (two s ++ L) tail
  top_ : top = (((flat (two s ++ L)).length : Nat) : Int)
  most : (flat (two s ++ L)).length ≤ 255 + 383 * j
  room : (flat (two s ++ L)).length + tail.length = 20000
  old : Below w.heap.size w W

theorem Lg.next {w W W' : World} {ga gf g gw gb s j : Nat} {top n : Int} {L : List Ob} {tail : List Int} (h : Lg w W ga gf g gw gb s j top L tail) (hn : 0 ≤ n) (hn' : n ≤ 255) (s2 : s ≤ 255)
    (A : Al W' ga gf g gw gb s [2, 0] ((two s ++ L) ++ [(packW 1 ((s : Int) / 2 + n) 0, zeros ((s : Int) / 2 + n))]) (tail.drop (1 + ((s : Int) / 2 + n).toNat))) (hr : 1 + ((s : Int) / 2 + n).toNat ≤ tail.length) (hb : Below w.heap.size w W') :
    Lg w W' ga gf g gw gb s (j + 1) (top + (1 + (s : Int) / 2 + n)) (L ++ [(packW 1 ((s : Int) / 2 + n) 0, zeros ((s : Int) / 2 + n))]) (tail.drop (1 + ((s : Int) / 2 + n).toNat)) := by
  have e : (flat ((two s ++ L) ++ [(packW 1 ((s : Int) / 2 + n) 0, zeros ((s : Int) / 2 + n))])).length = (flat (two s ++ L)).length + (1 + ((s : Int) / 2 + n).toNat) := by
    rw [flat_append, List.length_append]
    simp [flat_cons, flat_nil, zeros]
    omega
  have ht := h.top_
  have hm := h.most
  have hr2 := h.room
  rw [List.append_assoc] at A e
  refine ⟨A, ?_, ?_, ?_, hb⟩
  · rw [e]; omega
  · rw [e]; omega
  · rw [e, List.length_drop]; omega
theorem Lg.kept {w W W' : World} {ga gf g gw gb s j : Nat} {top : Int} {L : List Ob} {tail : List Int} (h : Lg w W ga gf g gw gb s j top L tail) (hb : Below W.heap.size W W') : Lg w W' ga gf g gw gb s j top L tail :=
  ⟨h.al.kept hb, h.top_, h.most, h.room, on h.old h.old.size hb⟩
theorem Lg.top {w W : World} {ga gf g gw gb s j : Nat} {top : Int} {L : List Ob} {tail : List Int} (h : Lg w W ga gf g gw gb s j top L tail) :
    Calls Try.prog 23 #[.pointer (some ⟨g, 0, none⟩)] W fun e w' => e = .returned (.int .i64 top) ∧ W = w' :=
  (top_n h.al.st _ rfl).mono fun e w' ⟨he, hw⟩ => ⟨by rw [he, h.top_], hw⟩
theorem Lg.left {w W : World} {ga gf g gw gb s j : Nat} {top : Int} {L : List Ob} {tail : List Int} (h : Lg w W ga gf g gw gb s j top L tail) (s1 : 8 ≤ s) (s2 : s ≤ 255) :
    Calls Try.prog 14 #[.pointer (some ⟨ga, 0, none⟩), .int .i64 0] W fun e w' => e = .returned (.tuple #[.int .i64 ((s : Int) - 1), .int .i64 0]) ∧ Lg w w' ga gf g gw gb s j top L tail :=
  (Left_any h.al 0).mono fun e w' ⟨he, hw⟩ => ⟨by rw [he, large_left s L s1 s2], h.kept hw⟩
theorem Lg.right {w W : World} {ga gf g gw gb s j : Nat} {top : Int} {L : List Ob} {tail : List Int} (h : Lg w W ga gf g gw gb s j top L tail) :
    Calls Try.prog 14 #[.pointer (some ⟨ga, 0, none⟩), .int .i64 1] W fun e w' => e = .returned (.tuple #[.int .i64 0, .int .i64 0]) ∧ Lg w w' ga gf g gw gb s j top L tail :=
  (Left_any h.al 1).mono fun e w' ⟨he, hw⟩ => ⟨by rw [he, large_right s L], h.kept hw⟩

set_option maxRecDepth 100000 in
set_option maxHeartbeats 1000000 in
theorem large_yes (x : Int) (B : Option Addr) (c : Nat) (zs : List Int) (w : World) (hx : 0 ≤ x) (hx' : x ≤ 255) (h2 : zs.length ≤ 20) (hd : RowB w B zs) (hz : ∀ z ∈ zs, 0 ≤ z ∧ z ≤ 255) :
    Calls Try.prog 5 #[.int .u8 x, .slice B zs.length c] w fun e w' => e = .returned (.bool true) ∧ Below w.heap.size w w' := by
  obtain ⟨s, hs⟩ : ∃ s, sizeF x = s := ⟨_, rfl⟩
  have s1 : 8 ≤ s := by rw [← hs]; unfold sizeF; omega
  have s2 : s ≤ 255 := by rw [← hs]; unfold sizeF; omega
  have HS := Lib.hid hs
  have d1 : decide ((20 : Int) < (zs.length : Int)) = false := by simp; omega
  have HD := Lib.hid hd
  have HZ := Lib.hid hz
  have hnil := fun W g => anil_ne W g
  have HF := Lib.hid (large_first s 20000 s1 s2 (by omega))
  clear hd hz hs
  go_enter Try.func5, Try.ntmps5
  go_wp2_with fail
  refine (awake_any _).mono ?_
  rintro e w1 ⟨rfl, hb1⟩
  have HB1 := Lib.hid hb1
  clear hb1
  go_upto_region 3 with fail
  go_cut [5] (fun v5 wx => v5 = .int .i64 (s : Int) ∧ wx = w1)
  case first =>
    go_wp2
    all_goals go_meet
    all_goals refine ⟨?_, rfl⟩
    all_goals (congr 1; have := HS.out; unfold sizeF at this; omega)
  case rest =>
  obtain ⟨rfl, rfl⟩ := hcut
  go_wp2_with fail
  refine (new_st 20000 _ (by omega) (by omega)).mono ?_
  rintro e w2 ⟨g, gw, gb, rfl, hb2, q1, q2, q3, S2⟩
  have sz1 := HB1.out.size
  have HB2 := Lib.hid (on HB1.out HB1.out.size hb2)
  have HS2 := Lib.hid S2
  clear hb2 S2
  go_wp2_with fail
  refine (anew_yes HS2.out 2 x (by omega) (by omega)).mono ?_
  rintro e w3 ⟨ga, gf, rfl, A3, hb3, q4, q5⟩
  have sz2 := HB2.out.size
  have HB3 := Lib.hid (on HB2.out HB2.out.size hb3)
  have e2 : List.replicate 2 (0 : Int) = [0, 0] := rfl
  rw [e2, HS.out] at A3
  have HA := Lib.hid (Alloc_any A3 0 0 0 0)
  rw [HF.out] at HA
  have G1 : w.heap.size ≤ g := by omega
  have G2 : w.heap.size ≤ gw := by omega
  have G3 : w.heap.size ≤ gb := by omega
  have G4 : w.heap.size ≤ gf := by omega
  clear A3 hb3 e2 q1 q2 q3 q4 q5 sz1 sz2 HF HS2
  go_wp2_with fail
  refine HA.out.mono ?_
  rintro e w4 ⟨rfl, A4, E4⟩
  have HB4 := Lib.hid (HB3.out.trans (E4.below HB3.out.size G1 G2 G3 G4))
  have HL := Lib.hid (Left_any A4 0)
  have e3 := large_left s [] s1 s2
  rw [List.append_nil] at e3
  rw [e3] at HL
  have HA4 := Lib.hid A4
  clear A4 E4 e3 HA
  go_wp2_with fail
  refine HL.out.mono ?_
  rintro e w5 ⟨rfl, hb5⟩
  have L5 : Lg w w5 ga gf g gw gb s 0 (s : Int) [] (List.replicate (20000 - s) 0) := by
    refine ⟨by rw [List.append_nil]; exact HA4.out.kept hb5, ?_, ?_, ?_, on HB4.out HB4.out.size hb5⟩
    · rw [List.append_nil, two_flat s s1]
    · rw [List.append_nil, two_flat s s1]; omega
    · rw [List.append_nil, two_flat s s1, List.length_replicate]; omega
  have HL5 := Lib.hid L5
  clear L5 hb5 HL HA4 HB4 HB3 HB2 HB1
  go_wp2
  go_loopw [82, 14, 16, 17, 18, 19, 20, 21, 22] (fun i v14 _ _ _ _ _ _ _ wr => ∃ (j : Nat) (top : Int) (L : List Ob) (tail : List Int), j ≤ zs.length ∧ i = .int .i64 j ∧ v14 = .int .i64 top ∧ Lg w wr ga gf g gw gb s j top L tail) (fun i _ _ _ _ _ _ _ _ _ => zs.length - (intOf i).toNat)
  case atStart => exact ⟨0, _, _, _, Nat.zero_le _, rfl, rfl, HL5.out⟩
  case round =>
    obtain ⟨j, top, L, tail, hj, rfl, rfl, T⟩ := hrel
    by_cases hjl : j < zs.length
    · obtain ⟨ad, rfl, c0⟩ := (HD.out.kept T.old).at_ hjl
      have hz0 := HZ.out zs[j] (List.getElem_mem hjl)
      generalize zs[j] = n at *
      have n0 := hz0.1
      have n1 := hz0.2
      have j0 : (0 : Int) ≤ (j : Int) := by omega
      have j1 : (j : Int) < (zs.length : Int) := by omega
      have hr : 1 + ((s : Int) / 2 + n).toNat ≤ tail.length := by
        have h1 := T.most
        have h2 := T.room
        have h3 : 383 * j ≤ 383 * 19 := Nat.mul_le_mul_left _ (by omega)
        omega
      have HA := Lib.hid (Alloc_any T.al (n % 2) 1 ((s : Int) / 2 + n) 0)
      rw [large_next s (two s ++ L) tail n (n % 2) s1 s2 n0 n1 (by omega) (by omega) hr, ← T.top_] at HA
      have t0 : 0 ≤ top := by rw [T.top_]; omega
      have t1 : top ≤ 20000 := by rw [T.top_]; have := T.room; omega
      have HT := Lib.hid T
      have HR := Lib.hid hr
      have eT : (top != top) = false := by simp
      have eS : ((s : Int) - 1 != (s : Int) - 1) = false := by simp
      have eU : (top + (1 + (s : Int) / 2 + n) != top + (1 + (s : Int) / 2 + n)) = false := by simp
      clear T hr HL5 hz0
      go_wp2_with fail
      refine HA.out.mono ?_
      rintro e w6 ⟨rfl, A6, E6⟩
      have HN := Lib.hid (HT.out.next n0 n1 s2 A6 HR.out (HT.out.old.trans (E6.below HT.out.old.size G1 G2 G3 G4)))
      clear A6 E6 HA HT
      go_wp2_with fail
      refine (HN.out.left s1 s2).mono ?_
      rintro e w7 ⟨rfl, L7⟩
      have HL7 := Lib.hid L7
      clear L7 HN
      go_wp2_with fail
      refine HL7.out.right.mono ?_
      rintro e w8 ⟨rfl, L8⟩
      have HL8 := Lib.hid L8
      clear L8 HL7
      go_wp2_with fail
      refine HL8.out.top.mono ?_
      rintro e w9 ⟨rfl, rfl⟩
      go_wp2
      exact ⟨⟨j + 1, _, _, _, by omega, by go_num, rfl, HL8.out⟩, by simp [intOf]; omega⟩
    · go_wp2
      go_ret
      exact ⟨rfl, T.old⟩
end Go.Proofs.Ytibfhpbklnpknaa
