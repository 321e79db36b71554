/- CellApart. -/
import Derived.Test.YtcabgnfeeimeiaaNear
namespace Go.Proofs.Ytcabgnfeeimeiaa
open Go.RowKit
set_option linter.unusedVariables false
set_option linter.unusedSimpArgs false

theorem words_n {w : World} {base g gw : Nat} {zs : List Int} {A : Option Addr} {c : Nat} {ts : List Tc} (h : At w base g gw zs A c ts) (n : Nat) (hn : zs.length = n) :
    Calls Try.prog 18 #[.pointer (some ⟨g, 0, none⟩)] w fun e w' => ∃ q, e = .returned (.slice (some ⟨q, 0, none⟩) n n) ∧ w.heap.size ≤ q ∧ Lies w' q 3 (zs.map (Value.int .i64)) ∧ Below w.heap.size w w' := by
  subst hn; exact words_q h

set_option maxHeartbeats 1000000 in
theorem apart_far (s : Int) (A : Option Addr) (c : Nat) (l : Nat) (w : World) (hl : 60 < l ∨ s = 0) : Calls Try.prog 7 #[.int .u8 s, .slice A l c] w fun e w' => e = .returned (.bool true) ∧ Below w.heap.size w w' := by
  have h1 : decide ((60 : Int) < (l : Int)) = true ∨ (decide ((60 : Int) < (l : Int)) = false ∧ (s == 0) = true) := by
    by_cases h2 : 60 < l
    · left; simp; omega
    · right; refine ⟨by simp; omega, ?_⟩
      rcases hl with h | h
      · omega
      · simp [h]
  clear hl
  rcases h1 with d1 | ⟨d1, d2⟩
  all_goals
    go_enter Try.func7, Try.ntmps7
    go_wp2_with fail
    refine (awake_any _).mono ?_
    rintro e w1 ⟨rfl, B1⟩
    go_wp2_with fail
    refine (awake_any _).mono ?_
    rintro e w2 ⟨rfl, B2⟩
    have HB := Lib.hid (on B1 B1.size B2)
    clear B1 B2
    go_wp2
    go_ret
    exact ⟨rfl, HB.out⟩

/-- What the inner loop keeps. -/
structure Inn (wr w : World) (g gw q1 q2 b s k : Nat) (Z0 Z1 : List Int) (A : Option Addr) (c : Nat) (ts : List Tc) (kd who place a b' : Int) (xs ys : List Int) : Prop where
  l1 : xs.length = s
  l2 : ys.length = s
  o1 : Lies wr q1 3 (xs.map (Value.int .i64))
  o2 : Lies wr q2 3 (ys.map (Value.int .i64))
  rest : ∀ m, k ≤ m → xs.getD m 0 = Z0.getD m 0 ∧ ys.getD m 0 = Z1.getD m 0
  box : Lies wr b 32 [.int .u8 kd, .int .i64 who, .int .i64 place, .int .i64 a, .int .i64 b']
  at_ : At wr w.heap.size g gw Z1 A c ts
  old : Below w.heap.size w wr

theorem Inn.draws {wr w : World} {g gw q1 q2 b s k : Nat} {Z0 Z1 : List Int} {A : Option Addr} {c : Nat} {ts : List Tc} {kd who place a b' : Int} {xs ys : List Int} (h : Inn wr w g gw q1 q2 b s k Z0 Z1 A c ts kd who place a b' xs ys) (n : Nat) :
    Inn (wr.drewN n) w g gw q1 q2 b s k Z0 Z1 A c ts kd who place a b' xs ys :=
  ⟨h.l1, h.l2, h.o1, h.o2, h.rest, h.box, h.at_.kept ⟨rfl, rfl, rfl, Nat.le_refl _, fun _ _ => rfl⟩, ⟨h.old.os, h.old.tape, h.old.output, h.old.size, h.old.block⟩⟩

theorem Inn.next {wr w : World} {g gw q1 q2 b s k : Nat} {Z0 Z1 : List Int} {A : Option Addr} {c : Nat} {ts : List Tc} {kd who place a b' : Int} {xs ys : List Int} (h : Inn wr w g gw q1 q2 b s k Z0 Z1 A c ts kd who place a b' xs ys)
    (h1 : q1 ≠ gw) (h2 : q2 ≠ gw) (h12 : q1 ≠ q2) (w1 : w.heap.size ≤ q1) (w2 : w.heap.size ≤ q2) :
    Inn ((wr.setCell ⟨q1, k, none⟩ (.int .i64 (-9))).setCell ⟨q2, k, none⟩ (.int .i64 (-9))) w g gw q1 q2 b s (k + 1) Z0 Z1 A c ts kd who place a b' (xs.set k (-9)) (ys.set k (-9)) := by
  have hb1 : b ≠ q1 := h.box.apart h.o1 (by decide)
  have hb2 : b ≠ q2 := h.box.apart h.o2 (by decide)
  refine ⟨by simp [h.l1], by simp [h.l2], ?_, ?_, ?_, ?_, ?_, ?_⟩
  · rw [← set_map]; exact (h.o1.set k _).far (p := ⟨q2, k, none⟩) h12 _
  · rw [← set_map]; exact (h.o2.far (p := ⟨q1, k, none⟩) h12.symm _).set k _
  · intro m hm
    obtain ⟨e1, e2⟩ := h.rest m (by omega)
    have : k ≠ m := by omega
    simp only [List.getD, List.getElem?_set, this, if_false] at e1 e2 ⊢
    exact ⟨e1, e2⟩
  · exact (h.box.far (p := ⟨q1, k, none⟩) hb1 _).far (p := ⟨q2, k, none⟩) hb2 _
  · exact (h.at_.far h.o1 h1 k _).far (h.o2.far (p := ⟨q1, k, none⟩) h12.symm _) h2 k _
  · exact (h.old.setCell (p := ⟨q1, k, none⟩) w1 _).setCell (p := ⟨q2, k, none⟩) w2 _

theorem cell_at {w : World} {q : Nat} {xs : List Int} (h : Lies w q 3 (xs.map (Value.int .i64))) {k : Nat} (hk : k < xs.length) : w.cell? ⟨q, k, none⟩ = some (.int .i64 (xs.getD k 0)) := by
  rw [h.cell k]; simp [List.getD, hk]

set_option maxRecDepth 100000 in
set_option maxHeartbeats 2000000 in
theorem apart_near (s : Nat) (B : Option Addr) (c : Nat) (ds : List Deed) (w : World) (hs : 1 ≤ s) (hs' : s ≤ 255) (hl : ds.length ≤ 60) (hd : Deeds w B ds) (hf : ∀ d ∈ ds, d.fit) :
    Calls Try.prog 7 #[.int .u8 (s : Int), .slice B ds.length c] w fun e w' => e = .returned (.bool true) ∧ Below w.heap.size w w' := by
  have d1 : decide ((60 : Int) < (ds.length : Int)) = false := by simp; omega
  have s0 : ((s : Int) == 0) = false := by rw [beq_eq_false_iff_ne]; omega
  have hnil := fun W g => nil_ne W g
  have HD := Lib.hid hd
  have HF := Lib.hid hf
  clear hd hf
  go_enter Try.func7, Try.ntmps7
  go_wp2_with fail
  refine (awake_any _).mono ?_
  rintro e w1 ⟨rfl, B1⟩
  have HB1 := Lib.hid B1
  clear B1
  go_wp2_with fail
  refine (new_yes s w1 w.heap.size HB1.out.size hs (by omega)).mono ?_
  rintro e w2 ⟨g, gw, rfl, B2, q1, q2, H2⟩
  have HB2 := Lib.hid (on HB1.out HB1.out.size B2)
  have HH2 := Lib.hid H2
  clear B2 H2 HB1 q1 q2
  go_wp2
  go_loopw [38] (fun i wr => ∃ (j : Nat) (A' : Option Addr) (c' : Nat) (zs : List Int) (ts : List Tc), j ≤ ds.length ∧ i = .int .i64 j ∧ zs.length = s ∧ ts.length ≤ j ∧ At wr w.heap.size g gw zs A' c' ts ∧ Below w.heap.size w wr) (fun i _ => ds.length - (intOf i).toNat)
  case atStart => exact ⟨0, _, _, _, _, Nat.zero_le _, rfl, by simp, by simp, HH2.out, HB2.out⟩
  case round =>
    obtain ⟨j, A', c', zs, ts, hj, rfl, hzs, hts, H, BB⟩ := hrel
    have HZ := Lib.hid hzs
    have HT := Lib.hid hts
    have HH := Lib.hid H
    have HB := Lib.hid BB
    clear hts H BB HH2 HB2 hzs
    by_cases hjl : j < ds.length
    · obtain ⟨ad, rfl, c0, c1, c2, c3, c4⟩ := HD.out.at_ hjl wr HB.out
      have hft := HF.out ds[j] (List.getElem_mem hjl)
      generalize ds[j] = d at c0 c1 c2 c3 c4 hft
      obtain ⟨kd, who, place, a, b'⟩ := d
      obtain ⟨⟨hk0, hk1⟩, -⟩ := hft
      simp only at c0 c1 c2 c3 c4 hk0 hk1
      have j0 : (0 : Int) ≤ (j : Int) := by omega
      have j1 : (j : Int) < (ds.length : Int) := by omega
      obtain ⟨X, hX⟩ : ∃ X : Obj, X = .cells #[.int .u8 kd, .int .i64 who, .int .i64 place, .int .i64 a, .int .i64 b'] 32 := ⟨_, rfl⟩
      have LX : Hid (Lies (wr.alloc X) wr.heap.size 32 [.int .u8 kd, .int .i64 who, .int .i64 place, .int .i64 a, .int .i64 b']) := Lib.hid (by rw [hX]; exact Lies.new wr 32 [_, _, _, _, _])
      have BX := below_one wr X
      have HX := Lib.hid (HH.out.kept BX)
      have HBX := Lib.hid (on HB.out HB.out.size BX)
      clear BX
      have hkd : kd % 4 = 0 ∨ kd % 4 = 1 ∨ kd % 4 = 2 ∨ kd % 4 = 3 := by omega
      rcases hkd with hkd | hkd | hkd | hkd
      · go_wp2_with fail
        rw [← hX]
        refine (words_n HX.out s HZ.out).mono ?_
        rintro e w3 ⟨q1, rfl, hq1, L3, B3⟩
        have HO1 := Lib.hid (HX.out.kept B3)
        have HL3 := Lib.hid L3
        have LX3 := Lib.hid (LX.out.kept B3)
        have HB3 := Lib.hid (on HBX.out HBX.out.size B3)
        have HQ1 : Hid (q1 ≠ gw ∧ w.heap.size ≤ q1) := Lib.hid ⟨by have := HX.out.words.lt; omega, by have := HBX.out.size; omega⟩
        have m0 : w3.cell? ⟨wr.heap.size, 0, none⟩ = some (.int .u8 kd) := LX3.out.cell 0
        have m1 : w3.cell? ⟨wr.heap.size, 1, none⟩ = some (.int .i64 who) := LX3.out.cell 1
        have m2 : w3.cell? ⟨wr.heap.size, 2, none⟩ = some (.int .i64 place) := LX3.out.cell 2
        have m3 : w3.cell? ⟨wr.heap.size, 3, none⟩ = some (.int .i64 a) := LX3.out.cell 3
        have m4 : w3.cell? ⟨wr.heap.size, 4, none⟩ = some (.int .i64 b') := LX3.out.cell 4
        clear L3 B3 HX LX HBX hq1 c0 c1 c2 c3 c4 hX
        go_wp2_with fail
        refine (load_near HO1.out (by have := HT.out; omega) who place).mono ?_
        rintro e w4 ⟨v, rfl, A4, c4, Z1, ts4, H4, E4, hl4, ht4, hsame⟩
        have HH4 := Lib.hid H4
        have HE4 := Lib.hid E4
        have L4 := Lib.hid (HO1.out.else_lies E4 HL3.out (by decide) (by decide) HQ1.out.1)
        have LX4 := Lib.hid (HO1.out.else_lies E4 LX3.out (by decide) (by decide) (by have h1 := LX3.out.apart HO1.out.words (by decide); exact h1))
        have HB4 := Lib.hid (HB3.out.trans (HO1.out.below E4))
        have HS4 := Lib.hid hsame
        have HN4 : Hid (Z1.length = s) := Lib.hid (hl4.trans HZ.out)
        have HT4 : Hid (ts4.length ≤ j + 1) := Lib.hid (by have := HT.out; omega)
        clear H4 E4 hsame hl4 ht4 HO1 HL3 LX3 HB3 m0 m1 m2 m3 m4
        go_wp2_with fail
        refine (words_n HH4.out s HN4.out).mono ?_
        rintro e w5 ⟨q2, rfl, hq2, L5, B5⟩
        have HQ2 : Hid (q2 ≠ gw ∧ q1 ≠ q2 ∧ w.heap.size ≤ q2) := Lib.hid ⟨by have := HH4.out.words.lt; omega, by have := L4.out.lt; omega, by have := HB4.out.size; omega⟩
        have I5 : Hid (Inn w5 w g gw q1 q2 wr.heap.size s 0 zs Z1 A4 c4 ts4 kd who place a b' zs Z1) := Lib.hid ⟨HZ.out, HN4.out, L4.out.kept B5, L5, fun _ _ => ⟨rfl, rfl⟩, LX4.out.kept B5, HH4.out.kept B5, on HB4.out HB4.out.size B5⟩
        clear L5 B5 L4 LX4 HH4 HB4 HE4 hq2 HB HH
        have s1 : ((s : Int) != (s : Int)) = false := by simp
        go_wp2
        go_loopw [94] (fun i wi => ∃ (k : Nat) (xs ys : List Int), k ≤ s ∧ i = .int .i64 k ∧ Inn wi w g gw q1 q2 wr.heap.size s k zs Z1 A4 c4 ts4 kd who place a b' xs ys) (fun i _ => s - (intOf i).toNat)
        case atStart => exact ⟨0, _, _, Nat.zero_le _, rfl, I5.out⟩
        case round =>
          obtain ⟨k, xs, ys, hk, rfl, I⟩ := hrel
          have HI := Lib.hid I
          clear I I5
          by_cases hks : k < s
          · have k0 : (0 : Int) ≤ (k : Int) := by omega
            have k1 : (k : Int) < (s : Int) := by omega
            have hx := cell_at HI.out.o1 (show k < xs.length by have := HI.out.l1; omega)
            have hy := cell_at HI.out.o2 (show k < ys.length by have := HI.out.l2; omega)
            have fx := HI.out.o1.frozen k
            have fy := HI.out.o2.frozen k
            obtain ⟨e1, e2⟩ := HI.out.rest k (Nat.le_refl _)
            rw [e1] at hx
            rw [e2] at hy
            clear e1 e2
            have n0 := HI.out.box.cell 0
            have n2 := HI.out.box.cell 2
            simp only [List.getElem?_cons_zero, List.getElem?_cons_succ] at n0 n2
            have h12 := HQ2.out.2.1
            have N := Lib.hid (HI.out.next HQ1.out.1 HQ2.out.1 HQ2.out.2.1 HQ1.out.2 HQ2.out.2.2)
            have ND := Lib.hid (fun n => ((HI.out.draws n).next HQ1.out.1 HQ2.out.1 HQ2.out.2.1 HQ1.out.2 HQ2.out.2.2))
            by_cases hkp : (k : Int) = place
            · have hne : ((k : Int) != place) = false := by simp [hkp]
              have hxy := HS4.out k (Or.inr (by trivial))
              rw [hxy] at hy
              clear hxy hkp
              generalize zs.getD k 0 = x at hx hy
              have xx : (x != x) = false := by simp
              go_wp2_with fail
              go_quiet (fail)
              go_wp2
              exact ⟨⟨k + 1, _, _, by omega, by go_num, ND.out _⟩, by simp [intOf]; omega⟩
            · have hne : ((k : Int) != place) = true := by simp [hkp]
              have hxy := HS4.out k (Or.inl hkp)
              rw [hxy] at hy
              clear hxy hkp
              generalize zs.getD k 0 = x at hx hy
              have xx : (x != x) = false := by simp
              go_wp2_with fail
              go_quiet (fail)
              go_wp2
              exact ⟨⟨k + 1, _, _, by omega, by go_num, ND.out _⟩, by simp [intOf]; omega⟩
          · go_wp2
            exact ⟨⟨j + 1, _, _, _, _, by omega, by go_num, HN4.out, HT4.out, HI.out.at_, HI.out.old⟩, by simp [intOf]; omega⟩
      · go_wp2_with fail
        rw [← hX]
        refine (words_n HX.out s HZ.out).mono ?_
        rintro e w3 ⟨q1, rfl, hq1, L3, B3⟩
        have HO1 := Lib.hid (HX.out.kept B3)
        have HL3 := Lib.hid L3
        have LX3 := Lib.hid (LX.out.kept B3)
        have HB3 := Lib.hid (on HBX.out HBX.out.size B3)
        have HQ1 : Hid (q1 ≠ gw ∧ w.heap.size ≤ q1) := Lib.hid ⟨by have := HX.out.words.lt; omega, by have := HBX.out.size; omega⟩
        have m0 : w3.cell? ⟨wr.heap.size, 0, none⟩ = some (.int .u8 kd) := LX3.out.cell 0
        have m1 : w3.cell? ⟨wr.heap.size, 1, none⟩ = some (.int .i64 who) := LX3.out.cell 1
        have m2 : w3.cell? ⟨wr.heap.size, 2, none⟩ = some (.int .i64 place) := LX3.out.cell 2
        have m3 : w3.cell? ⟨wr.heap.size, 3, none⟩ = some (.int .i64 a) := LX3.out.cell 3
        have m4 : w3.cell? ⟨wr.heap.size, 4, none⟩ = some (.int .i64 b') := LX3.out.cell 4
        clear L3 B3 HX LX HBX hq1 c0 c1 c2 c3 c4 hX
        go_wp2_with fail
        refine (store_near HO1.out (by have := HT.out; omega) who place a).mono ?_
        rintro e w4 ⟨v, rfl, A4, c4, Z1, ts4, H4, E4, hl4, ht4, hsame⟩
        have HH4 := Lib.hid H4
        have HE4 := Lib.hid E4
        have L4 := Lib.hid (HO1.out.else_lies E4 HL3.out (by decide) (by decide) HQ1.out.1)
        have LX4 := Lib.hid (HO1.out.else_lies E4 LX3.out (by decide) (by decide) (by have h1 := LX3.out.apart HO1.out.words (by decide); exact h1))
        have HB4 := Lib.hid (HB3.out.trans (HO1.out.below E4))
        have HS4 := Lib.hid hsame
        have HN4 : Hid (Z1.length = s) := Lib.hid (hl4.trans HZ.out)
        have HT4 : Hid (ts4.length ≤ j + 1) := Lib.hid (by have := HT.out; omega)
        clear H4 E4 hsame hl4 ht4 HO1 HL3 LX3 HB3 m0 m1 m2 m3 m4
        go_wp2_with fail
        refine (words_n HH4.out s HN4.out).mono ?_
        rintro e w5 ⟨q2, rfl, hq2, L5, B5⟩
        have HQ2 : Hid (q2 ≠ gw ∧ q1 ≠ q2 ∧ w.heap.size ≤ q2) := Lib.hid ⟨by have := HH4.out.words.lt; omega, by have := L4.out.lt; omega, by have := HB4.out.size; omega⟩
        have I5 : Hid (Inn w5 w g gw q1 q2 wr.heap.size s 0 zs Z1 A4 c4 ts4 kd who place a b' zs Z1) := Lib.hid ⟨HZ.out, HN4.out, L4.out.kept B5, L5, fun _ _ => ⟨rfl, rfl⟩, LX4.out.kept B5, HH4.out.kept B5, on HB4.out HB4.out.size B5⟩
        clear L5 B5 L4 LX4 HH4 HB4 HE4 hq2 HB HH
        have s1 : ((s : Int) != (s : Int)) = false := by simp
        go_wp2
        go_loopw [94] (fun i wi => ∃ (k : Nat) (xs ys : List Int), k ≤ s ∧ i = .int .i64 k ∧ Inn wi w g gw q1 q2 wr.heap.size s k zs Z1 A4 c4 ts4 kd who place a b' xs ys) (fun i _ => s - (intOf i).toNat)
        case atStart => exact ⟨0, _, _, Nat.zero_le _, rfl, I5.out⟩
        case round =>
          obtain ⟨k, xs, ys, hk, rfl, I⟩ := hrel
          have HI := Lib.hid I
          clear I I5
          by_cases hks : k < s
          · have k0 : (0 : Int) ≤ (k : Int) := by omega
            have k1 : (k : Int) < (s : Int) := by omega
            have hx := cell_at HI.out.o1 (show k < xs.length by have := HI.out.l1; omega)
            have hy := cell_at HI.out.o2 (show k < ys.length by have := HI.out.l2; omega)
            have fx := HI.out.o1.frozen k
            have fy := HI.out.o2.frozen k
            obtain ⟨e1, e2⟩ := HI.out.rest k (Nat.le_refl _)
            rw [e1] at hx
            rw [e2] at hy
            clear e1 e2
            have n0 := HI.out.box.cell 0
            have n2 := HI.out.box.cell 2
            simp only [List.getElem?_cons_zero, List.getElem?_cons_succ] at n0 n2
            have h12 := HQ2.out.2.1
            have N := Lib.hid (HI.out.next HQ1.out.1 HQ2.out.1 HQ2.out.2.1 HQ1.out.2 HQ2.out.2.2)
            have ND := Lib.hid (fun n => ((HI.out.draws n).next HQ1.out.1 HQ2.out.1 HQ2.out.2.1 HQ1.out.2 HQ2.out.2.2))
            by_cases hkp : (k : Int) = place
            · have hne : ((k : Int) != place) = false := by simp [hkp]
              clear hkp
              generalize zs.getD k 0 = x at hx
              generalize Z1.getD k 0 = y at hy
              go_wp2_with fail
              go_quiet (fail)
              go_wp2
              exact ⟨⟨k + 1, _, _, by omega, by go_num, ND.out _⟩, by simp [intOf]; omega⟩
            · have hne : ((k : Int) != place) = true := by simp [hkp]
              have hxy := HS4.out k (Or.inl hkp)
              rw [hxy] at hy
              clear hxy hkp
              generalize zs.getD k 0 = x at hx hy
              have xx : (x != x) = false := by simp
              go_wp2_with fail
              go_quiet (fail)
              go_wp2
              exact ⟨⟨k + 1, _, _, by omega, by go_num, ND.out _⟩, by simp [intOf]; omega⟩
          · go_wp2
            exact ⟨⟨j + 1, _, _, _, _, by omega, by go_num, HN4.out, HT4.out, HI.out.at_, HI.out.old⟩, by simp [intOf]; omega⟩
      · go_wp2_with fail
        rw [← hX]
        refine (words_n HX.out s HZ.out).mono ?_
        rintro e w3 ⟨q1, rfl, hq1, L3, B3⟩
        have HO1 := Lib.hid (HX.out.kept B3)
        have HL3 := Lib.hid L3
        have LX3 := Lib.hid (LX.out.kept B3)
        have HB3 := Lib.hid (on HBX.out HBX.out.size B3)
        have HQ1 : Hid (q1 ≠ gw ∧ w.heap.size ≤ q1) := Lib.hid ⟨by have := HX.out.words.lt; omega, by have := HBX.out.size; omega⟩
        have m0 : w3.cell? ⟨wr.heap.size, 0, none⟩ = some (.int .u8 kd) := LX3.out.cell 0
        have m1 : w3.cell? ⟨wr.heap.size, 1, none⟩ = some (.int .i64 who) := LX3.out.cell 1
        have m2 : w3.cell? ⟨wr.heap.size, 2, none⟩ = some (.int .i64 place) := LX3.out.cell 2
        have m3 : w3.cell? ⟨wr.heap.size, 3, none⟩ = some (.int .i64 a) := LX3.out.cell 3
        have m4 : w3.cell? ⟨wr.heap.size, 4, none⟩ = some (.int .i64 b') := LX3.out.cell 4
        clear L3 B3 HX LX HBX hq1 c0 c1 c2 c3 c4 hX
        go_wp2_with fail
        refine (swap_near HO1.out (by have := HT.out; omega) who place b' a).mono ?_
        rintro e w4 ⟨v, rfl, A4, c4, Z1, ts4, H4, E4, hl4, ht4, hsame⟩
        have HH4 := Lib.hid H4
        have HE4 := Lib.hid E4
        have L4 := Lib.hid (HO1.out.else_lies E4 HL3.out (by decide) (by decide) HQ1.out.1)
        have LX4 := Lib.hid (HO1.out.else_lies E4 LX3.out (by decide) (by decide) (by have h1 := LX3.out.apart HO1.out.words (by decide); exact h1))
        have HB4 := Lib.hid (HB3.out.trans (HO1.out.below E4))
        have HS4 := Lib.hid hsame
        have HN4 : Hid (Z1.length = s) := Lib.hid (hl4.trans HZ.out)
        have HT4 : Hid (ts4.length ≤ j + 1) := Lib.hid (by have := HT.out; omega)
        clear H4 E4 hsame hl4 ht4 HO1 HL3 LX3 HB3 m0 m1 m2 m3 m4
        go_wp2_with fail
        refine (words_n HH4.out s HN4.out).mono ?_
        rintro e w5 ⟨q2, rfl, hq2, L5, B5⟩
        have HQ2 : Hid (q2 ≠ gw ∧ q1 ≠ q2 ∧ w.heap.size ≤ q2) := Lib.hid ⟨by have := HH4.out.words.lt; omega, by have := L4.out.lt; omega, by have := HB4.out.size; omega⟩
        have I5 : Hid (Inn w5 w g gw q1 q2 wr.heap.size s 0 zs Z1 A4 c4 ts4 kd who place a b' zs Z1) := Lib.hid ⟨HZ.out, HN4.out, L4.out.kept B5, L5, fun _ _ => ⟨rfl, rfl⟩, LX4.out.kept B5, HH4.out.kept B5, on HB4.out HB4.out.size B5⟩
        clear L5 B5 L4 LX4 HH4 HB4 HE4 hq2 HB HH
        have s1 : ((s : Int) != (s : Int)) = false := by simp
        go_wp2
        go_loopw [94] (fun i wi => ∃ (k : Nat) (xs ys : List Int), k ≤ s ∧ i = .int .i64 k ∧ Inn wi w g gw q1 q2 wr.heap.size s k zs Z1 A4 c4 ts4 kd who place a b' xs ys) (fun i _ => s - (intOf i).toNat)
        case atStart => exact ⟨0, _, _, Nat.zero_le _, rfl, I5.out⟩
        case round =>
          obtain ⟨k, xs, ys, hk, rfl, I⟩ := hrel
          have HI := Lib.hid I
          clear I I5
          by_cases hks : k < s
          · have k0 : (0 : Int) ≤ (k : Int) := by omega
            have k1 : (k : Int) < (s : Int) := by omega
            have hx := cell_at HI.out.o1 (show k < xs.length by have := HI.out.l1; omega)
            have hy := cell_at HI.out.o2 (show k < ys.length by have := HI.out.l2; omega)
            have fx := HI.out.o1.frozen k
            have fy := HI.out.o2.frozen k
            obtain ⟨e1, e2⟩ := HI.out.rest k (Nat.le_refl _)
            rw [e1] at hx
            rw [e2] at hy
            clear e1 e2
            have n0 := HI.out.box.cell 0
            have n2 := HI.out.box.cell 2
            simp only [List.getElem?_cons_zero, List.getElem?_cons_succ] at n0 n2
            have h12 := HQ2.out.2.1
            have N := Lib.hid (HI.out.next HQ1.out.1 HQ2.out.1 HQ2.out.2.1 HQ1.out.2 HQ2.out.2.2)
            have ND := Lib.hid (fun n => ((HI.out.draws n).next HQ1.out.1 HQ2.out.1 HQ2.out.2.1 HQ1.out.2 HQ2.out.2.2))
            by_cases hkp : (k : Int) = place
            · have hne : ((k : Int) != place) = false := by simp [hkp]
              clear hkp
              generalize zs.getD k 0 = x at hx
              generalize Z1.getD k 0 = y at hy
              go_wp2_with fail
              go_quiet (fail)
              go_wp2
              exact ⟨⟨k + 1, _, _, by omega, by go_num, ND.out _⟩, by simp [intOf]; omega⟩
            · have hne : ((k : Int) != place) = true := by simp [hkp]
              have hxy := HS4.out k (Or.inl hkp)
              rw [hxy] at hy
              clear hxy hkp
              generalize zs.getD k 0 = x at hx hy
              have xx : (x != x) = false := by simp
              go_wp2_with fail
              go_quiet (fail)
              go_wp2
              exact ⟨⟨k + 1, _, _, by omega, by go_num, ND.out _⟩, by simp [intOf]; omega⟩
          · go_wp2
            exact ⟨⟨j + 1, _, _, _, _, by omega, by go_num, HN4.out, HT4.out, HI.out.at_, HI.out.old⟩, by simp [intOf]; omega⟩
      · go_wp2_with fail
        rw [← hX]
        refine (words_n HX.out s HZ.out).mono ?_
        rintro e w3 ⟨q1, rfl, hq1, L3, B3⟩
        have HO1 := Lib.hid (HX.out.kept B3)
        have HL3 := Lib.hid L3
        have LX3 := Lib.hid (LX.out.kept B3)
        have HB3 := Lib.hid (on HBX.out HBX.out.size B3)
        have HQ1 : Hid (q1 ≠ gw ∧ w.heap.size ≤ q1) := Lib.hid ⟨by have := HX.out.words.lt; omega, by have := HBX.out.size; omega⟩
        have m0 : w3.cell? ⟨wr.heap.size, 0, none⟩ = some (.int .u8 kd) := LX3.out.cell 0
        have m1 : w3.cell? ⟨wr.heap.size, 1, none⟩ = some (.int .i64 who) := LX3.out.cell 1
        have m2 : w3.cell? ⟨wr.heap.size, 2, none⟩ = some (.int .i64 place) := LX3.out.cell 2
        have m3 : w3.cell? ⟨wr.heap.size, 3, none⟩ = some (.int .i64 a) := LX3.out.cell 3
        have m4 : w3.cell? ⟨wr.heap.size, 4, none⟩ = some (.int .i64 b') := LX3.out.cell 4
        clear L3 B3 HX LX HBX hq1 c0 c1 c2 c3 c4 hX
        go_wp2_with fail
        refine (add_near HO1.out (by have := HT.out; omega) who place a).mono ?_
        rintro e w4 ⟨v, rfl, A4, c4, Z1, ts4, H4, E4, hl4, ht4, hsame⟩
        have HH4 := Lib.hid H4
        have HE4 := Lib.hid E4
        have L4 := Lib.hid (HO1.out.else_lies E4 HL3.out (by decide) (by decide) HQ1.out.1)
        have LX4 := Lib.hid (HO1.out.else_lies E4 LX3.out (by decide) (by decide) (by have h1 := LX3.out.apart HO1.out.words (by decide); exact h1))
        have HB4 := Lib.hid (HB3.out.trans (HO1.out.below E4))
        have HS4 := Lib.hid hsame
        have HN4 : Hid (Z1.length = s) := Lib.hid (hl4.trans HZ.out)
        have HT4 : Hid (ts4.length ≤ j + 1) := Lib.hid (by have := HT.out; omega)
        clear H4 E4 hsame hl4 ht4 HO1 HL3 LX3 HB3 m0 m1 m2 m3 m4
        go_wp2_with fail
        refine (words_n HH4.out s HN4.out).mono ?_
        rintro e w5 ⟨q2, rfl, hq2, L5, B5⟩
        have HQ2 : Hid (q2 ≠ gw ∧ q1 ≠ q2 ∧ w.heap.size ≤ q2) := Lib.hid ⟨by have := HH4.out.words.lt; omega, by have := L4.out.lt; omega, by have := HB4.out.size; omega⟩
        have I5 : Hid (Inn w5 w g gw q1 q2 wr.heap.size s 0 zs Z1 A4 c4 ts4 kd who place a b' zs Z1) := Lib.hid ⟨HZ.out, HN4.out, L4.out.kept B5, L5, fun _ _ => ⟨rfl, rfl⟩, LX4.out.kept B5, HH4.out.kept B5, on HB4.out HB4.out.size B5⟩
        clear L5 B5 L4 LX4 HH4 HB4 HE4 hq2 HB HH
        have s1 : ((s : Int) != (s : Int)) = false := by simp
        go_wp2
        go_loopw [94] (fun i wi => ∃ (k : Nat) (xs ys : List Int), k ≤ s ∧ i = .int .i64 k ∧ Inn wi w g gw q1 q2 wr.heap.size s k zs Z1 A4 c4 ts4 kd who place a b' xs ys) (fun i _ => s - (intOf i).toNat)
        case atStart => exact ⟨0, _, _, Nat.zero_le _, rfl, I5.out⟩
        case round =>
          obtain ⟨k, xs, ys, hk, rfl, I⟩ := hrel
          have HI := Lib.hid I
          clear I I5
          by_cases hks : k < s
          · have k0 : (0 : Int) ≤ (k : Int) := by omega
            have k1 : (k : Int) < (s : Int) := by omega
            have hx := cell_at HI.out.o1 (show k < xs.length by have := HI.out.l1; omega)
            have hy := cell_at HI.out.o2 (show k < ys.length by have := HI.out.l2; omega)
            have fx := HI.out.o1.frozen k
            have fy := HI.out.o2.frozen k
            obtain ⟨e1, e2⟩ := HI.out.rest k (Nat.le_refl _)
            rw [e1] at hx
            rw [e2] at hy
            clear e1 e2
            have n0 := HI.out.box.cell 0
            have n2 := HI.out.box.cell 2
            simp only [List.getElem?_cons_zero, List.getElem?_cons_succ] at n0 n2
            have h12 := HQ2.out.2.1
            have N := Lib.hid (HI.out.next HQ1.out.1 HQ2.out.1 HQ2.out.2.1 HQ1.out.2 HQ2.out.2.2)
            have ND := Lib.hid (fun n => ((HI.out.draws n).next HQ1.out.1 HQ2.out.1 HQ2.out.2.1 HQ1.out.2 HQ2.out.2.2))
            by_cases hkp : (k : Int) = place
            · have hne : ((k : Int) != place) = false := by simp [hkp]
              clear hkp
              generalize zs.getD k 0 = x at hx
              generalize Z1.getD k 0 = y at hy
              go_wp2_with fail
              go_quiet (fail)
              go_wp2
              exact ⟨⟨k + 1, _, _, by omega, by go_num, ND.out _⟩, by simp [intOf]; omega⟩
            · have hne : ((k : Int) != place) = true := by simp [hkp]
              have hxy := HS4.out k (Or.inl hkp)
              rw [hxy] at hy
              clear hxy hkp
              generalize zs.getD k 0 = x at hx hy
              have xx : (x != x) = false := by simp
              go_wp2_with fail
              go_quiet (fail)
              go_wp2
              exact ⟨⟨k + 1, _, _, by omega, by go_num, ND.out _⟩, by simp [intOf]; omega⟩
          · go_wp2
            exact ⟨⟨j + 1, _, _, _, _, by omega, by go_num, HN4.out, HT4.out, HI.out.at_, HI.out.old⟩, by simp [intOf]; omega⟩
    · go_wp2
      go_ret
      exact ⟨rfl, HB.out⟩

theorem apart_walk (s : Int) (A : Option Addr) (l c : Nat) (w : World) (h0 : 0 ≤ s) (h1 : s ≤ 255) (hr : ∃ ds, CameD w A l ds) :
    Calls Try.prog 7 #[.int .u8 s, .slice A l c] w fun e w' => e = .returned (.bool true) ∧ Below w.heap.size w w' := by
  obtain ⟨ds, rfl, h2, h3⟩ := hr
  by_cases h : 60 < ds.length ∨ s = 0
  · exact apart_far s A c _ w h
  · obtain ⟨s, rfl⟩ := Int.eq_ofNat_of_zero_le h0
    exact apart_near s A c ds w (by omega) (by omega) (by omega) h2 h3
end Go.Proofs.Ytcabgnfeeimeiaa
