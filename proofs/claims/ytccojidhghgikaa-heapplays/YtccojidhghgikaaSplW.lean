/- The walk of HeapSplits. -/
import Derived.Test.YtccojidhghgikaaRSt
import Derived.Test.YtccojidhghgikaaRefs
import Derived.Test.YtccojidhghgikaaIs
namespace Go.Proofs.Ytccojidhghgikaa
open Go.RowKit
set_option linter.unusedVariables false
set_option linter.unusedSimpArgs false

theorem owns_else3 {w w' : World} {base n sz g gw gb : Nat} {t : TypeId} {v : Value} {xs : List Value} (h : w.ownsRow base t sz v n xs) (he : Else g gw gb w w') (h1 : g < base) (h2 : gw < base) (h3 : gb < base) : w'.ownsRow base t sz v n xs := by
  refine ⟨h.1, h.2.imp id ?_⟩
  rintro ⟨b, cap, cur, k1, k2, k3, k4⟩
  exact ⟨b, cap, cur, k1, k2, (he.block b (Array.getElem?_eq_some_iff.1 k3).1 (by omega) (by omega) (by omega)).trans k3, k4⟩
theorem Owned.else3 {w w' : World} {base n c g gw gb : Nat} {A : Option Addr} {obs : List Ob} {xs : List Value} (h : Owned w base A n c obs xs) (he : Else g gw gb w w') (h1 : g < base) (h2 : gw < base) (h3 : gb < base) : Owned w' base A n c obs xs :=
  ⟨owns_else3 h.own he h1 h2 h3, h.cells.of fun _ _ _ _ ho => owns_else3 ho he h1 h2 h3⟩
theorem place_total (obs : List Ob) (tail : List Int) (k l p : Int) : (flat (placeF obs tail k l p).2.2.1 ++ (placeF obs tail k l p).2.2.2).length = (flat obs ++ tail).length := by
  unfold placeF
  by_cases hg : goodB k l p = false
  · rw [if_pos hg]
  · rw [if_neg hg]
    by_cases h : tail.length < 1 + l.toNat
    · rw [if_pos h]
    · rw [if_neg h]
      simp [flat_append, flat_cons, flat_nil, zeros]
      omega

/-- Between two steps: the program's heap, and the reference's, of the same objects. -/
structure Twin (w W : World) (g gw gb bm base Z : Nat) (obs : List Ob) (tail : List Int) (A : Option Addr) (n c : Nat) (xs : List Value) : Prop where
  st : St W g gw gb obs tail
  clean : Clean obs
  len : (flat obs ++ tail).length = Z
  box : Lies W bm 41 [.int .i64 (Z : Int), .slice A n c]
  own : Owned W base A n c obs xs
  count : obs.length = n
  old : Below w.heap.size w W
  room : base ≤ W.heap.size
theorem Twin.kept {w W W' : World} {g gw gb bm base Z n c : Nat} {obs : List Ob} {tail : List Int} {A : Option Addr} {xs : List Value} (h : Twin w W g gw gb bm base Z obs tail A n c xs) (hb : Below W.heap.size W W') : Twin w W' g gw gb bm base Z obs tail A n c xs :=
  ⟨h.st.kept hb, h.clean, h.len, h.box.below hb h.box.lt, h.own.kept hb, h.count, on h.old h.old.size hb, Nat.le_trans h.room hb.size⟩
theorem Twin.is {w W : World} {g gw gb bm base Z n c : Nat} {obs : List Ob} {tail : List Int} {A : Option Addr} {xs : List Value} (h : Twin w W g gw gb bm base Z obs tail A n c xs) :
    Calls Try.prog 28 #[.pointer (some ⟨g, 0, none⟩), .agg #[.int .i64 (Z : Int), .slice A n c]] W fun e w' => e = .returned (.bool true) ∧ Below W.heap.size W w' :=
  is_any h.st h.own.things h.clean.within n c Z h.count h.len
/-- The box gets another heap. -/
theorem lies_put2 {W : World} {bm : Nat} {a b u v : Value} (h : Lies W bm 41 [a, b]) : Lies ((W.setCell ⟨bm, 0, none⟩ u).setCell ⟨bm, 1, none⟩ v) bm 41 [u, v] := (h.set 0 u).set 1 v
theorem Owned.put2 {W : World} {bm base n c : Nat} {a b : Value} {A : Option Addr} {obs : List Ob} {xs : List Value} (h : Owned W base A n c obs xs) (hl : Lies W bm 41 [a, b]) (u v : Value) : Owned ((W.setCell ⟨bm, 0, none⟩ u).setCell ⟨bm, 1, none⟩ v) base A n c obs xs :=
  Owned.far (Owned.far h hl (by decide) (by decide) 0 u) (hl.set 0 u) (by decide) (by decide) 1 v
theorem St.put2 {W : World} {g gw gb bm : Nat} {obs : List Ob} {tail : List Int} (h : St W g gw gb obs tail) (h1 : g ≠ bm) (h2 : gw ≠ bm) (h3 : gb ≠ bm) (u v : Value) : St ((W.setCell ⟨bm, 0, none⟩ u).setCell ⟨bm, 1, none⟩ v) g gw gb obs tail :=
  ⟨h.fine, (h.lies.own.far (p := ⟨bm, 0, none⟩) h1 u).far (p := ⟨bm, 1, none⟩) h1 v, (h.lies.words.far (p := ⟨bm, 0, none⟩) h2 u).far (p := ⟨bm, 1, none⟩) h2 v, (h.lies.begins.far (p := ⟨bm, 0, none⟩) h3 u).far (p := ⟨bm, 1, none⟩) h3 v, h.lies.same, h.lies.some_, h.lies.most, h.lies.fits⟩

theorem Twin.put {w W : World} {g gw gb bm base Z n c : Nat} {obs : List Ob} {tail : List Int} {A : Option Addr} {xs : List Value} {a b : Value} (st : St W g gw gb obs tail) (clean : Clean obs) (len : (flat obs ++ tail).length = Z) (box : Lies W bm 41 [a, b]) (own : Owned W base A n c obs xs) (count : obs.length = n) (old : Below w.heap.size w W) (room : base ≤ W.heap.size) (h1 : g ≠ bm) (h2 : gw ≠ bm) (h3 : gb ≠ bm) (hbm : w.heap.size ≤ bm) :
    Twin w ((W.setCell ⟨bm, 0, none⟩ (.int .i64 (Z : Int))).setCell ⟨bm, 1, none⟩ (.slice A n c)) g gw gb bm base Z obs tail A n c xs :=
  ⟨st.put2 h1 h2 h3 _ _, clean, len, lies_put2 box, own.put2 box _ _, count, (old.setCell (p := ⟨bm, 0, none⟩) hbm _).setCell (p := ⟨bm, 1, none⟩) hbm _, by simpa using room⟩
theorem Twin.places {w W w3 w4 : World} {g gw gb bm base Z n c n3 c3 : Nat} {obs obs2 : List Ob} {tail tail2 : List Int} {A A3 : Option Addr} {xs xs3 : List Value} (T : Twin w W g gw gb bm base Z obs tail A n c xs) (hb3 : Below W.heap.size W w3) (O3 : Owned w3 base A3 n3 c3 obs2 xs3) (hn3 : obs2.length = n3)
    (S4 : St w4 g gw gb obs2 tail2) (E4 : Else g gw gb ((w3.setCell ⟨bm, 0, none⟩ (.int .i64 (Z : Int))).setCell ⟨bm, 1, none⟩ (.slice A3 n3 c3)) w4) (C2 : Clean obs2) (hlen : (flat obs2 ++ tail2).length = Z) (g1 : g < base) (g2 : gw < base) (g3 : gb < base) (hbm : base ≤ bm) (w1 : w.heap.size ≤ g) (w2 : w.heap.size ≤ gw) (w3' : w.heap.size ≤ gb) :
    Twin w w4 g gw gb bm base Z obs2 tail2 A3 n3 c3 xs3 := by
  have T3 := T.kept hb3
  have L := lies_put2 (u := .int .i64 (Z : Int)) (v := .slice A3 n3 c3) T3.box
  have O := O3.put2 T3.box (.int .i64 (Z : Int)) (.slice A3 n3 c3)
  have B := (T3.old.setCell (p := ⟨bm, 0, none⟩) (show w.heap.size ≤ bm by omega) (.int .i64 (Z : Int))).setCell (p := ⟨bm, 1, none⟩) (show w.heap.size ≤ bm by omega) (.slice A3 n3 c3)
  refine ⟨S4, C2, hlen, E4.lies L (by omega) (by omega) (by omega), O.else3 E4 g1 g2 g3, hn3, B.trans (E4.below B.size w1 w2 w3'), Nat.le_trans (by simpa using T3.room) E4.size⟩
theorem Twin.st2 {w W w3 : World} {g gw gb bm base Z n c n3 c3 : Nat} {obs : List Ob} {tail : List Int} {A A3 : Option Addr} {xs : List Value} (T : Twin w W g gw gb bm base Z obs tail A n c xs) (hb3 : Below W.heap.size W w3) (g1 : g < base) (g2 : gw < base) (g3 : gb < base) (hbm : base ≤ bm) : St ((w3.setCell ⟨bm, 0, none⟩ (.int .i64 (Z : Int))).setCell ⟨bm, 1, none⟩ (.slice A3 n3 c3)) g gw gb obs tail :=
  (T.kept hb3).st.put2 (by omega) (by omega) (by omega) _ _

set_option maxRecDepth 100000 in
set_option maxHeartbeats 1000000 in
theorem splits_yes (s : Nat) (k0 l0 p0 : Int) (B : Option Addr) (c : Nat) (ds : List Deed) (w : World) (hs : 1 ≤ s) (hs' : s ≤ 255) (h2 : ds.length ≤ 30) (hd : Deeds w B ds) :
    Calls Try.prog 7 #[.int .u8 (s : Int), .agg #[.int .i64 k0, .int .i64 l0, .int .i64 p0], .slice B ds.length c] w fun e w' => e = .returned (.bool true) ∧ Below w.heap.size w w' := by
  have d1 : decide ((30 : Int) < (ds.length : Int)) = false := by simp; omega
  have s0 : ((s : Int) == 0) = false := by rw [beq_eq_false_iff_ne]; omega
  have HD := Lib.hid hd
  clear hd
  have hnil := fun W g => nil_ne W g
  go_enter Try.func7, Try.ntmps7
  go_wp2_with fail
  refine (awake_any _).mono ?_
  rintro e w1 ⟨rfl, hb1⟩
  have bA := (Below.refl w.heap.size w).alloc (Nat.le_refl _) (.cells #[.int .i64 k0, .int .i64 l0, .int .i64 p0] 23)
  have B1 := on bA (by simp) hb1
  have LF := (Lies.new w 23 [.int .i64 k0, .int .i64 l0, .int .i64 p0]).below hb1 (by simp)
  clear bA hb1
  go_wp2_with fail
  refine (new_st s w1 hs (by omega)).mono ?_
  rintro e w2 ⟨g, gw, gb, rfl, hb2, q1, q2, q3, S2⟩
  have B2 := on B1 B1.size hb2
  have LF2 := LF.below hb2 LF.lt
  have sz1 := B1.size
  have lF := LF.lt
  obtain ⟨X, hX⟩ : ∃ X : Obj, X = .cells #[.int .i64 (s : Int), .slice none 0 0] 41 := ⟨_, rfl⟩
  have bX := below_one w2 X
  have T0 : Twin w (w2.alloc X) g gw gb w2.heap.size w2.heap.size s [] (List.replicate s 0) none 0 0 [] :=
    ⟨S2.kept bX, clean_nil, by simp [flat_nil], by rw [hX]; exact Lies.new w2 41 [_, _], ⟨World.ownsRow_nil _ _ _ _, rfl⟩, rfl, on B2 B2.size bX, by simp⟩
  have hg1 : g < w2.heap.size := S2.lies.own.lt
  have hg2 : gw < w2.heap.size := S2.lies.words.lt
  have hg3 : gb < w2.heap.size := S2.lies.begins.lt
  have LF3 := LF2.alloc X
  have HT0 := Lib.hid T0
  have HLF := Lib.hid LF3
  have f0 : (w2.alloc X).cell? ⟨w.heap.size, 0, none⟩ = some (.int .i64 k0) := LF3.cell 0
  have f1 : (w2.alloc X).cell? ⟨w.heap.size, 1, none⟩ = some (.int .i64 l0) := LF3.cell 1
  have f2 : (w2.alloc X).cell? ⟨w.heap.size, 2, none⟩ = some (.int .i64 p0) := LF3.cell 2
  rw [hX] at f0 f1 f2
  clear T0 S2 B1 B2 LF LF2 LF3 hb2 bX
  go_wp2_with fail
  rw [← hX]
  refine (rplace_any s none 0 0 [] (List.replicate s 0) (fun _ h => by simp at h) HT0.out.own HT0.out.room rfl (by simp [flat_nil]) (by omega) k0 l0 p0).mono ?_
  rintro e w3 ⟨⟨A3, n3, c3, xs3, rfl, hn3, O3⟩, hb3⟩
  have T3 := HT0.out.kept hb3
  have y0 : w3.cell? ⟨w2.heap.size, 0, none⟩ = some (.int .i64 (s : Int)) := T3.box.cell 0
  have y1 : w3.cell? ⟨w2.heap.size, 1, none⟩ = some (.slice none 0 0) := T3.box.cell 1
  have y2 := T3.box.frozen 0
  have y3 := T3.box.frozen 1
  have LF5 := ((HLF.out.below hb3 HLF.out.lt).far (p := ⟨w2.heap.size, 0, none⟩) (by simp; omega) (.int .i64 (s : Int))).far (p := ⟨w2.heap.size, 1, none⟩) (by simp; omega) (.slice A3 n3 c3)
  have e0 : ((w3.setCell ⟨w2.heap.size, 0, none⟩ (.int .i64 (s : Int))).setCell ⟨w2.heap.size, 1, none⟩ (.slice A3 n3 c3)).cell? ⟨w.heap.size, 0, none⟩ = some (.int .i64 k0) := LF5.cell 0
  have e1 : ((w3.setCell ⟨w2.heap.size, 0, none⟩ (.int .i64 (s : Int))).setCell ⟨w2.heap.size, 1, none⟩ (.slice A3 n3 c3)).cell? ⟨w.heap.size, 1, none⟩ = some (.int .i64 l0) := LF5.cell 1
  have e2 : ((w3.setCell ⟨w2.heap.size, 0, none⟩ (.int .i64 (s : Int))).setCell ⟨w2.heap.size, 1, none⟩ (.slice A3 n3 c3)).cell? ⟨w.heap.size, 2, none⟩ = some (.int .i64 p0) := LF5.cell 2
  have C1 := clean_place (tail := List.replicate s 0) (k := k0) (l := l0) (p := p0) clean_nil
  have S3 := HT0.out.st2 (n3 := n3) (c3 := c3) (A3 := A3) hb3 hg1 hg2 hg3 (Nat.le_refl _)
  have len1 := place_total [] (List.replicate s 0) k0 l0 p0
  have PL := Lib.hid (place_st S3 k0 l0 p0)
  have HL1 := Lib.hid (len1.trans (show (flat [] ++ List.replicate s (0 : Int)).length = s by simp [flat_nil]))
  have HO3 := Lib.hid O3
  have HC1 := Lib.hid C1
  have Hn3 := Lib.hid hn3
  have Hb3 := Lib.hid hb3
  clear T3 O3 S3 C1 len1 hn3 hb3 LF5 hX f0 f1 f2
  generalize placeF [] (List.replicate s 0) k0 l0 p0 = R at *
  obtain ⟨r1, x1, obs1, tail1⟩ := R
  simp only at PL HL1 HO3 HC1 Hn3 ⊢
  go_wp2_with fail
  refine PL.out.mono ?_
  rintro e w4 ⟨rfl, S4, E4⟩
  have T4 := HT0.out.places Hb3.out HO3.out Hn3.out S4 E4 HC1.out HL1.out hg1 hg2 hg3 (Nat.le_refl _) (by omega) (by omega) (by omega)
  have HT4 := Lib.hid T4
  have z0 : w4.cell? ⟨w2.heap.size, 0, none⟩ = some (.int .i64 (s : Int)) := T4.box.cell 0
  have z1 : w4.cell? ⟨w2.heap.size, 1, none⟩ = some (.slice A3 n3 c3) := T4.box.cell 1
  have z2 := T4.box.frozen 0
  have z3 := T4.box.frozen 1
  clear T4 S4 E4 PL HO3 HC1 Hn3 Hb3 HT0 HLF y0 y1 y2 y3 e0 e1 e2 HL1
  go_wp2_with fail
  refine (rplace_any s A3 n3 c3 obs1 tail1 HT4.out.st.fine HT4.out.own HT4.out.room HT4.out.count HT4.out.len (by omega) 15 ((s : Int) / 2) 0).mono ?_
  rintro e w5 ⟨⟨A5, n5, c5, xs5, rfl, hn5, O5⟩, hb5⟩
  have T5 := HT4.out.kept hb5
  have y0 : w5.cell? ⟨w2.heap.size, 0, none⟩ = some (.int .i64 (s : Int)) := T5.box.cell 0
  have y1 : w5.cell? ⟨w2.heap.size, 1, none⟩ = some (.slice A3 n3 c3) := T5.box.cell 1
  have y2 := T5.box.frozen 0
  have y3 := T5.box.frozen 1
  have C2 := clean_place (tail := tail1) (k := 15) (l := (s : Int) / 2) (p := 0) HT4.out.clean
  have S5 := HT4.out.st2 (n3 := n5) (c3 := c5) (A3 := A5) hb5 hg1 hg2 hg3 (Nat.le_refl _)
  have len2 := (place_total obs1 tail1 15 ((s : Int) / 2) 0).trans HT4.out.len
  have PL := Lib.hid (place_st S5 15 ((s : Int) / 2) 0)
  have HL2 := Lib.hid len2
  have HO5 := Lib.hid O5
  have HC2 := Lib.hid C2
  have Hn5 := Lib.hid hn5
  have Hb5 := Lib.hid hb5
  clear T5 O5 S5 C2 len2 hn5 hb5 z0 z1 z2 z3
  generalize placeF obs1 tail1 15 ((s : Int) / 2) 0 = R at *
  obtain ⟨r2, x2, obs2, tail2⟩ := R
  simp only at PL HL2 HO5 HC2 Hn5 ⊢
  go_wp2_with fail
  refine PL.out.mono ?_
  rintro e w6 ⟨rfl, S6, E6⟩
  have T6 := HT4.out.places Hb5.out HO5.out Hn5.out S6 E6 HC2.out HL2.out hg1 hg2 hg3 (Nat.le_refl _) (by omega) (by omega) (by omega)
  have HT6 := Lib.hid T6
  clear T6 S6 E6 PL HO5 HC2 Hn5 Hb5 HT4 y0 y1 y2 y3 HL2
  have W1 : w.heap.size ≤ g := by omega
  have W2 : w.heap.size ≤ gw := by omega
  have W3 : w.heap.size ≤ gb := by omega
  have W4 : w.heap.size ≤ w2.heap.size := by omega
  clear q1 q2 q3 sz1 lF
  go_wp2
  go_loopw [72, 12, 13, 14, 15, 16] (fun i _ _ _ _ _ wr => ∃ (j : Nat) (obs : List Ob) (tail : List Int) (A : Option Addr) (n c' : Nat) (xs : List Value), j ≤ ds.length ∧ i = .int .i64 j ∧ Twin w wr g gw gb w2.heap.size w2.heap.size s obs tail A n c' xs) (fun i _ _ _ _ _ _ => ds.length - (intOf i).toNat)
  case atStart => exact ⟨0, _, _, _, _, _, _, Nat.zero_le _, rfl, HT6.out⟩
  case round =>
    obtain ⟨j, obs, tail, A, n, c', xs, hj, rfl, T⟩ := hrel
    have z0 : wr.cell? ⟨w2.heap.size, 0, none⟩ = some (.int .i64 (s : Int)) := T.box.cell 0
    have z1 : wr.cell? ⟨w2.heap.size, 1, none⟩ = some (.slice A n c') := T.box.cell 1
    have zl := T.box.lt
    by_cases hjl : j < ds.length
    · obtain ⟨ad, rfl, c0, c1, c2, c3, c4, c5, c6⟩ := HD.out.at_ hjl wr T.old
      generalize ds[j] = d at c0 c1 c2 c3 c4 c5 c6
      obtain ⟨kd, k, l, p, a, f, v⟩ := d
      simp only at c0 c1 c2 c3 c4 c5 c6
      have j0 : (0 : Int) ≤ (j : Int) := by omega
      have j1 : (j : Int) < (ds.length : Int) := by omega
      obtain ⟨X, hX⟩ : ∃ X : Obj, X = .cells #[.int .u8 kd, .int .i64 k, .int .i64 l, .int .i64 p, .int .i64 a, .int .i64 f, .int .i64 v] 43 := ⟨_, rfl⟩
      have TX := T.kept (below_one wr X)
      have LD : Lies (wr.alloc X) wr.heap.size 43 [.int .u8 kd, .int .i64 k, .int .i64 l, .int .i64 p, .int .i64 a, .int .i64 f, .int .i64 v] := by rw [hX]; exact Lies.new wr 43 [_, _, _, _, _, _, _]
      have HTX := Lib.hid TX
      have HLD := Lib.hid LD
      clear T TX LD HT6
      go_wp2_with fail
      rw [← hX]
      refine (rsplit_any s A n c' obs HTX.out.st.fine HTX.out.own HTX.out.room HTX.out.count (by have := HTX.out.len; simp at this; omega) a k l p).mono ?_
      rintro e w7 ⟨⟨A7, n7, c7, xs7, rfl, hn7, O7⟩, hb7⟩
      obtain ⟨Y, hY⟩ : ∃ Y : Obj, Y = .cells #[.int .i64 (s : Int), .slice A7 n7 c7] 41 := ⟨_, rfl⟩
      have bY := below_one w7 Y
      have T8 := (HTX.out.kept hb7).kept bY
      have LD8 := (HLD.out.below hb7 HLD.out.lt).alloc Y
      have LN8 : Lies (w7.alloc Y) w7.heap.size 41 [.int .i64 (s : Int), .slice A7 n7 c7] := by rw [hY]; exact Lies.new w7 41 [_, _]
      have O8 := O7.kept bY
      have C8 := clean_split (a := a) (k := k) (l := l) (p := p) T8.st.fine T8.clean
      have SP := Lib.hid (split_st T8.st a k l p)
      have len8 : (flat (splitF obs a k l p).2.2 ++ tail).length = s := by
        have h1 := split_len (a := a) (k := k) (l := l) (p := p) T8.st.fine
        have h2 := T8.len
        simp only [List.length_append] at h2 ⊢
        omega
      have m2 : (w7.alloc Y).cell? ⟨wr.heap.size, 1, none⟩ = some (.int .i64 k) := LD8.cell 1
      have m3 : (w7.alloc Y).cell? ⟨wr.heap.size, 2, none⟩ = some (.int .i64 l) := LD8.cell 2
      have m4 : (w7.alloc Y).cell? ⟨wr.heap.size, 3, none⟩ = some (.int .i64 p) := LD8.cell 3
      have m5 : (w7.alloc Y).cell? ⟨wr.heap.size, 4, none⟩ = some (.int .i64 a) := LD8.cell 4
      have hsz : wr.heap.size < w7.heap.size := by have := hb7.size; simp at this; omega
      have HT8 := Lib.hid T8
      have HLN8 := Lib.hid LN8
      have HO8 := Lib.hid O8
      have HC8 := Lib.hid C8
      have HL8 := Lib.hid len8
      have Hn7 := Lib.hid hn7
      have hrm := HTX.out.room
      rw [hY] at m2 m3 m4 m5
      clear T8 LD8 LN8 O8 C8 len8 hn7 O7 bY hb7 c0 c1 c2 c3 c4 c5 c6 z0 z1 HTX HLD hX
      generalize splitF obs a k l p = R at *
      obtain ⟨r1, x1, obs2⟩ := R
      simp only at SP HO8 HC8 HL8 Hn7 ⊢
      go_wp2_with fail
      rw [← hY]
      refine SP.out.mono ?_
      rintro e w9 ⟨rfl, S9, E9⟩
      have hw7 : w2.heap.size ≤ w7.heap.size := by simp at hrm; omega
      have LN9 := E9.lies HLN8.out (by omega) (by omega) (by omega)
      have LM9 := E9.lies HT8.out.box (by omega) (by omega) (by omega)
      have O9 := HO8.out.else3 E9 hg1 hg2 hg3
      have B9 := HT8.out.old.trans (E9.below HT8.out.old.size W1 W2 W3)
      have R9 := Nat.le_trans HT8.out.room E9.size
      have n0 : w9.cell? ⟨w7.heap.size, 0, none⟩ = some (.int .i64 (s : Int)) := LN9.cell 0
      have n1 : w9.cell? ⟨w7.heap.size, 1, none⟩ = some (.slice A7 n7 c7) := LN9.cell 1
      have IS := Lib.hid (is_any S9 O9.things HC8.out.within n7 c7 s Hn7.out HL8.out)
      have HS9 := Lib.hid S9
      have HLN9 := Lib.hid LN9
      have HLM9 := Lib.hid LM9
      have HO9 := Lib.hid O9
      have HB9 := Lib.hid B9
      have HR9 := Lib.hid R9
      clear SP S9 E9 LN9 LM9 O9 B9 R9 HLN8 HT8 HO8 m2 m3 m4 m5 hY
      go_wp2_with fail
      refine IS.out.mono ?_
      rintro e w10 ⟨rfl, hb10⟩
      have LN10 := HLN9.out.below hb10 HLN9.out.lt
      have LM10 := HLM9.out.below hb10 HLM9.out.lt
      have p0' : w10.cell? ⟨w7.heap.size, 0, none⟩ = some (.int .i64 (s : Int)) := LN10.cell 0
      have p1' : w10.cell? ⟨w7.heap.size, 1, none⟩ = some (.slice A7 n7 c7) := LN10.cell 1
      have p2' : w10.cell? ⟨w2.heap.size, 0, none⟩ = some (.int .i64 (s : Int)) := LM10.cell 0
      have p3' : w10.cell? ⟨w2.heap.size, 1, none⟩ = some (.slice A n c') := LM10.cell 1
      have p4' := LM10.frozen 0
      have p5' := LM10.frozen 1
      have FIN := Lib.hid (Twin.put (HS9.out.kept hb10) HC8.out HL8.out LM10 (HO9.out.kept hb10) Hn7.out (on HB9.out HB9.out.size hb10) (Nat.le_trans HR9.out hb10.size) (by omega) (by omega) (by omega) W4)
      clear LN10 LM10 hb10 IS HS9 HLN9 HLM9 HO9 HB9 HR9 HC8 HL8 Hn7 n0 n1
      go_wp2
      exact ⟨⟨j + 1, _, _, _, _, _, _, by omega, by go_num, FIN.out⟩, by simp [intOf]; omega⟩
    · go_wp2_with fail
      refine T.is.mono ?_
      rintro e w7 ⟨rfl, hb7⟩
      go_wp2
      go_ret
      exact ⟨rfl, on T.old T.old.size hb7⟩
end Go.Proofs.Ytccojidhghgikaa
