/- The walk of HeapOfs where the words are a heap's. -/
import Derived.Test.YtccojidhghgikaaOfsW
import Derived.Test.YtccojidhghgikaaIs
import Derived.Deep.QuietTactic
import Derived.BigQuiet
namespace Go.Proofs.Ytccojidhghgikaa
open Go.RowKit
set_option linter.unusedVariables false
set_option linter.unusedSimpArgs false

theorem ofy {w : World} {obs : List Ob} {tail : List Int} (A : Option Addr) (c Z N : Nat) (hf : Fine obs) (hr : Row w A (flat obs ++ tail)) (hZ : (flat obs ++ tail).length = Z) (hN : (flat obs).length = N) (h1 : 1 ≤ Z) (h2 : Z ≤ 65536) :
    Calls Try.prog 29 #[.slice A Z c, .int .i64 N] w fun e w' => ∃ g gw gb, e = .returned (.tuple #[.pointer (some ⟨g, 0, none⟩), .int .i64 0]) ∧ Below w.heap.size w w' ∧ w.heap.size ≤ g ∧ w.heap.size ≤ gw ∧ w.heap.size ≤ gb ∧ St w' g gw gb obs tail := by
  subst hZ hN
  have ht : (flat obs ++ tail).take (flat obs).length = flat obs := by simp
  refine (of_yes A c (flat obs).length (flat obs ++ tail) w hr h1 h2 (by simp) (by rw [ht]; exact ⟨obs, hf, rfl⟩)).mono ?_
  rintro e w' ⟨g, gw, gb, obs', he, hb, l1, l2, l3, hf', hfl, H⟩
  rw [ht] at hfl
  obtain rfl := flat_uniq hf' hf hfl
  exact ⟨g, gw, gb, he, hb, l1, l2, l3, hf, by simpa using H⟩
theorem rofy {w : World} {obs : List Ob} {tail : List Int} (A : Option Addr) (c Z N : Nat) (hf : Fine obs) (hr : Row w A (flat obs ++ tail)) (hZ : (flat obs ++ tail).length = Z) (hN : (flat obs).length = N) (h1 : 1 ≤ Z) (h2 : Z ≤ 65536) (hc : Z ≤ c) :
    Calls Try.prog 30 #[.slice A Z c, .int .i64 N] w fun e w' => ∃ A' n' c' xs, e = .returned (.tuple #[.agg #[.int .i64 (Z : Int), .slice A' n' c'], .int .i64 0]) ∧ Below w.heap.size w w' ∧ obs.length = n' ∧ Owned w' (w.heap.size + 1 + 1) A' n' c' obs xs := by
  subst hZ hN
  have ht : (flat obs ++ tail).take (flat obs).length = flat obs := by simp
  have hp : Parses ((flat obs ++ tail).take (flat obs).length) := by rw [ht]; exact ⟨obs, hf, rfl⟩
  refine (rof_any A c (flat obs).length (flat obs ++ tail) w hr h1 h2 (by simp) hc).mono ?_
  rintro e w' ⟨⟨_, A', n', c', obs', xs, he, hf', hfl, hl, ho⟩ | ⟨hno, _⟩, hb⟩
  · rw [ht] at hfl
    obtain rfl := flat_uniq hf' hf hfl
    exact ⟨A', n', c', xs, he, hb, hl, ho⟩
  · exact absurd hp hno

/-- The first so many are numbers. -/
def Ints (n : Nat) (cs : List Value) : Prop := ∀ j, j < n → ∃ z : Int, cs[j]? = some (.int .i64 z)
theorem Ints.set {n k : Nat} {cs : List Value} (h : Ints n cs) (z : Int) : Ints n (cs.set k (.int .i64 z)) := fun j hj => by
  obtain ⟨y, hy⟩ := h j hj
  rw [List.getElem?_set]
  by_cases e : k = j
  · subst e
    have : k < cs.length := (List.getElem?_eq_some_iff.1 hy).1
    exact ⟨z, by simp [this]⟩
  · exact ⟨y, by simp [e, hy]⟩
theorem Else.put {g0 : Nat} {W wr : World} (h : Else g0 g0 g0 W wr) (k : Nat) (u : Value) : Else g0 g0 g0 W (wr.setCell ⟨g0, k, none⟩ u) :=
  ⟨h.os, h.tape, h.output, by have := h.size; simpa using this, fun b hb h1 _ _ => (Below.heap_setCell wr ⟨g0, k, none⟩ u b h1).trans (h.block b hb h1 h1 h1)⟩
theorem St.else_ {w w' : World} {g gw gb g0 : Nat} {obs : List Ob} {tail : List Int} (h : St w g gw gb obs tail) (he : Else g0 g0 g0 w w') (h1 : g ≠ g0) (h2 : gw ≠ g0) (h3 : gb ≠ g0) : St w' g gw gb obs tail :=
  ⟨h.fine, he.lies h.lies.own h1 h1 h1, he.lies h.lies.words h2 h2 h2, he.lies h.lies.begins h3 h3 h3, h.lies.same, h.lies.some_, h.lies.most, h.lies.fits⟩
theorem owns_else {w w' : World} {base n sz g0 : Nat} {t : TypeId} {v : Value} {xs : List Value} (h : w.ownsRow base t sz v n xs) (he : Else g0 g0 g0 w w') (hg : g0 < base) : w'.ownsRow base t sz v n xs := by
  refine ⟨h.1, h.2.imp id ?_⟩
  rintro ⟨g, cap, cur, h1, h2, h3, h4⟩
  have hne : g ≠ g0 := by omega
  exact ⟨g, cap, cur, h1, h2, (he.block g (Array.getElem?_eq_some_iff.1 h3).1 hne hne hne).trans h3, h4⟩
theorem Owned.else_ {w w' : World} {base n c g0 : Nat} {A : Option Addr} {obs : List Ob} {xs : List Value} (h : Owned w base A n c obs xs) (he : Else g0 g0 g0 w w') (hg : g0 < base) : Owned w' base A n c obs xs :=
  ⟨owns_else h.own he hg, h.cells.of fun _ _ _ _ ho => owns_else ho he hg⟩
theorem owns_else' {w w' : World} {base n sz g0 : Nat} {t : TypeId} {v : Value} {xs : List Value} (h : w.ownsRow base t sz v n xs) (he : Else g0 g0 g0 w w') (hg : w.heap.size ≤ g0) : w'.ownsRow base t sz v n xs := by
  refine ⟨h.1, h.2.imp id ?_⟩
  rintro ⟨g, cap, cur, h1, h2, h3, h4⟩
  have hlt := (Array.getElem?_eq_some_iff.1 h3).1
  have hne : g ≠ g0 := by omega
  exact ⟨g, cap, cur, h1, h2, (he.block g hlt hne hne hne).trans h3, h4⟩

/-- What stands while the two loops go on. -/
structure Both (w W : World) (g gw gb bm base : Nat) (obs : List Ob) (tail : List Int) (A' : Option Addr) (n' c' Z : Nat) (xs : List Value) : Prop where
  st : St W g gw gb obs tail
  own : Owned W base A' n' c' obs xs
  box : Lies W bm 41 [.int .i64 (Z : Int), .slice A' n' c']
  old : Below w.heap.size w W
theorem Both.else_ {w W wr : World} {g gw gb bm base g0 n' c' Z : Nat} {obs : List Ob} {tail : List Int} {A' : Option Addr} {xs : List Value} (h : Both w W g gw gb bm base obs tail A' n' c' Z xs) (he : Else g0 g0 g0 W wr) (h0 : w.heap.size ≤ g0) (h1 : g ≠ g0) (h2 : gw ≠ g0) (h3 : gb ≠ g0) (h4 : bm ≠ g0) (h5 : g0 < base) : Both w wr g gw gb bm base obs tail A' n' c' Z xs :=
  ⟨h.st.else_ he h1 h2 h3, h.own.else_ he h5, he.lies h.box h4 h4 h4, h.old.trans (he.below h.old.size h0 h0 h0)⟩
theorem Both.kept {w W wr : World} {g gw gb bm base n' c' Z : Nat} {obs : List Ob} {tail : List Int} {A' : Option Addr} {xs : List Value} (h : Both w W g gw gb bm base obs tail A' n' c' Z xs) (hb : Below W.heap.size W wr) : Both w wr g gw gb bm base obs tail A' n' c' Z xs :=
  ⟨h.st.kept hb, h.own.kept hb, h.box.below hb h.box.lt, on h.old h.old.size hb⟩
/-- A block that was made later is written. -/
theorem Both.later {w W wr : World} {g gw gb bm base g0 n' c' Z : Nat} {obs : List Ob} {tail : List Int} {A' : Option Addr} {xs : List Value} (h : Both w W g gw gb bm base obs tail A' n' c' Z xs) (he : Else g0 g0 g0 W wr) (hg : W.heap.size ≤ g0) : Both w wr g gw gb bm base obs tail A' n' c' Z xs := by
  have l1 := h.st.lies.own.lt
  have l2 := h.st.lies.words.lt
  have l3 := h.st.lies.begins.lt
  have l4 := h.box.lt
  have l5 := h.old.size
  refine ⟨h.st.else_ he (by omega) (by omega) (by omega), ⟨owns_else' h.own.own he hg, h.own.cells.of fun _ _ _ _ ho => owns_else' ho he hg⟩, he.lies h.box (by omega) (by omega) (by omega), h.old.trans (he.below l5 (by omega) (by omega) (by omega))⟩

/-- From a place on they are the words. -/
def From (k : Nat) (zs : List Int) (cs : List Value) : Prop := cs.length = zs.length ∧ ∀ j, k ≤ j → j < zs.length → cs[j]? = some (.int .i64 (zs.getD j 0))
theorem From.start (zs : List Int) : From 0 zs (zs.map (Value.int .i64)) := ⟨by simp, fun j _ hj => by simp [List.getD, hj]⟩
theorem From.next {k : Nat} {zs : List Int} {cs : List Value} (h : From k zs cs) (u : Value) : From (k + 1) zs (cs.set k u) := ⟨by simp [h.1], fun j hj hl => by
  rw [List.getElem?_set, if_neg (by omega)]
  exact h.2 j (by omega) hl⟩

set_option maxRecDepth 100000 in
set_option maxHeartbeats 1000000 in
theorem ofs_yes (ad : Addr) (c Z N : Nat) (obs : List Ob) (tail : List Int) (w : World) (hf : Fine obs) (hW : Within obs) (hr : Row w (some ad) (flat obs ++ tail)) (hZ : (flat obs ++ tail).length = Z) (hN : (flat obs).length = N) (h1 : 1 ≤ Z) (h2 : Z ≤ 200) (hc : Z ≤ c) :
    Calls Try.prog 6 #[.slice (some ad) Z c, .int .i64 (N : Int)] w fun e w' => e = .returned (.bool true) ∧ Below w.heap.size w w' := by
  have d1 : decide ((200 : Int) < (Z : Int)) = false := by simp; omega
  have HR := Lib.hid hr
  have HZ := Lib.hid hZ
  have HN := Lib.hid hN
  have HF := Lib.hid hf
  have HW := Lib.hid hW
  clear hr hZ hN hf hW
  obtain ⟨i0, hi, hz0, hz1, hz2⟩ := info_parts info3
  have hnn := fun W g => nil_ne W g
  go_enter Try.func6, Try.ntmps6
  go_wp2_with fail
  refine (awake_any _).mono ?_
  rintro e w1 ⟨rfl, hb1⟩
  have HO := Lib.hid (own_new (B := w1.heap.size) w1 (Nat.le_refl _))
  have R2 := Lib.hid ((HR.out.kept hb1).alloc (.cells #[] 3))
  have hs1 := hb1.size
  go_wp2_with (at_builtin; refine wpList_append_own _ rfl _ _ 51 rfl w1.heap.size 3 i0 (.int .i64 0) 1 8 Try.underlying51 hi hz0 hz1 hz2 rfl (by decide) _ 0 [] rfl HO.out ad Z c ((flat obs ++ tail).map (Value.int .i64)) rfl (by rw [List.length_map, HZ.out]; omega) (row_news R2.out) (ints_oneCell _ _) (by unfold maxLen; omega) (by omega) (by simp) ?_; intro v2 w2 O2 G2 _; have b2 := Lib.hid (below_own (hb1.alloc hb1.size (.cells #[] 3)) hb1.size (by simp; omega) HO.out G2); have HO2 := Lib.hid O2; clear O2 G2)
  have O2 := HO2.out
  rw [Nat.zero_add, List.nil_append] at O2
  clear HO2 HO
  obtain ⟨A2, c2, e2, hR2⟩ := owns_row O2
  obtain ⟨_, ⟨_, h0⟩ | ⟨g0, cap0, cur, rfl, hbase, hheap, q1, q2, q3, q4⟩⟩ := O2
  · omega
  injection e2 with e3 _ e4
  subst e3 e4
  have L0 : Lies w2 g0 3 cur.toList := by unfold Lies; rw [hheap]
  have I0 : Ints Z cur.toList := fun j hj => by
    have : (cur.toList.take (Z * 1))[j]? = ((flat obs ++ tail).map (Value.int .i64))[j]? := by rw [q4]
    rw [List.getElem?_take, if_pos (by omega)] at this
    rw [this]
    exact ⟨(flat obs ++ tail).getD j 0, by simp only [List.getElem?_map, List.getD]; rw [List.getElem?_eq_getElem (by rw [HZ.out]; exact hj)]; rfl⟩
  have HR2 := Lib.hid hR2
  clear hR2 hheap q1 q2 q3 q4
  refine (ofy _ _ Z N HF.out HR2.out HZ.out HN.out h1 (by omega)).mono ?_
  rintro e w3 ⟨g, gw, gb, rfl, hb3, l1, l2, l3, S3⟩
  have b3 := on b2.out b2.out.size hb3
  have L3 := L0.below hb3 L0.lt
  have gl := L0.lt
  have HS3 := Lib.hid S3
  have HL3 := Lib.hid L3
  have HI0 := Lib.hid I0
  clear L0 I0 S3 L3
  go_wp2_with fail
  refine (rofy _ _ Z N HF.out (HR.out.kept b3) HZ.out HN.out h1 (by omega) hc).mono ?_
  rintro e w4 ⟨A', n', c', xs, rfl, hb4, hn', HOw⟩
  have b4 := on b3 b3.size hb4
  have s3 := hb3.size
  have s4 := hb4.size
  obtain ⟨X, hX⟩ : ∃ X : Obj, X = .cells #[.int .i64 (Z : Int), .slice A' n' c'] 41 := ⟨_, rfl⟩
  have bX : Below w4.heap.size w4 (w4.alloc X) := below_one w4 X
  have bo : Both w (w4.alloc X) g gw gb w4.heap.size (w3.heap.size + 1 + 1) obs tail A' n' c' Z xs :=
    ⟨(HS3.out.kept hb4).kept bX, HOw.kept bX, by rw [hX]; exact Lies.new w4 41 [_, _], on b4 b4.size bX⟩
  have L4 : Lies (w4.alloc X) g0 3 cur.toList := (HL3.out.below hb4 HL3.out.lt).alloc X
  have sz : (w4.alloc X).heap.size = w4.heap.size + 1 := by simp
  have HBo := Lib.hid bo
  have HL4 := Lib.hid L4
  have HSZ := Lib.hid sz
  have Hn' := Lib.hid hn'
  clear bo L4 sz hn' HOw HS3 HL3 hb3 hb4 bX
  go_wp2_with fail
  rw [← hX]
  have HX := Lib.hid hX
  clear hX
  generalize hW4 : w4.alloc X = W4 at *
  have HW4 := Lib.hid hW4
  clear hW4
  go_wp2_with fail
  go_loopw [50] (fun i wr => ∃ (k : Nat) (cs : List Value), k ≤ Z ∧ i = .int .i64 k ∧ Lies wr g0 3 cs ∧ Ints Z cs ∧ Else g0 g0 g0 W4 wr) (fun i _ => Z - (intOf i).toNat)
  case atStart => exact ⟨0, cur.toList, Nat.zero_le _, rfl, HL4.out, HI0.out, Else.refl _ _ _ _⟩
  case round =>
    obtain ⟨k, cs, hk, rfl, LL, II, EE⟩ := hrel
    by_cases hlt : k < Z
    · obtain ⟨z, hz⟩ := II k hlt
      have hcz : wr.cell? ⟨g0, k, none⟩ = some (.int .i64 z) := (LL.cell k).trans hz
      have hfz : wr.frozen? ⟨g0, k, none⟩ = false := LL.frozen k
      have HLL := Lib.hid LL
      have HII := Lib.hid II
      have HEE := Lib.hid EE
      clear LL II EE hz
      go_wp2
      go_roundw
      case rel => exact ⟨k + 1, _, by omega, by go_num, HLL.out.set k _, HII.out.set _, HEE.out.put k _⟩
      case measure => simp [intOf]; omega
    · have hBr := HBo.out.else_ EE (by omega) (by omega) (by omega) (by omega) (by omega) (by omega)
      have HBr := Lib.hid hBr
      have hsr := EE.size
      clear LL II EE HBo HL4 HI0 hBr
      go_wp2_with fail
      refine (words_z HBr.out.st Z HZ.out).mono ?_
      rintro e w5 ⟨rfl, L5, hb5⟩
      have HL5 := Lib.hid L5
      obtain ⟨B5, hB5⟩ : ∃ B5, B5 = wr.heap.size := ⟨_, rfl⟩
      rw [← hB5] at HL5 ⊢
      have E0 := Lib.hid (show Else B5 B5 B5 wr w5 from Else.of_below hb5)
      have HB5 := Lib.hid hB5
      clear hb5 L5 hB5
      go_wp2_with fail
      go_loopw [64] (fun i ws => ∃ (k : Nat) (cs : List Value), k ≤ Z ∧ i = .int .i64 k ∧ Lies ws B5 3 cs ∧ From k (flat obs ++ tail) cs ∧ Else B5 B5 B5 wr ws) (fun i _ => Z - (intOf i).toNat)
      case atStart => exact ⟨0, _, Nat.zero_le _, rfl, HL5.out, From.start _, E0.out⟩
      case round =>
        obtain ⟨k, cs, hk, rfl, LL, FF, EE⟩ := hrel
        have hBs := HBr.out.later EE (by rw [HB5.out]; exact Nat.le_refl _)
        by_cases hlt : k < Z
        · have hz := FF.2 k (Nat.le_refl _) (by rw [HZ.out]; exact hlt)
          have hcz := (LL.cell k).trans hz
          have hfz : wr.frozen? ⟨B5, k, none⟩ = false := LL.frozen k
          obtain ⟨ad', e', hca⟩ := (HR.out.kept hBs.old).at_ (i := k) (by rw [HZ.out]; exact hlt)
          injection e' with e'
          subst e'
          generalize (flat obs ++ tail).getD k 0 = z at *
          have hzz : (z != z) = false := by simp
          have HLL := Lib.hid LL
          have HFF := Lib.hid FF
          have HEE := Lib.hid EE
          clear LL FF EE hz hBs
          go_wp2_with fail
          go_quiet (fail)
          go_wp2
          go_roundw
          case rel => exact ⟨k + 1, cs.set k (.int .i64 (-7)), by omega, by go_num, Lies.set (w := wr.drewN nq) HLL.out k _, HFF.out.next _, Else.put (wr := wr.drewN nq) ⟨HEE.out.os, HEE.out.tape, HEE.out.output, HEE.out.size, HEE.out.block⟩ k _⟩
          case measure => simp [intOf]; omega
        · have y0 : wr.cell? ⟨w4.heap.size, 0, none⟩ = some (.int .i64 (Z : Int)) := hBs.box.cell 0
          have y1 : wr.cell? ⟨w4.heap.size, 1, none⟩ = some (.slice A' n' c') := hBs.box.cell 1
          have HBs := Lib.hid hBs
          clear LL FF EE hBs HBr
          go_wp2_with fail
          refine (is_any HBs.out.st HBs.out.own.things HW.out n' c' Z Hn'.out HZ.out).mono ?_
          rintro e w6 ⟨rfl, hb6⟩
          go_wp2
          go_ret
          exact ⟨rfl, on HBs.out.old HBs.out.old.size hb6⟩
end Go.Proofs.Ytccojidhghgikaa
