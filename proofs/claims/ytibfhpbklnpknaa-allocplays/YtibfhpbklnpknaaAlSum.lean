/- What every Alloc keeps: how many words there are, how many buffers. -/
import Derived.Test.YtibfhpbklnpknaaAlNew
namespace Go.Proofs.Ytibfhpbklnpknaa
open Go.RowKit
set_option linter.unusedVariables false
set_option linter.unusedSimpArgs false

theorem fine_place {obs : List Ob} {tail : List Int} {k l p : Int} (h : Fine obs) : Fine (placeF obs tail k l p).2.2.1 := by
  unfold placeF
  by_cases hg : goodB k l p = false
  · rw [if_pos hg]; exact h
  · rw [if_neg hg]
    split
    · exact h
    · have hg' : goodB k l p = true := by simpa using hg
      refine h.append (Fine.one (head_pack hg').1 ?_)
      simp only [zeros, lenOf, (head_pack hg').2.2.1]
      simp
theorem fine_renew {size t : Nat} {bs : List Int} {obs : List Ob} {tail : List Int} (h : Fine obs) : Fine (renewF size bs obs tail t).2.2.1 := by
  unfold renewF
  split <;> exact fine_place h
theorem place_sum (obs : List Ob) (tail : List Int) (k l p : Int) : (flat (placeF obs tail k l p).2.2.1 ++ (placeF obs tail k l p).2.2.2).length = (flat obs ++ tail).length := by
  unfold placeF
  split
  · rfl
  · split
    · rfl
    · simp [flat_append, flat_cons, flat_nil, zeros]
      omega
theorem placeA_total (obs : List Ob) (tail : List Int) (k l p : Int) : (flat (placeA obs tail k l p).2.2.1 ++ (placeA obs tail k l p).2.2.2).length = (flat obs ++ tail).length := by
  unfold placeA
  split <;> exact place_sum _ _ _ _ _
theorem renew_total (size : Nat) (bs : List Int) (obs : List Ob) (tail : List Int) (t : Nat) : (flat (renewF size bs obs tail t).2.2.1 ++ (renewF size bs obs tail t).2.2.2).length = (flat obs ++ tail).length := by
  unfold renewF
  split <;> exact place_sum _ _ _ _ _
theorem cut_total {bs : List Int} {obs : List Ob} (tail : List Int) (t : Nat) (k l p : Int) (h : Fine obs) : (flat (cutF bs obs t k l p).2.2 ++ tail).length = (flat obs ++ tail).length := by
  have := split_len (a := bs.getD t 0 - 1) (k := k) (l := l) (p := p) h
  simp only [cutF, List.length_append]
  omega
theorem alloc_total (size : Nat) (bs : List Int) {obs : List Ob} (tail : List Int) (t k l p : Int) (h : Fine obs) : (flat (allocF size bs obs tail t k l p).2.2.2.1 ++ (allocF size bs obs tail t k l p).2.2.2.2).length = (flat obs ++ tail).length := by
  unfold allocF
  split
  · rfl
  · split
    · exact placeA_total _ _ _ _ _
    · split
      · split
        · exact (placeA_total _ _ _ _ _).trans (renew_total _ _ _ _ _)
        · exact (cut_total _ _ _ _ _ (fine_renew h)).trans (renew_total _ _ _ _ _)
      · exact cut_total _ _ _ _ _ h
theorem alloc_length (size : Nat) (bs : List Int) (obs : List Ob) (tail : List Int) (t k l p : Int) : (allocF size bs obs tail t k l p).2.2.1.length = bs.length := by
  unfold allocF
  split
  · rfl
  · split
    · rfl
    · split
      · split
        · exact renew_length _ _ _ _ _
        · simp only [cutF, List.length_set]; exact renew_length _ _ _ _ _
      · simp [cutF]
theorem retire_length (bs : List Int) (t : Int) : (retireA bs t).2.length = bs.length := by
  unfold retireA
  split <;> simp
theorem left_nn {obs : List Ob} (h : Fine obs) (bs : List Int) (t : Int) : 0 ≤ (leftA bs obs t).1 := by
  unfold leftA leftF
  split
  · simp only
    split
    · omega
    · have := (headF_len h (bs.getD t.toNat 0 - 1)).1; omega
  · simp
theorem left_retired (bs : List Int) (obs : List Ob) (t : Int) (h0 : 0 ≤ t) (h1 : t < (bs.length : Int)) : leftA (retireA bs t).2 obs t = (0, 0) := by
  unfold retireA
  rw [if_pos ⟨h0, h1⟩]
  unfold leftA leftF
  have e : (bs.set t.toNat 0).getD t.toNat 0 = 0 := by simp [List.getD, List.getElem?_set]; split <;> simp_all
  simp only [List.length_set]
  rw [if_pos ⟨h0, h1⟩, e]
  rfl

theorem Al.else4 {w w' : World} {ga gf g gw gb size p q r u : Nat} {bs : List Int} {obs : List Ob} {tail : List Int} (h : Al w ga gf g gw gb size bs obs tail) (E : Else4 p q r u w w')
    (a1 : ga ≠ p ∧ ga ≠ q ∧ ga ≠ r ∧ ga ≠ u) (a2 : gf ≠ p ∧ gf ≠ q ∧ gf ≠ r ∧ gf ≠ u) (a3 : g ≠ p ∧ g ≠ q ∧ g ≠ r ∧ g ≠ u) (a4 : gw ≠ p ∧ gw ≠ q ∧ gw ≠ r ∧ gw ≠ u) (a5 : gb ≠ p ∧ gb ≠ q ∧ gb ≠ r ∧ gb ≠ u) : Al w' ga gf g gw gb size bs obs tail :=
  ⟨⟨h.st.fine, E.lies h.st.lies.own a3.1 a3.2.1 a3.2.2.1 a3.2.2.2, E.lies h.st.lies.words a4.1 a4.2.1 a4.2.2.1 a4.2.2.2, E.lies h.st.lies.begins a5.1 a5.2.1 a5.2.2.1 a5.2.2.2, h.st.lies.same, h.st.lies.some_, h.st.lies.most, h.st.lies.fits⟩,
   E.lies h.own a1.1 a1.2.1 a1.2.2.1 a1.2.2.2, E.lies h.row a2.1 a2.2.1 a2.2.2.1 a2.2.2.2, h.ne, h.lo, h.hi, h.led⟩
end Go.Proofs.Ytibfhpbklnpknaa
