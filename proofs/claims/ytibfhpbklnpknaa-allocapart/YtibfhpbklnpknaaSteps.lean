/- The calls on a heap, as functions of a row of objects: what each answers, and what the row is then. -/
import Derived.Test.YtibfhpbklnpknaaState
namespace Go.Proofs.Ytibfhpbklnpknaa
open Go.RowKit
set_option linter.unusedVariables false
set_option linter.unusedSimpArgs false

/-- The object that begins at an address, what stands ahead of it, and behind it. -/
def look : List Ob → Int → Option (List Ob × Ob × List Ob)
  | [], _ => none
  | o :: l, a => if a = 0 then some ([], o, l) else (look l (a - (1 + o.2.length))).map fun x => (o :: x.1, x.2.1, x.2.2)

theorem look_here : ∀ (pre : List Ob) (o : Ob) (post : List Ob), look (pre ++ o :: post) ((flat pre).length : Nat) = some (pre, o, post)
  | [], o, post => by simp [look, flat_nil]
  | x :: pre, o, post => by
    have ih := look_here pre o post
    rw [List.cons_append, look, flat_cons, if_neg (by simp; omega)]
    have e : (((x.1 :: (x.2 ++ flat pre)).length : Nat) : Int) - (1 + (x.2.length : Int)) = ((flat pre).length : Nat) := by simp; omega
    rw [e, ih]
    rfl
theorem look_some : ∀ (obs : List Ob) (a : Int) (x : List Ob × Ob × List Ob), look obs a = some x → obs = x.1 ++ x.2.1 :: x.2.2 ∧ a = ((flat x.1).length : Nat)
  | [], a, x, h => by simp [look] at h
  | o :: l, a, x, h => by
    rw [look] at h
    split at h
    · next h0 =>
      simp at h
      subst h
      exact ⟨rfl, by simp [h0, flat_nil]⟩
    · rw [Option.map_eq_some_iff] at h
      obtain ⟨y, h1, rfl⟩ := h
      obtain ⟨e1, e2⟩ := look_some l _ _ h1
      refine ⟨by rw [List.cons_append, ← e1], ?_⟩
      simp only [flat_cons]
      simp
      omega
theorem look_none {obs : List Ob} {a : Int} (n : Nat) (h : look obs a = none) : startB (flat obs).length (noted obs n) a = false := by
  cases hs : startB (flat obs).length (noted obs n) a with
  | false => rfl
  | true =>
    obtain ⟨pre, o, post, rfl, rfl⟩ := start_ob hs
    rw [look_here] at h
    cases h

/-- Is a word neither 0 nor an object's? -/
def astrayO (obs : List Ob) (v : Int) : Bool := !(v == 0) && (match look obs (v - 1) with | none => true | some x => x.2.1.1 % 16 == 15)
theorem astray_eq (obs : List Ob) (tail : List Int) (n : Nat) (v : Int) : astrayB (flat obs ++ tail) (flat obs).length (noted obs n) v = astrayO obs v := by
  unfold astrayB astrayO
  congr 1
  cases hl : look obs (v - 1) with
  | none => rw [look_none n hl]; rfl
  | some x =>
    obtain ⟨pre, o, post⟩ := x
    obtain ⟨rfl, e⟩ := look_some _ _ _ hl
    simp only at e ⊢
    rw [e, ob_start, Int.toNat_natCast, word_here]
    rfl

/-- A heap of the program: objects one behind the other, and what stands from the top on. -/
structure St (w : World) (g gw gb : Nat) (obs : List Ob) (tail : List Int) : Prop where
  fine : Fine obs
  lies : HeapAt w g gw gb (flat obs ++ tail) (flat obs).length (noted obs tail.length)

theorem St.kept {w w' : World} {g gw gb : Nat} {obs : List Ob} {tail : List Int} (h : St w g gw gb obs tail) (hb : Below w.heap.size w w') : St w' g gw gb obs tail := ⟨h.fine, h.lies.kept hb⟩
theorem St.sound {w : World} {g gw gb : Nat} {obs : List Ob} {tail : List Int} (h : St w g gw gb obs tail) : Sound (flat obs ++ tail) (flat obs).length (noted obs tail.length) := sound_of h.fine _ _

def zeros (l : Int) : List Int := List.replicate l.toNat 0

def placeF (obs : List Ob) (tail : List Int) (k l p : Int) : Int × Int × List Ob × List Int :=
  if goodB k l p = false then (0, 1, obs, tail) else if tail.length < 1 + l.toNat then (0, 6, obs, tail)
  else (((flat obs).length : Nat), 0, obs ++ [(packW k l p, zeros l)], tail.drop (1 + l.toNat))

theorem place_st {w : World} {g gw gb : Nat} {obs : List Ob} {tail : List Int} (S : St w g gw gb obs tail) (k l p : Int) :
    Calls Try.prog 48 #[.pointer (some ⟨g, 0, none⟩), .agg #[.int .i64 k, .int .i64 l, .int .i64 p]] w fun e w' =>
      e = .returned (.tuple #[.int .i64 (placeF obs tail k l p).1, .int .i64 (placeF obs tail k l p).2.1]) ∧ St w' g gw gb (placeF obs tail k l p).2.2.1 (placeF obs tail k l p).2.2.2 ∧ Else g gw gb w w' := by
  unfold placeF
  cases hg : goodB k l p with
  | false =>
    rw [if_pos rfl]
    exact (place_bad S.lies k l p hg).mono fun e w' ⟨he, hb⟩ => ⟨he, S.kept hb, Else.of_below hb⟩
  | true =>
    rw [if_neg (by simp)]
    obtain ⟨l, rfl⟩ := Int.eq_ofNat_of_zero_le ((good_iff k l p).1 hg).2.2.1
    rw [Int.toNat_natCast]
    by_cases hf : tail.length < 1 + l
    · rw [if_pos hf]
      exact (place_full S.lies k p l hg (by simp; omega)).mono fun e w' ⟨he, hb⟩ => ⟨he, S.kept hb, Else.of_below hb⟩
    · rw [if_neg hf]
      refine (place_yes S.lies k p l hg (by simp; omega)).mono fun e w' ⟨he, H, E⟩ => ⟨he, ⟨S.fine.append (Fine.one (head_pack hg).1 ?_), ?_⟩, E⟩
      · simp only [zeros, lenOf, (head_pack hg).2.2.1]; simp
      · rw [lay_top _ _ _ _ (by omega), marks_top _ _ l (packW k l p) (by omega)] at H
        have e1 : (flat (obs ++ [(packW k l p, zeros l)])).length = (flat obs).length + (1 + l) := by simp [flat_append, flat_cons, flat_nil, zeros]; omega
        have e2 : (tail.drop (1 + l)).length = tail.length - (1 + l) := by simp
        rw [e1, e2]
        simpa [zeros] using H

def splitF (obs : List Ob) (a k l p : Int) : Int × Int × List Ob :=
  match look obs a with
  | none => (0, 3, obs)
  | some x =>
    if x.2.1.1 % 16 ≠ 15 then (0, 2, obs) else if goodB k l p = false then (0, 1, obs) else if x.2.1.1 / 65536 < l then (0, 6, obs)
    else if x.2.1.1 / 65536 = l then (0, 0, x.1 ++ (packW k l p, zeros l) :: x.2.2)
    else (a + (1 + l), 0, x.1 ++ (packW k l p, zeros l) :: (packW 15 (x.2.1.1 / 65536 - l - 1) 0, zeros (x.2.1.1 / 65536 - l - 1)) :: x.2.2)

theorem split_st {w : World} {g gw gb : Nat} {obs : List Ob} {tail : List Int} (S : St w g gw gb obs tail) (a k l p : Int) :
    Calls Try.prog 49 #[.pointer (some ⟨g, 0, none⟩), .int .i64 a, .agg #[.int .i64 k, .int .i64 l, .int .i64 p]] w fun e w' =>
      e = .returned (.tuple #[.int .i64 (splitF obs a k l p).1, .int .i64 (splitF obs a k l p).2.1]) ∧ St w' g gw gb (splitF obs a k l p).2.2 tail ∧ Else g gw gb w w' := by
  unfold splitF
  cases hl : look obs a with
  | none => exact (split_addr S.lies a k l p (look_none _ hl)).mono fun e w' ⟨he, hb⟩ => ⟨he, S.kept hb, Else.of_below hb⟩
  | some x =>
    obtain ⟨pre, o, post⟩ := x
    obtain ⟨e0, rfl⟩ := look_some _ _ _ hl
    simp only at e0 ⊢
    subst e0
    have hh := S.fine.right.head.1
    have hlen := S.fine.right.head.2
    have hi : (flat pre).length < (flat (pre ++ o :: post)).length := by simp [flat_append, flat_cons]
    have hb := noted_here pre o post tail.length
    have hn := word_here pre o post tail
    by_cases h1 : o.1 % 16 ≠ 15
    · rw [if_pos h1]
      exact (split_kind S.lies _ k l p hi hb o.1 hn hh h1).mono fun e w' ⟨he, hb⟩ => ⟨he, S.kept hb, Else.of_below hb⟩
    · rw [if_neg h1]
      have h1' : o.1 % 16 = 15 := by omega
      cases hg : goodB k l p with
      | false =>
        rw [if_pos rfl]
        exact (split_bad S.lies _ k l p hi hb o.1 hn hh h1' hg).mono fun e w' ⟨he, hb⟩ => ⟨he, S.kept hb, Else.of_below hb⟩
      | true =>
        rw [if_neg (by simp)]
        by_cases h2 : o.1 / 65536 < l
        · rw [if_pos h2]
          exact (split_full S.lies _ k l p hi hb o.1 hn hh h1' hg h2).mono fun e w' ⟨he, hb⟩ => ⟨he, S.kept hb, Else.of_below hb⟩
        · rw [if_neg h2]
          obtain ⟨l, rfl⟩ := Int.eq_ofNat_of_zero_le ((good_iff k l p).1 hg).2.2.1
          have hfine1 : headB (packW k l p) = true ∧ (zeros (l : Int)).length = lenOf (packW k l p) := ⟨(head_pack hg).1, by simp only [zeros, lenOf, (head_pack hg).2.2.1]; simp⟩
          have hp := fits_here S.fine
          by_cases h3 : o.1 / 65536 = l
          · rw [if_pos h3]
            have hll : o.2.length = l := by rw [hlen]; unfold lenOf; omega
            refine (split_even S.lies _ k p l hi hb o.1 hn hh h1' hg hp h3).mono fun e w' ⟨he, H, E⟩ => ⟨he, ⟨S.fine.left.append (fun y hy => ?_), ?_⟩, E⟩
            · rcases List.mem_cons.1 hy with rfl | hy
              · exact hfine1
              · exact S.fine.right.tail y hy
            · rw [lay_here _ _ _ _ _ _ hll, set_true hb, marks_swap pre o (packW k l p, zeros l) post _ (by simp [zeros, hll])] at H
              have e1 : (flat (pre ++ o :: post)).length = (flat (pre ++ (packW k l p, zeros l) :: post)).length := by simp [flat_append, flat_cons, zeros, hll]
              rw [e1] at H
              exact H
          · rw [if_neg h3]
            obtain ⟨m, hm⟩ : ∃ m : Nat, o.1 / 65536 = l + 1 + m := ⟨(o.1 / 65536 - l - 1).toNat, by omega⟩
            have em : o.1 / 65536 - l - 1 = m := by omega
            rw [em]
            have hll : o.2.length = l + 1 + m := by rw [hlen]; unfold lenOf; omega
            have h4 := len_le hh
            have gm : goodB 15 (m : Int) 0 = true := good_yes (by unfold lenOf at h4; omega)
            have hfine2 : headB (packW 15 m 0) = true ∧ (zeros (m : Int)).length = lenOf (packW 15 m 0) := ⟨(head_pack gm).1, by simp only [zeros, lenOf, (head_pack gm).2.2.1]; simp⟩
            refine (split_rest S.lies _ k p l hi hb o.1 hn hh h1' hg hp m hm).mono fun e w' ⟨he, H, E⟩ => ⟨?_, ⟨S.fine.left.append (fun y hy => ?_), ?_⟩, E⟩
            · rw [he]
              have : (((flat pre).length + (1 + l) : Nat) : Int) = ((flat pre).length : Nat) + (1 + (l : Int)) := by omega
              rw [this]
            · rcases List.mem_cons.1 hy with rfl | hy
              · exact hfine1
              · rcases List.mem_cons.1 hy with rfl | hy
                · exact hfine2
                · exact S.fine.right.tail y hy
            · rw [lay_two _ _ _ _ _ _ _ _ hll, set_true hb, marks_two pre o post _ l m (packW k l p) (packW 15 m 0) hll] at H
              have e1 : (flat (pre ++ o :: post)).length = (flat (pre ++ (packW k l p, zeros l) :: (packW 15 m 0, zeros m) :: post)).length := by simp [flat_append, flat_cons, zeros, hll]; omega
              rw [e1] at H
              simpa [zeros] using H

def writeF (obs : List Ob) (a f v : Int) : Int × List Ob :=
  match look obs a with
  | none => (3, obs)
  | some x =>
    if ¬ (0 ≤ f ∧ f < x.2.1.1 / 65536) ∨ x.2.1.1 % 16 = 15 then (4, obs) else if f < x.2.1.1 % 65536 / 16 ∧ astrayO obs v = true then (5, obs)
    else (0, x.1 ++ (x.2.1.1, x.2.1.2.set f.toNat v) :: x.2.2)

end Go.Proofs.Ytibfhpbklnpknaa
