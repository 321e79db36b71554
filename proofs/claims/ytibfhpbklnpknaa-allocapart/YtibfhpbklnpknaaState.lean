/- A heap as a row of objects and what stands behind them: plain facts on what its calls do to that row. -/
import Derived.Test.YtibfhpbklnpknaaTails
import Derived.Test.YtibfhpbklnpknaaSplit2
import Derived.Test.YtibfhpbklnpknaaWrite
namespace Go.Proofs.Ytibfhpbklnpknaa
open Go.RowKit
set_option linter.unusedVariables false
set_option linter.unusedSimpArgs false

theorem noted_length (obs : List Ob) (n : Nat) : (noted obs n).length = (flat obs).length + n := by simp [noted, marks_length]

theorem marks_at : ∀ (obs : List Ob) (a : Nat), (marks obs).getD a false = true → ∃ pre o post, obs = pre ++ o :: post ∧ a = (flat pre).length
  | [], a, h => by simp [marks] at h
  | o :: l, a, h => by
    rw [marks_cons] at h
    rcases Nat.eq_zero_or_pos a with h0 | h0
    · exact ⟨[], o, l, rfl, by simp [h0, flat_nil]⟩
    · obtain ⟨b, rfl⟩ : ∃ b, a = b + 1 := ⟨a - 1, by omega⟩
      rw [List.getD_cons_succ] at h
      by_cases hb : b < o.2.length
      · simp [List.getD, List.getElem?_append, hb] at h
      · have e : (List.replicate o.2.length false ++ marks l).getD b false = (marks l).getD (b - o.2.length) false := by
          simp [List.getD, List.getElem?_append, hb]
        rw [e] at h
        obtain ⟨pre, x, post, e1, e2⟩ := marks_at l _ h
        exact ⟨o :: pre, x, post, by rw [e1]; rfl, by rw [flat_cons]; simp; omega⟩

theorem marks_here (pre : List Ob) (o : Ob) (post : List Ob) : (marks (pre ++ o :: post)).getD (flat pre).length false = true := by
  rw [marks_append, marks_cons]
  simp [List.getD, List.getElem?_append, marks_length]

theorem noted_here (pre : List Ob) (o : Ob) (post : List Ob) (n : Nat) : (noted (pre ++ o :: post) n).getD (flat pre).length false = true := by
  have h := marks_here pre o post
  have hl : (flat pre).length < (marks (pre ++ o :: post)).length := by rw [marks_length, flat_append, flat_cons]; simp
  unfold noted
  rw [show (marks (pre ++ o :: post) ++ List.replicate n false).getD (flat pre).length false = (marks (pre ++ o :: post)).getD (flat pre).length false by
    simp [List.getD, List.getElem?_append, hl]]
  exact h

theorem noted_at {obs : List Ob} {n a : Nat} (ha : a < (flat obs).length) (h : (noted obs n).getD a false = true) : ∃ pre o post, obs = pre ++ o :: post ∧ a = (flat pre).length := by
  refine marks_at obs a ?_
  unfold noted at h
  rw [← marks_length] at ha
  simpa [List.getD, List.getElem?_append, ha] using h

/-- Where something begins: an object stands there. -/
theorem start_ob {obs : List Ob} {n : Nat} {a : Int} (h : startB (flat obs).length (noted obs n) a = true) : ∃ pre o post, obs = pre ++ o :: post ∧ a = ((flat pre).length : Nat) := by
  obtain ⟨i, rfl, hi, hb⟩ := start_nat h
  obtain ⟨pre, o, post, e1, e2⟩ := noted_at hi hb
  exact ⟨pre, o, post, e1, by rw [e2]⟩
theorem ob_start (pre : List Ob) (o : Ob) (post : List Ob) (n : Nat) : startB (flat (pre ++ o :: post)).length (noted (pre ++ o :: post) n) ((flat pre).length : Nat) = true := by
  unfold startB
  rw [Int.toNat_natCast, noted_here]
  simp [flat_append, flat_cons]
  omega

theorem word_here (pre : List Ob) (o : Ob) (post : List Ob) (tail : List Int) : (flat (pre ++ o :: post) ++ tail).getD (flat pre).length 0 = o.1 := by
  rw [flat_append, flat_cons]
  simp [List.getD, List.getElem?_append]
theorem fits_here {pre : List Ob} {o : Ob} {post : List Ob} (h : Fine (pre ++ o :: post)) : (flat pre).length + 1 + lenOf o.1 ≤ (flat (pre ++ o :: post)).length := by
  have := h.right.head.2
  rw [flat_append, flat_cons]; simp; omega

theorem sound_of {obs : List Ob} (h : Fine obs) (tail : List Int) (n : Nat) : Sound (flat obs ++ tail) (flat obs).length (noted obs n) := by
  intro i hi hb
  obtain ⟨pre, o, post, rfl, rfl⟩ := noted_at hi hb
  rw [word_here]
  exact ⟨h.right.head.1, fits_here h⟩

/-- An object laid in another one's place. -/
theorem lay_here (pre : List Ob) (o : Ob) (post : List Ob) (tail : List Int) (l : Nat) (v : Int) (hl : o.2.length = l) :
    laid (flat (pre ++ o :: post) ++ tail) (flat pre).length l v = flat (pre ++ (v, List.replicate l 0) :: post) ++ tail := by
  unfold laid cleared
  simp only [flat_append, flat_cons]
  subst hl
  have e1 : (flat pre ++ o.1 :: (o.2 ++ flat post) ++ tail).take (flat pre).length = flat pre := by simp
  have e2 : (flat pre ++ o.1 :: (o.2 ++ flat post) ++ tail).drop ((flat pre).length + (1 + o.2.length)) = flat post ++ tail := by
    rw [List.append_assoc, Nat.add_comm 1, List.drop_append, Nat.add_sub_cancel_left]
    simp [List.drop_append]
  rw [e1, e2, List.set_append_right _ _ (Nat.le_refl _), Nat.sub_self, Nat.add_comm 1, List.replicate_succ]
  simp

/-- An object laid in a longer one's place, and a second one behind it. -/
theorem lay_two (pre : List Ob) (o : Ob) (post : List Ob) (tail : List Int) (l m : Nat) (v u : Int) (hl : o.2.length = l + 1 + m) :
    laid (laid (flat (pre ++ o :: post) ++ tail) (flat pre).length l v) ((flat pre).length + (1 + l)) m u = flat (pre ++ (v, List.replicate l 0) :: (u, List.replicate m 0) :: post) ++ tail := by
  obtain ⟨n, ws⟩ := o
  simp only at hl
  have hs : ws = ws.take l ++ (ws.drop l).head?.toList ++ ws.drop (l + 1) := by
    have h1 : (ws.drop l) = (ws.drop l).head?.toList ++ ws.drop (l + 1) := by
      rw [List.head?_drop, List.getElem?_eq_getElem (by omega), Option.toList_some]
      exact List.drop_eq_getElem_cons (by omega)
    rw [List.append_assoc, ← h1, List.take_append_drop]
  obtain ⟨x, hx⟩ : ∃ x, (ws.drop l).head? = some x := ⟨ws[l]'(by omega), by rw [List.head?_drop, List.getElem?_eq_getElem (by omega)]⟩
  have e0 : flat (pre ++ (n, ws) :: post) = flat (pre ++ (n, ws.take l) :: (x, ws.drop (l + 1)) :: post) := by
    simp only [flat_append, flat_cons]
    rw [hx] at hs
    conv => lhs; rw [hs]
    simp
  rw [e0, lay_here _ _ _ _ _ _ (by simp; omega)]
  have e1 : (flat pre).length + (1 + l) = (flat (pre ++ [(v, List.replicate l 0)])).length := by simp [flat_append, flat_cons, flat_nil]; omega
  have e2 : pre ++ (v, List.replicate l 0) :: (x, ws.drop (l + 1)) :: post = (pre ++ [(v, List.replicate l 0)]) ++ (x, ws.drop (l + 1)) :: post := by simp
  rw [e1, e2, lay_here _ _ _ _ _ _ (by simp; omega)]
  simp

theorem set_here (pre : List Ob) (o : Ob) (post : List Ob) (tail : List Int) (f : Nat) (v : Int) (hf : f < o.2.length) :
    (flat (pre ++ o :: post) ++ tail).set ((flat pre).length + 1 + f) v = flat (pre ++ (o.1, o.2.set f v) :: post) ++ tail := by
  simp only [flat_append, flat_cons]
  rw [List.append_assoc, List.set_append_right _ _ (by omega)]
  have : (flat pre).length + 1 + f - (flat pre).length = f + 1 := by omega
  rw [this, List.cons_append, List.set_cons_succ, List.append_assoc, List.set_append_left _ _ hf]
  simp

/-- One object more, at the top. -/
theorem lay_top (obs : List Ob) (tail : List Int) (l : Nat) (v : Int) (hl : 1 + l ≤ tail.length) :
    laid (flat obs ++ tail) (flat obs).length l v = flat (obs ++ [(v, List.replicate l 0)]) ++ tail.drop (1 + l) := by
  unfold laid cleared
  have e1 : (flat obs ++ tail).take (flat obs).length = flat obs := by simp
  have e2 : (flat obs ++ tail).drop ((flat obs).length + (1 + l)) = tail.drop (1 + l) := by rw [List.drop_append]; simp
  rw [e1, e2, List.set_append_right _ _ (Nat.le_refl _), Nat.sub_self, Nat.add_comm 1, List.replicate_succ]
  simp [flat_append, flat_cons, flat_nil]

theorem set_true {bs : List Bool} {i : Nat} (h : bs.getD i false = true) : bs.set i true = bs := by
  refine List.ext_getElem (by simp) fun j h1 h2 => ?_
  rw [List.getElem_set]
  split
  · next e => subst e; simpa [List.getD, h2] using h.symm
  · rfl

theorem marks_swap (pre : List Ob) (o x : Ob) (post : List Ob) (n : Nat) (h : o.2.length = x.2.length) : noted (pre ++ o :: post) n = noted (pre ++ x :: post) n := by
  simp [noted, marks_append, marks_cons, h]
theorem marks_two (pre : List Ob) (o : Ob) (post : List Ob) (n l m : Nat) (v u : Int) (hl : o.2.length = l + 1 + m) :
    (noted (pre ++ o :: post) n).set ((flat pre).length + (1 + l)) true = noted (pre ++ (v, List.replicate l 0) :: (u, List.replicate m 0) :: post) n := by
  have hm : (marks pre).length = (flat pre).length := marks_length pre
  simp only [noted, marks_append, marks_cons, List.append_assoc, List.cons_append, List.length_replicate]
  rw [List.set_append_right _ _ (by omega), hm]
  have : (flat pre).length + (1 + l) - (flat pre).length = l + 1 := by omega
  rw [this, List.set_cons_succ, hl]
  have e : List.replicate (l + 1 + m) false = List.replicate l false ++ (false :: List.replicate m false) := by
    rw [Nat.add_assoc, ← List.replicate_append_replicate, Nat.add_comm 1 m, List.replicate_succ]
  rw [e, List.append_assoc, List.set_append_right _ _ (by simp)]
  simp
theorem marks_top (obs : List Ob) (n l : Nat) (v : Int) (hl : 1 + l ≤ n) : (noted obs n).set (flat obs).length true = noted (obs ++ [(v, List.replicate l 0)]) (n - (1 + l)) := by
  have := noted_next (pre := obs) (m := 0) (n := n) (o := (v, List.replicate l 0)) rfl (by simp; omega)
  simpa using this
end Go.Proofs.Ytibfhpbklnpknaa
