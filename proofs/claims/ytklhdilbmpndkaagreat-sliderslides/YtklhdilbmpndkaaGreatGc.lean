/- A heap as a row of objects and what stands behind them: plain facts on what its calls do to that row. The calls on a heap, as functions of a row of objects: what each answers, and what the row is then. The walk of HeapStays. -/
import Derived.Test.YtklhdilbmpndkaaGreatGb
import Derived.Test.YtklhdilbmpndkaaGreatWrite
namespace Go.Proofs.YtklhdilbmpndkaaGreat
set_option maxRecDepth 20000
open Go.RowKit
set_option linter.unusedVariables false
set_option linter.unusedSimpArgs false

theorem noted_length (obs : List Ob) (n : Nat) : (noted obs n).length = (flat obs).length + n := by simp [noted, marks_length]

theorem marks_at : ∀ (obs : List Ob) (a : Nat), (marks obs).getD a false = true → ∃ pre o post, obs = pre ++ o :: post ∧ a = (flat pre).length
  | [], a, h => by simp [marks] at h
  | o :: l, a, h => by
    rw [marks_cons] at h
    rcases Nat.eq_zero_or_pos a with h0 | h0
    · exact ⟨[], o, l, rfl, by simp [h0, flat_nil]⟩
    · obtain ⟨b, rfl⟩ : ∃ b, a = b + 1 := ⟨a - 1, by omega⟩
      rw [List.getD_cons_succ] at h
      by_cases hb : b < o.2.length
      · simp [List.getD, List.getElem?_append, hb] at h
      · have e : (List.replicate o.2.length false ++ marks l).getD b false = (marks l).getD (b - o.2.length) false := by
          simp [List.getD, List.getElem?_append, hb]
        rw [e] at h
        obtain ⟨pre, x, post, e1, e2⟩ := marks_at l _ h
        exact ⟨o :: pre, x, post, by rw [e1]; rfl, by rw [flat_cons]; simp; omega⟩

theorem marks_here (pre : List Ob) (o : Ob) (post : List Ob) : (marks (pre ++ o :: post)).getD (flat pre).length false = true := by
  rw [marks_append, marks_cons]
  simp [List.getD, List.getElem?_append, marks_length]

theorem noted_here (pre : List Ob) (o : Ob) (post : List Ob) (n : Nat) : (noted (pre ++ o :: post) n).getD (flat pre).length false = true := by
  have h := marks_here pre o post
  have hl : (flat pre).length < (marks (pre ++ o :: post)).length := by rw [marks_length, flat_append, flat_cons]; simp
  unfold noted
  rw [show (marks (pre ++ o :: post) ++ List.replicate n false).getD (flat pre).length false = (marks (pre ++ o :: post)).getD (flat pre).length false by
    simp [List.getD, List.getElem?_append, hl]]
  exact h

theorem noted_at {obs : List Ob} {n a : Nat} (ha : a < (flat obs).length) (h : (noted obs n).getD a false = true) : ∃ pre o post, obs = pre ++ o :: post ∧ a = (flat pre).length := by
  refine marks_at obs a ?_
  unfold noted at h
  rw [← marks_length] at ha
  simpa [List.getD, List.getElem?_append, ha] using h

/-- Where something begins: an object stands there. -/
theorem start_ob {obs : List Ob} {n : Nat} {a : Int} (h : startB (flat obs).length (noted obs n) a = true) : ∃ pre o post, obs = pre ++ o :: post ∧ a = ((flat pre).length : Nat) := by
  obtain ⟨i, rfl, hi, hb⟩ := start_nat h
  obtain ⟨pre, o, post, e1, e2⟩ := noted_at hi hb
  exact ⟨pre, o, post, e1, by rw [e2]⟩
theorem ob_start (pre : List Ob) (o : Ob) (post : List Ob) (n : Nat) : startB (flat (pre ++ o :: post)).length (noted (pre ++ o :: post) n) ((flat pre).length : Nat) = true := by
  unfold startB
  rw [Int.toNat_natCast, noted_here]
  simp [flat_append, flat_cons]
  omega

theorem word_here (pre : List Ob) (o : Ob) (post : List Ob) (tail : List Int) : (flat (pre ++ o :: post) ++ tail).getD (flat pre).length 0 = o.1 := by
  rw [flat_append, flat_cons]
  simp [List.getD, List.getElem?_append]
theorem fits_here {pre : List Ob} {o : Ob} {post : List Ob} (h : Fine (pre ++ o :: post)) : (flat pre).length + 1 + lenOf o.1 ≤ (flat (pre ++ o :: post)).length := by
  have := h.right.head.2
  rw [flat_append, flat_cons]; simp; omega

theorem sound_of {obs : List Ob} (h : Fine obs) (tail : List Int) (n : Nat) : Sound (flat obs ++ tail) (flat obs).length (noted obs n) := by
  intro i hi hb
  obtain ⟨pre, o, post, rfl, rfl⟩ := noted_at hi hb
  rw [word_here]
  exact ⟨h.right.head.1, fits_here h⟩

/-- An object laid in another one's place. -/
theorem lay_here (pre : List Ob) (o : Ob) (post : List Ob) (tail : List Int) (l : Nat) (v : Int) (hl : o.2.length = l) :
    laid (flat (pre ++ o :: post) ++ tail) (flat pre).length l v = flat (pre ++ (v, List.replicate l 0) :: post) ++ tail := by
  unfold laid cleared
  simp only [flat_append, flat_cons]
  subst hl
  have e1 : (flat pre ++ o.1 :: (o.2 ++ flat post) ++ tail).take (flat pre).length = flat pre := by simp
  have e2 : (flat pre ++ o.1 :: (o.2 ++ flat post) ++ tail).drop ((flat pre).length + (1 + o.2.length)) = flat post ++ tail := by
    rw [List.append_assoc, Nat.add_comm 1, List.drop_append, Nat.add_sub_cancel_left]
    simp [List.drop_append]
  rw [e1, e2, List.set_append_right _ _ (Nat.le_refl _), Nat.sub_self, Nat.add_comm 1, List.replicate_succ]
  simp

/-- An object laid in a longer one's place, and a second one behind it. -/
theorem lay_two (pre : List Ob) (o : Ob) (post : List Ob) (tail : List Int) (l m : Nat) (v u : Int) (hl : o.2.length = l + 1 + m) :
    laid (laid (flat (pre ++ o :: post) ++ tail) (flat pre).length l v) ((flat pre).length + (1 + l)) m u = flat (pre ++ (v, List.replicate l 0) :: (u, List.replicate m 0) :: post) ++ tail := by
  obtain ⟨n, ws⟩ := o
  simp only at hl
  have hs : ws = ws.take l ++ (ws.drop l).head?.toList ++ ws.drop (l + 1) := by
    have h1 : (ws.drop l) = (ws.drop l).head?.toList ++ ws.drop (l + 1) := by
      rw [List.head?_drop, List.getElem?_eq_getElem (by omega), Option.toList_some]
      exact List.drop_eq_getElem_cons (by omega)
    rw [List.append_assoc, ← h1, List.take_append_drop]
  obtain ⟨x, hx⟩ : ∃ x, (ws.drop l).head? = some x := ⟨ws[l]'(by omega), by rw [List.head?_drop, List.getElem?_eq_getElem (by omega)]⟩
  have e0 : flat (pre ++ (n, ws) :: post) = flat (pre ++ (n, ws.take l) :: (x, ws.drop (l + 1)) :: post) := by
    simp only [flat_append, flat_cons]
    rw [hx] at hs
    conv => lhs; rw [hs]
    simp
  rw [e0, lay_here _ _ _ _ _ _ (by simp; omega)]
  have e1 : (flat pre).length + (1 + l) = (flat (pre ++ [(v, List.replicate l 0)])).length := by simp [flat_append, flat_cons, flat_nil]; omega
  have e2 : pre ++ (v, List.replicate l 0) :: (x, ws.drop (l + 1)) :: post = (pre ++ [(v, List.replicate l 0)]) ++ (x, ws.drop (l + 1)) :: post := by simp
  rw [e1, e2, lay_here _ _ _ _ _ _ (by simp; omega)]
  simp

theorem set_here (pre : List Ob) (o : Ob) (post : List Ob) (tail : List Int) (f : Nat) (v : Int) (hf : f < o.2.length) :
    (flat (pre ++ o :: post) ++ tail).set ((flat pre).length + 1 + f) v = flat (pre ++ (o.1, o.2.set f v) :: post) ++ tail := by
  simp only [flat_append, flat_cons]
  rw [List.append_assoc, List.set_append_right _ _ (by omega)]
  have : (flat pre).length + 1 + f - (flat pre).length = f + 1 := by omega
  rw [this, List.cons_append, List.set_cons_succ, List.append_assoc, List.set_append_left _ _ hf]
  simp

/-- One object more, at the top. -/
theorem lay_top (obs : List Ob) (tail : List Int) (l : Nat) (v : Int) (hl : 1 + l ≤ tail.length) :
    laid (flat obs ++ tail) (flat obs).length l v = flat (obs ++ [(v, List.replicate l 0)]) ++ tail.drop (1 + l) := by
  unfold laid cleared
  have e1 : (flat obs ++ tail).take (flat obs).length = flat obs := by simp
  have e2 : (flat obs ++ tail).drop ((flat obs).length + (1 + l)) = tail.drop (1 + l) := by rw [List.drop_append]; simp
  rw [e1, e2, List.set_append_right _ _ (Nat.le_refl _), Nat.sub_self, Nat.add_comm 1, List.replicate_succ]
  simp [flat_append, flat_cons, flat_nil]

theorem set_true {bs : List Bool} {i : Nat} (h : bs.getD i false = true) : bs.set i true = bs := by
  refine List.ext_getElem (by simp) fun j h1 h2 => ?_
  rw [List.getElem_set]
  split
  · next e => subst e; simpa [List.getD, h2] using h.symm
  · rfl

theorem marks_swap (pre : List Ob) (o x : Ob) (post : List Ob) (n : Nat) (h : o.2.length = x.2.length) : noted (pre ++ o :: post) n = noted (pre ++ x :: post) n := by
  simp [noted, marks_append, marks_cons, h]
theorem marks_two (pre : List Ob) (o : Ob) (post : List Ob) (n l m : Nat) (v u : Int) (hl : o.2.length = l + 1 + m) :
    (noted (pre ++ o :: post) n).set ((flat pre).length + (1 + l)) true = noted (pre ++ (v, List.replicate l 0) :: (u, List.replicate m 0) :: post) n := by
  have hm : (marks pre).length = (flat pre).length := marks_length pre
  simp only [noted, marks_append, marks_cons, List.append_assoc, List.cons_append, List.length_replicate]
  rw [List.set_append_right _ _ (by omega), hm]
  have : (flat pre).length + (1 + l) - (flat pre).length = l + 1 := by omega
  rw [this, List.set_cons_succ, hl]
  have e : List.replicate (l + 1 + m) false = List.replicate l false ++ (false :: List.replicate m false) := by
    rw [Nat.add_assoc, ← List.replicate_append_replicate, Nat.add_comm 1 m, List.replicate_succ]
  rw [e, List.append_assoc, List.set_append_right _ _ (by simp)]
  simp
theorem marks_top (obs : List Ob) (n l : Nat) (v : Int) (hl : 1 + l ≤ n) : (noted obs n).set (flat obs).length true = noted (obs ++ [(v, List.replicate l 0)]) (n - (1 + l)) := by
  have := noted_next (pre := obs) (m := 0) (n := n) (o := (v, List.replicate l 0)) rfl (by simp; omega)
  simpa using this
end Go.Proofs.YtklhdilbmpndkaaGreat

namespace Go.Proofs.YtklhdilbmpndkaaGreat
set_option maxRecDepth 20000
open Go.RowKit
set_option linter.unusedVariables false
set_option linter.unusedSimpArgs false

/-- The object that begins at an address, what stands ahead of it, and behind it. -/
def look : List Ob → Int → Option (List Ob × Ob × List Ob)
  | [], _ => none
  | o :: l, a => if a = 0 then some ([], o, l) else (look l (a - (1 + o.2.length))).map fun x => (o :: x.1, x.2.1, x.2.2)

theorem look_here : ∀ (pre : List Ob) (o : Ob) (post : List Ob), look (pre ++ o :: post) ((flat pre).length : Nat) = some (pre, o, post)
  | [], o, post => by simp [look, flat_nil]
  | x :: pre, o, post => by
    have ih := look_here pre o post
    rw [List.cons_append, look, flat_cons, if_neg (by simp; omega)]
    have e : (((x.1 :: (x.2 ++ flat pre)).length : Nat) : Int) - (1 + (x.2.length : Int)) = ((flat pre).length : Nat) := by simp; omega
    rw [e, ih]
    rfl
theorem look_some : ∀ (obs : List Ob) (a : Int) (x : List Ob × Ob × List Ob), look obs a = some x → obs = x.1 ++ x.2.1 :: x.2.2 ∧ a = ((flat x.1).length : Nat)
  | [], a, x, h => by simp [look] at h
  | o :: l, a, x, h => by
    rw [look] at h
    split at h
    · next h0 =>
      simp at h
      subst h
      exact ⟨rfl, by simp [h0, flat_nil]⟩
    · rw [Option.map_eq_some_iff] at h
      obtain ⟨y, h1, rfl⟩ := h
      obtain ⟨e1, e2⟩ := look_some l _ _ h1
      refine ⟨by rw [List.cons_append, ← e1], ?_⟩
      simp only [flat_cons]
      simp
      omega
theorem look_none {obs : List Ob} {a : Int} (n : Nat) (h : look obs a = none) : startB (flat obs).length (noted obs n) a = false := by
  cases hs : startB (flat obs).length (noted obs n) a with
  | false => rfl
  | true =>
    obtain ⟨pre, o, post, rfl, rfl⟩ := start_ob hs
    rw [look_here] at h
    cases h

/-- Is a word neither 0 nor an object's? -/
def astrayO (obs : List Ob) (v : Int) : Bool := !(v == 0) && (match look obs (v - 1) with | none => true | some x => x.2.1.1 % 16 == 15)
theorem astray_eq (obs : List Ob) (tail : List Int) (n : Nat) (v : Int) : astrayB (flat obs ++ tail) (flat obs).length (noted obs n) v = astrayO obs v := by
  unfold astrayB astrayO
  congr 1
  cases hl : look obs (v - 1) with
  | none => rw [look_none n hl]; rfl
  | some x =>
    obtain ⟨pre, o, post⟩ := x
    obtain ⟨rfl, e⟩ := look_some _ _ _ hl
    simp only at e ⊢
    rw [e, ob_start, Int.toNat_natCast, word_here]
    rfl

/-- A heap of the program: objects one behind the other, and what stands from the top on. -/
structure St (w : World) (g gw gb : Nat) (obs : List Ob) (tail : List Int) : Prop where
  fine : Fine obs
  lies : HeapAt w g gw gb (flat obs ++ tail) (flat obs).length (noted obs tail.length)

theorem St.kept {w w' : World} {g gw gb : Nat} {obs : List Ob} {tail : List Int} (h : St w g gw gb obs tail) (hb : Below w.heap.size w w') : St w' g gw gb obs tail := ⟨h.fine, h.lies.kept hb⟩
theorem St.sound {w : World} {g gw gb : Nat} {obs : List Ob} {tail : List Int} (h : St w g gw gb obs tail) : Sound (flat obs ++ tail) (flat obs).length (noted obs tail.length) := sound_of h.fine _ _

def zeros (l : Int) : List Int := List.replicate l.toNat 0

def placeF (obs : List Ob) (tail : List Int) (k l p : Int) : Int × Int × List Ob × List Int :=
  if goodB k l p = false then (0, 1, obs, tail) else if tail.length < 1 + l.toNat then (0, 6, obs, tail)
  else (((flat obs).length : Nat), 0, obs ++ [(packW k l p, zeros l)], tail.drop (1 + l.toNat))

theorem place_st {w : World} {g gw gb : Nat} {obs : List Ob} {tail : List Int} (S : St w g gw gb obs tail) (k l p : Int) :
    Calls Tryz.prog 40 #[.pointer (some ⟨g, 0, none⟩), .agg #[.int .i64 k, .int .i64 l, .int .i64 p]] w fun e w' =>
      e = .returned (.tuple #[.int .i64 (placeF obs tail k l p).1, .int .i64 (placeF obs tail k l p).2.1]) ∧ St w' g gw gb (placeF obs tail k l p).2.2.1 (placeF obs tail k l p).2.2.2 ∧ Else g gw gb w w' := by
  unfold placeF
  cases hg : goodB k l p with
  | false =>
    rw [if_pos rfl]
    exact (place_bad S.lies k l p hg).mono fun e w' ⟨he, hb⟩ => ⟨he, S.kept hb, Else.of_below hb⟩
  | true =>
    rw [if_neg (by simp)]
    obtain ⟨l, rfl⟩ := Int.eq_ofNat_of_zero_le ((good_iff k l p).1 hg).2.2.1
    rw [Int.toNat_natCast]
    by_cases hf : tail.length < 1 + l
    · rw [if_pos hf]
      exact (place_full S.lies k p l hg (by simp; omega)).mono fun e w' ⟨he, hb⟩ => ⟨he, S.kept hb, Else.of_below hb⟩
    · rw [if_neg hf]
      refine (place_yes S.lies k p l hg (by simp; omega)).mono fun e w' ⟨he, H, E⟩ => ⟨he, ⟨S.fine.append (Fine.one (head_pack hg).1 ?_), ?_⟩, E⟩
      · simp only [zeros, lenOf, (head_pack hg).2.2.1]; simp
      · rw [lay_top _ _ _ _ (by omega), marks_top _ _ l (packW k l p) (by omega)] at H
        have e1 : (flat (obs ++ [(packW k l p, zeros l)])).length = (flat obs).length + (1 + l) := by simp [flat_append, flat_cons, flat_nil, zeros]; omega
        have e2 : (tail.drop (1 + l)).length = tail.length - (1 + l) := by simp
        rw [e1, e2]
        simpa [zeros] using H

def splitF (obs : List Ob) (a k l p : Int) : Int × Int × List Ob :=
  match look obs a with
  | none => (0, 3, obs)
  | some x =>
    if x.2.1.1 % 16 ≠ 15 then (0, 2, obs) else if goodB k l p = false then (0, 1, obs) else if x.2.1.1 / 65536 < l then (0, 6, obs)
    else if x.2.1.1 / 65536 = l then (0, 0, x.1 ++ (packW k l p, zeros l) :: x.2.2)
    else (a + (1 + l), 0, x.1 ++ (packW k l p, zeros l) :: (packW 15 (x.2.1.1 / 65536 - l - 1) 0, zeros (x.2.1.1 / 65536 - l - 1)) :: x.2.2)

def writeF (obs : List Ob) (a f v : Int) : Int × List Ob :=
  match look obs a with
  | none => (3, obs)
  | some x =>
    if ¬ (0 ≤ f ∧ f < x.2.1.1 / 65536) ∨ x.2.1.1 % 16 = 15 then (4, obs) else if f < x.2.1.1 % 65536 / 16 ∧ astrayO obs v = true then (5, obs)
    else (0, x.1 ++ (x.2.1.1, x.2.1.2.set f.toNat v) :: x.2.2)

theorem write_st {w : World} {g gw gb : Nat} {obs : List Ob} {tail : List Int} (S : St w g gw gb obs tail) (a f v : Int) (hv : -9223372036854775808 ≤ v) (hv' : v ≤ 9223372036854775807) :
    Calls Tryz.prog 42 #[.pointer (some ⟨g, 0, none⟩), .int .i64 a, .int .i64 f, .int .i64 v] w fun e w' =>
      e = .returned (.int .i64 (writeF obs a f v).1) ∧ St w' g gw gb (writeF obs a f v).2 tail ∧ Else g gw gb w w' := by
  unfold writeF
  cases hl : look obs a with
  | none => exact (write_addr S.lies a f v (look_none _ hl)).mono fun e w' ⟨he, hb⟩ => ⟨he, S.kept hb, Else.of_below hb⟩
  | some x =>
    obtain ⟨pre, o, post⟩ := x
    obtain ⟨e0, rfl⟩ := look_some _ _ _ hl
    simp only at e0 ⊢
    subst e0
    have hh := S.fine.right.head.1
    have hlen := S.fine.right.head.2
    have hi : (flat pre).length < (flat (pre ++ o :: post)).length := by simp [flat_append, flat_cons]
    have hb := noted_here pre o post tail.length
    have hn := word_here pre o post tail
    by_cases h1 : ¬ (0 ≤ f ∧ f < o.1 / 65536) ∨ o.1 % 16 = 15
    · rw [if_pos h1]
      exact (write_field S.lies _ f v hi hb o.1 hn hh h1).mono fun e w' ⟨he, hb⟩ => ⟨he, S.kept hb, Else.of_below hb⟩
    · rw [if_neg h1]
      have h2 : 0 ≤ f ∧ f < o.1 / 65536 ∧ o.1 % 16 ≠ 15 := by omega
      obtain ⟨h3, h4, h5⟩ := h2
      have hA := astray_eq (pre ++ o :: post) tail tail.length v
      by_cases h6 : f < o.1 % 65536 / 16 ∧ astrayO (pre ++ o :: post) v = true
      · rw [if_pos h6]
        exact (write_ref S.lies S.sound _ f v hi hb o.1 hn hh h3 h4 h5 h6.1 hv hv' (hA.trans h6.2)).mono fun e w' ⟨he, hb⟩ => ⟨he, S.kept hb, Else.of_below hb⟩
      · rw [if_neg h6]
        obtain ⟨f, rfl⟩ := Int.eq_ofNat_of_zero_le h3
        have hfl : f < o.2.length := by rw [hlen]; unfold lenOf; omega
        refine (write_yes S.lies S.sound _ f v hi hb o.1 hn hh h4 h5 hv hv' (fun hlt => ?_) (fits_here S.fine)).mono fun e w' ⟨he, H, E⟩ => ⟨he, ⟨S.fine.left.append (fun y hy => ?_), ?_⟩, E⟩
        · rw [hA]
          cases hc : astrayO (pre ++ o :: post) v with
          | false => rfl
          | true => exact absurd ⟨hlt, hc⟩ h6
        · rcases List.mem_cons.1 hy with rfl | hy
          · exact ⟨hh, by simpa using hlen⟩
          · exact S.fine.right.tail y hy
        · rw [set_here _ _ _ _ _ _ hfl] at H
          have e1 : (flat (pre ++ o :: post)).length = (flat (pre ++ (o.1, o.2.set f v) :: post)).length := by simp [flat_append, flat_cons]
          rw [e1, marks_swap pre o (o.1, o.2.set f v) post _ (by simp)] at H
          exact H
end Go.Proofs.YtklhdilbmpndkaaGreat

namespace Go.Proofs.YtklhdilbmpndkaaGreat
set_option maxRecDepth 20000
open Go.RowKit
set_option linter.unusedVariables false
set_option linter.unusedSimpArgs false

/-- What is done: its seven numbers. -/
structure Deed where
  kind : Int
  k : Int
  l : Int
  p : Int
  at_ : Int
  field : Int
  word : Int

def Deed.cells (d : Deed) : List Value := [.int .u8 d.kind, .int .i64 d.k, .int .i64 d.l, .int .i64 d.p, .int .i64 d.at_, .int .i64 d.field, .int .i64 d.word]

/-- A slice of deeds reads as a list. -/
def Deeds (w : World) (A : Option Addr) (ds : List Deed) : Prop :=
  ∀ i d, ds[i]? = some d → ∃ ad, A = some ad ∧ ad.block < w.heap.size ∧ ∀ j v, d.cells[j]? = some v → w.cell? (ad.add (i * 7 + j)) = some v

theorem Deeds.kept {w w' : World} {A : Option Addr} {ds : List Deed} (h : Deeds w A ds) (hb : Below w.heap.size w w') : Deeds w' A ds := fun i d hd => by
  obtain ⟨ad, e, hl, hc⟩ := h i d hd
  exact ⟨ad, e, Nat.lt_of_lt_of_le hl hb.size, fun j v hv => (hb.cell (by rw [block_add]; exact hl)).trans (hc j v hv)⟩

theorem add_next (a : Addr) (n j : Nat) (hj : 0 < j) : a.add (n + j) = ⟨(a.add n).block, (a.add n).off + j, none⟩ := by
  unfold Addr.add
  rw [if_neg (by omega)]
  split <;> simp_all [Nat.add_assoc]

theorem Deeds.at_ {w : World} {A : Option Addr} {ds : List Deed} (h : Deeds w A ds) {i : Nat} (hi : i < ds.length) (wr : World) (hb : Below w.heap.size w wr) :
    ∃ ad, A = some ad ∧ wr.cell? (ad.add (i * 7)) = some (.int .u8 ds[i].kind) ∧ wr.cell? ⟨(ad.add (i * 7)).block, (ad.add (i * 7)).off + 1, none⟩ = some (.int .i64 ds[i].k) ∧
      wr.cell? ⟨(ad.add (i * 7)).block, (ad.add (i * 7)).off + 2, none⟩ = some (.int .i64 ds[i].l) ∧ wr.cell? ⟨(ad.add (i * 7)).block, (ad.add (i * 7)).off + 3, none⟩ = some (.int .i64 ds[i].p) ∧
      wr.cell? ⟨(ad.add (i * 7)).block, (ad.add (i * 7)).off + 4, none⟩ = some (.int .i64 ds[i].at_) ∧ wr.cell? ⟨(ad.add (i * 7)).block, (ad.add (i * 7)).off + 5, none⟩ = some (.int .i64 ds[i].field) ∧
      wr.cell? ⟨(ad.add (i * 7)).block, (ad.add (i * 7)).off + 6, none⟩ = some (.int .i64 ds[i].word) := by
  obtain ⟨ad, e, hl, hc⟩ := (h.kept hb) i ds[i] (List.getElem?_eq_getElem hi)
  refine ⟨ad, e, hc 0 _ rfl, ?_, ?_, ?_, ?_, ?_, ?_⟩
  all_goals rw [← add_next _ _ _ (by omega)]
  · exact hc 1 _ rfl
  · exact hc 2 _ rfl
  · exact hc 3 _ rfl
  · exact hc 4 _ rfl
  · exact hc 5 _ rfl
  · exact hc 6 _ rfl

/-- Each number fits. -/
def Deed.fit (d : Deed) : Prop := (0 ≤ d.kind ∧ d.kind ≤ 255) ∧ (-9223372036854775808 ≤ d.word ∧ d.word ≤ 9223372036854775807)

theorem split_keep {obs : List Ob} {a k l p : Int} (h : (splitF obs a k l p).2.1 ≠ 0) : (splitF obs a k l p).2.2 = obs := by
  unfold splitF at h ⊢
  cases hl : look obs a with
  | none => rfl
  | some x =>
    rw [hl] at h
    simp only at h ⊢
    by_cases h1 : x.2.1.1 % 16 ≠ 15
    · rw [if_pos h1]
    · rw [if_neg h1] at h ⊢
      by_cases h2 : goodB k l p = false
      · rw [if_pos h2]
      · rw [if_neg h2] at h ⊢
        by_cases h3 : x.2.1.1 / 65536 < l
        · rw [if_pos h3]
        · rw [if_neg h3] at h ⊢
          by_cases h4 : x.2.1.1 / 65536 = l
          · rw [if_pos h4] at h; exact absurd rfl h
          · rw [if_neg h4] at h; exact absurd rfl h
theorem split_len {obs : List Ob} {a k l p : Int} (hf : Fine obs) : (flat (splitF obs a k l p).2.2).length = (flat obs).length := by
  unfold splitF
  cases hl : look obs a with
  | none => rfl
  | some x =>
    obtain ⟨pre, o, post⟩ := x
    obtain ⟨rfl, _⟩ := look_some _ _ _ hl
    have hlen := hf.right.head.2
    simp only
    split
    · rfl
    · split
      · rfl
      · next hg =>
        have hg' : goodB k l p = true := by simpa using hg
        have l0 := ((good_iff k l p).1 hg').2.2.1
        split
        · rfl
        · split
          · next h1 h2 => simp [flat_append, flat_cons, zeros, hlen, lenOf, h2]
          · next h1 h2 =>
            simp [flat_append, flat_cons, zeros, hlen, lenOf]
            omega
theorem write_keep {obs : List Ob} {a f v : Int} (h : (writeF obs a f v).1 ≠ 0) : (writeF obs a f v).2 = obs := by
  unfold writeF at h ⊢
  cases hl : look obs a with
  | none => rfl
  | some x =>
    rw [hl] at h
    simp only at h ⊢
    split
    · rfl
    · next h1 =>
      rw [if_neg h1] at h
      split
      · rfl
      · next h2 => rw [if_neg h2] at h; exact absurd rfl h
theorem write_len {obs : List Ob} {a f v : Int} : (flat (writeF obs a f v).2).length = (flat obs).length := by
  unfold writeF
  cases hl : look obs a with
  | none => rfl
  | some x =>
    obtain ⟨pre, o, post⟩ := x
    obtain ⟨rfl, _⟩ := look_some _ _ _ hl
    simp only
    split
    · rfl
    · split
      · rfl
      · simp [flat_append, flat_cons]
theorem place_nil {obs : List Ob} {k l p : Int} : ((placeF obs [] k l p).2.1 = 1 ∨ (placeF obs [] k l p).2.1 = 6) ∧ (placeF obs [] k l p).2.2.1 = obs ∧ (placeF obs [] k l p).2.2.2 = [] := by
  unfold placeF
  split
  · exact ⟨.inl rfl, rfl, rfl⟩
  · rw [if_pos (by simp; omega)]
    exact ⟨.inr rfl, rfl, rfl⟩

theorem top_n {w : World} {g gw gb : Nat} {obs : List Ob} {tail : List Int} (S : St w g gw gb obs tail) (N : Nat) (hN : (flat obs).length = N) :
    Calls Tryz.prog 18 #[.pointer (some ⟨g, 0, none⟩)] w fun e w' => e = .returned (.int .i64 (N : Int)) ∧ w = w' := by
  subst hN
  exact top_any S.lies
end Go.Proofs.YtklhdilbmpndkaaGreat
