/- Objects in a row of words, as lists: plain facts, no program. -/
import Derived.Test.YtibfhpbklnpknaaHeads
namespace Go.Proofs.Ytibfhpbklnpknaa
set_option linter.unusedVariables false

/-- How many words stand behind a head's word. -/
def lenOf (n : Int) : Nat := (n / 65536).toNat

/-- An object: its head's word, the words behind it. -/
abbrev Ob := Int × List Int

def Fine (obs : List Ob) : Prop := ∀ o ∈ obs, headB o.1 = true ∧ o.2.length = lenOf o.1
def flat (obs : List Ob) : List Int := obs.flatMap fun o => o.1 :: o.2
def marks (obs : List Ob) : List Bool := obs.flatMap fun o => true :: List.replicate o.2.length false

theorem flat_nil : flat [] = [] := rfl
theorem flat_cons (o : Ob) (l : List Ob) : flat (o :: l) = o.1 :: (o.2 ++ flat l) := by simp [flat]
theorem flat_append (a b : List Ob) : flat (a ++ b) = flat a ++ flat b := by simp [flat]
theorem marks_cons (o : Ob) (l : List Ob) : marks (o :: l) = true :: (List.replicate o.2.length false ++ marks l) := by simp [marks]
theorem marks_append (a b : List Ob) : marks (a ++ b) = marks a ++ marks b := by simp [marks]
theorem marks_length (l : List Ob) : (marks l).length = (flat l).length := by
  induction l with
  | nil => rfl
  | cons o l ih => simp [flat_cons, marks_cons, ih]
theorem Fine.tail {o : Ob} {l : List Ob} (h : Fine (o :: l)) : Fine l := fun x hx => h x (by simp [hx])
theorem Fine.head {o : Ob} {l : List Ob} (h : Fine (o :: l)) : headB o.1 = true ∧ o.2.length = lenOf o.1 := h o (by simp)
theorem Fine.append {a b : List Ob} (ha : Fine a) (hb : Fine b) : Fine (a ++ b) := fun x hx => by
  rcases List.mem_append.1 hx with h | h
  · exact ha x h
  · exact hb x h
theorem Fine.left {a b : List Ob} (h : Fine (a ++ b)) : Fine a := fun x hx => h x (by simp [hx])
theorem Fine.right {a b : List Ob} (h : Fine (a ++ b)) : Fine b := fun x hx => h x (by simp [hx])
theorem Fine.one {o : Ob} (h : headB o.1 = true) (hl : o.2.length = lenOf o.1) : Fine [o] := fun x hx => by
  rw [List.mem_singleton] at hx; subst hx; exact ⟨h, hl⟩

theorem len_le {n : Int} (h : headB n = true) : lenOf n ≤ 4095 := by
  obtain ⟨_, _, _, h2, _⟩ := (good_iff _ _ _).1 (head_good h)
  unfold lenOf; omega

/-- Two rows of objects, of which the one's words begin as the other one's: they begin alike. -/
theorem flat_split : ∀ (pre obs : List Ob) (t : List Int), Fine pre → Fine obs → flat obs = flat pre ++ t → ∃ rest, obs = pre ++ rest ∧ flat rest = t
  | [], obs, t, _, _, h => ⟨obs, rfl, by simpa [flat_nil] using h⟩
  | o :: pre, [], t, _, _, h => by simp [flat_cons, flat_nil] at h
  | o :: pre, x :: obs, t, hp, ho, h => by
    rw [flat_cons, flat_cons, List.cons_append] at h
    injection h with h1 h2
    have l1 := hp.head.2
    have l2 := ho.head.2
    rw [List.append_assoc] at h2
    have hl : x.2.length = o.2.length := by rw [l1, l2, h1]
    obtain ⟨h3, h4⟩ := List.append_inj h2 hl
    obtain ⟨rest, e, hr⟩ := flat_split pre obs t hp.tail ho.tail h4
    refine ⟨rest, ?_, hr⟩
    rw [e]
    have : x = o := Prod.ext h1 h3
    rw [this]; rfl

/-- Nothing but objects stands there. -/
def Parses (ws : List Int) : Prop := ∃ obs, Fine obs ∧ flat obs = ws

theorem flat_uniq {a b : List Ob} (ha : Fine a) (hb : Fine b) (h : flat a = flat b) : a = b := by
  obtain ⟨rest, e, hr⟩ := flat_split a b [] ha hb (by simp [h])
  cases rest with
  | nil => simpa using e.symm
  | cons o r => simp [flat_cons] at hr

/-- One object more. -/
theorem next_ob {zs : List Int} {pre : List Ob} {a top : Nat} (hf : flat pre = zs.take a) (ha : a < top) (ht : top ≤ zs.length) (hn : a + 1 + lenOf (zs.getD a 0) ≤ zs.length) :
    flat (pre ++ [(zs.getD a 0, (zs.drop (a + 1)).take (lenOf (zs.getD a 0)))]) = zs.take (a + 1 + lenOf (zs.getD a 0)) := by
  have hlt : a < zs.length := by omega
  rw [flat_append, hf, flat_cons, flat_nil, List.append_nil]
  generalize lenOf (zs.getD a 0) = n at *
  have e : zs.getD a 0 = zs[a] := by simp [List.getD, hlt]
  rw [e]
  have h1 : zs.drop a = zs[a] :: zs.drop (a + 1) := (List.drop_eq_getElem_cons hlt)
  have h2 : zs.take (a + (1 + n)) = zs.take a ++ (zs.drop a).take (1 + n) := by rw [List.take_add]
  rw [Nat.add_assoc, h2, h1, Nat.add_comm 1 n, List.take_succ_cons]

/-- What stands at a place where all ahead of it are objects, if all up to the top are: an object's head, and all of it is ahead of the top. -/
theorem parse_next {zs : List Int} {pre : List Ob} {a top : Nat} (hp : Fine pre) (hf : flat pre = zs.take a) (ha : a < top) (ht : top ≤ zs.length) (h : Parses (zs.take top)) :
    headB (zs.getD a 0) = true ∧ a + 1 + lenOf (zs.getD a 0) ≤ top := by
  obtain ⟨obs, ho, he⟩ := h
  have hlt : a < zs.length := by omega
  have e1 : zs.take top = flat pre ++ (zs.take top).drop a := by
    rw [hf]
    have : zs.take a = (zs.take top).take a := by rw [List.take_take]; congr 1; omega
    rw [this, List.take_append_drop]
  obtain ⟨rest, e, hr⟩ := flat_split pre obs _ hp ho (he.trans e1)
  have e2 : (zs.take top).drop a = zs[a] :: (zs.take top).drop (a + 1) := by
    rw [List.drop_eq_getElem_cons (by simp; omega)]
    simp
  have eg : zs.getD a 0 = zs[a] := by simp [List.getD, hlt]
  cases rest with
  | nil => rw [flat_nil, e2] at hr; simp at hr
  | cons o r =>
    rw [flat_cons, e2] at hr
    injection hr with h1 h2
    have ho' : Fine (o :: r) := by rw [e] at ho; exact ho.right
    have h3 := ho'.head
    rw [eg, ← h1]
    refine ⟨h3.1, ?_⟩
    have := congrArg List.length h2
    simp at this
    have h4 := h3.2
    omega
end Go.Proofs.Ytibfhpbklnpknaa
