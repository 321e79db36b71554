/- Several calls at once, without memory: what holds whoever steps next. -/
import Derived.Test.YtcnpbdboeaaajaaCh
namespace Go.Proofs.Ytcnpbdboeaaajaa
set_option linter.unusedVariables false
set_option linter.unusedSimpArgs false

theorem getD_set_eq (zs : List Int) (i : Nat) (x : Int) (hi : i < zs.length) : (zs.set i x).getD i 0 = x := by
  simp [List.getD, List.getElem?_set, hi]
theorem getD_set_ne (zs : List Int) (i j : Nat) (x : Int) (h : i ≠ j) : (zs.set i x).getD j 0 = zs.getD j 0 := by
  simp [List.getD, List.getElem?_set, h]

/-- What stands in the cells, the lock aside. -/
structure Pl (zs : List Int) (n : Nat) (row : List Int) : Prop where
  len : zs.length = n + 2
  n1 : 1 ≤ n
  n' : n ≤ 65534
  many : zs.getD 1 0 = (row.length : Int)
  fits : row.length ≤ n
  row_ : ∀ i, i < row.length → zs.getD (i + 2) 0 = row.getD i 0

theorem Pl.new (n : Nat) (h1 : 1 ≤ n) (h2 : n ≤ 65534) : Pl (List.replicate (n + 2) 0) n [] :=
  ⟨by simp, h1, h2, by simp [List.getD], by simp, fun i hi => by simp at hi⟩

section
variable {zs : List Int} {n : Nat} {row pile : List Int} {x y : Int}
theorem Pl.lock (p : Pl zs n row) (v : Int) : Pl (zs.set 0 v) n row :=
  ⟨by simp [p.len], p.n1, p.n', by rw [getD_set_ne _ _ _ _ (by omega)]; exact p.many, p.fits, fun i hi => by rw [getD_set_ne _ _ _ _ (by omega)]; exact p.row_ i hi⟩
theorem Pl.put (p : Pl zs n row) (x : Int) : Pl (zs.set (row.length + 2) x) n row :=
  ⟨by simp [p.len], p.n1, p.n', by rw [getD_set_ne _ _ _ _ (by omega)]; exact p.many, p.fits, fun i hi => by rw [getD_set_ne _ _ _ _ (by omega)]; exact p.row_ i hi⟩
theorem Pl.more (p : Pl zs n row) (h : row.length < n) (hx : zs.getD (row.length + 2) 0 = x) : Pl (zs.set 1 ((row.length : Int) + 1)) n (row ++ [x]) := by
  refine ⟨by simp [p.len], p.n1, p.n', by rw [getD_set_eq _ _ _ (by have := p.len; omega)]; simp, by simp; omega, fun i hi => ?_⟩
  rw [getD_set_ne _ _ _ _ (by omega)]
  simp at hi
  by_cases hi' : i < row.length
  · rw [p.row_ i hi']; simp [List.getD, List.getElem?_append, hi']
  · have : i = row.length := by omega
    subst this
    rw [hx]; simp [List.getD]
theorem Pl.less (p : Pl zs n (row ++ [y])) : Pl (zs.set 1 (row.length : Int)) n row := by
  have hf := p.fits
  simp at hf
  refine ⟨by simp [p.len], p.n1, p.n', by rw [getD_set_eq _ _ _ (by have := p.len; omega)], by omega, fun i hi => ?_⟩
  rw [getD_set_ne _ _ _ _ (by omega), p.row_ i (by simp; omega)]
  simp [List.getD, List.getElem?_append, hi]
theorem Pl.last (p : Pl zs n (row ++ [y])) : zs.getD (row.length + 2) 0 = y := by
  rw [p.row_ row.length (by simp)]; simp [List.getD]
theorem Pl.row_of (p : Pl zs n row) : rowOf zs = row := by
  unfold rowOf
  rw [p.many]
  simp only [Int.toNat_natCast]
  apply List.ext_getElem?
  intro i
  rw [List.getElem?_take]
  by_cases hi : i < row.length
  · have := p.row_ i hi
    have hl := p.len
    have hf := p.fits
    have h1 : i + 2 < zs.length := by omega
    simp only [List.getD, List.getElem?_eq_getElem h1, List.getElem?_eq_getElem hi, Option.getD_some] at this
    have e2 : 2 + i = i + 2 := by omega
    rw [if_pos hi, List.getElem?_drop, e2, List.getElem?_eq_getElem h1, List.getElem?_eq_getElem hi, this]
  · rw [if_neg hi, List.getElem?_eq_none (by omega)]

/-- At most so many steps are left. -/
def rank (n : Nat) : Nat := if n = 27 then 5 else if n = 34 then 4 else if n = 25 then 3 else if n = 26 then 3 else if n = 31 then 2 else if n = 35 then 1 else 0
theorem rank_le (n : Nat) : rank n ≤ 5 := by unfold rank; repeat (first | split | omega)

/-- A call, whoever steps. -/
structure CallOk (c : Cl) (x : Int) : Prop where
  who : 0 ≤ c.who
  who' : c.who < 64
  mv : c.mv = 25 ∨ c.mv = 26
  first : c.nx = 27 → c.many = 0 ∧ c.err = 0 ∧ (c.mv = 25 → c.word = x)

/-- The call that has the lock. -/
def HoldOk (zs : List Int) (n : Nat) (pile : List Int) (c : Cl) (x : Int) : Prop := c.err = 0 ∧ 0 ≤ c.many ∧ c.many ≤ n ∧ (
  (c.nx = 34 ∧ Pl zs n pile ∧ (c.mv = 25 → c.word = x)) ∨
  (c.nx = 25 ∧ c.mv = 25 ∧ Pl zs n pile ∧ c.many = pile.length ∧ c.word = x) ∨
  (c.nx = 26 ∧ c.mv = 26 ∧ Pl zs n pile ∧ c.many = pile.length) ∨
  (c.nx = 31 ∧ c.mv = 25 ∧ Pl zs n pile ∧ pile.length < n ∧ c.many = (pile.length : Int) + 1 ∧ zs.getD (pile.length + 2) 0 = x ∧ c.word = 0) ∨
  (c.nx = 31 ∧ c.mv = 26 ∧ Pl zs n pile ∧ ∃ p, pile = p ++ [c.word] ∧ c.many = (p.length : Int)) ∨
  (c.nx = 35 ∧ c.mv = 25 ∧ Pl zs n (pile ++ [x]) ∧ c.word = 0) ∨
  (c.nx = 35 ∧ c.mv = 26 ∧ ∃ p, pile = p ++ [c.word] ∧ Pl zs n p))
/-- How a call ends. -/
def Out (mv : Nat) (x : Int) (c' : Cl) (n : Nat) (pile pile' : List Int) : Prop :=
  (mv = 25 ∧ c'.err = 0 ∧ c'.word = 0 ∧ pile' = pile ++ [x] ∧ pile.length < n) ∨ (mv = 25 ∧ c'.err = 6 ∧ c'.word = 0 ∧ pile' = pile ∧ pile.length = n) ∨
  (mv = 26 ∧ c'.err = 0 ∧ pile = pile' ++ [c'.word]) ∨ (mv = 26 ∧ c'.err = 7 ∧ c'.word = 0 ∧ pile = [] ∧ pile' = [])

theorem HoldOk.nx {c : Cl} (h : HoldOk zs n pile c x) : c.nx ≠ 0 ∧ c.nx ≠ 27 := by
  obtain ⟨_, _, _, h⟩ := h
  rcases h with h | h | h | h | h | h | h <;> (have := h.1; omega)
theorem HoldOk.len {c : Cl} (h : HoldOk zs n pile c x) : zs.length = n + 2 ∧ 1 ≤ n := by
  obtain ⟨_, _, _, h⟩ := h
  rcases h with ⟨_, p, _⟩ | ⟨_, _, p, _⟩ | ⟨_, _, p, _⟩ | ⟨_, _, p, _⟩ | ⟨_, _, p, _⟩ | ⟨_, _, p, _⟩ | ⟨_, _, _, _, p⟩ <;> exact ⟨p.len, p.n1⟩
theorem HoldOk.fit {c : Cl} (h : HoldOk zs n pile c x) (k : CallOk c x) : Fit zs c := by
  have hl := h.len
  obtain ⟨_, h1, h2, h⟩ := h
  refine ⟨by omega, k.who, k.who', k.mv, h1, by omega, ?_⟩
  rcases h with h | h | h | h | h | h | h <;> (have := h.1; omega)

def HoldsOn (zs : List Int) (n : Nat) (pile : List Int) (c : Cl) (x : Int) (s : Cl × List Int) : Prop :=
  s.1.mv = c.mv ∧ s.1.who = c.who ∧
    ((s.1.nx ≠ 0 ∧ rank s.1.nx + 1 = rank c.nx ∧ HoldOk s.2 n pile s.1 x ∧ s.2.getD 0 0 = zs.getD 0 0) ∨ (s.1.nx = 0 ∧ (rank s.1.nx < rank c.nx ∧ (s.1.err = 0 → rank c.nx = 1)) ∧ s.2.getD 0 0 = 0 ∧ ∃ pile', Pl s.2 n pile' ∧ Out c.mv x s.1 n pile pile'))

theorem hold_step {c : Cl} (h : HoldOk zs n pile c x) (k : CallOk c x) : HoldsOn zs n pile c x (stepF zs c) := by
  have hl := h.len
  obtain ⟨he, h1, h2, h⟩ := h
  have z0 : (zs.set 0 0).getD 0 0 = 0 := getD_set_eq _ _ _ (by omega)
  rcases h with ⟨e, p, hw⟩ | ⟨e, m, p, hm, hw⟩ | ⟨e, m, p, hm⟩ | ⟨e, m, p, hlt, hm, hx, hw⟩ | ⟨e, m, p, q, hq, hm⟩ | ⟨e, m, p, hw⟩ | ⟨e, m, q, hq, p⟩
  · have E : stepF zs c = ({ c with nx := c.mv, many := (pile.length : Int) }, zs) := by simp only [stepF, e, p.many]; simp
    have pf := p.fits
    rw [E]
    rcases k.mv with m | m
    · refine ⟨rfl, rfl, Or.inl ⟨by show c.mv ≠ 0; omega, by simp [rank, e, m], ⟨he, by show (0 : Int) ≤ pile.length; omega, by show (pile.length : Int) ≤ n; omega, Or.inr (Or.inl ⟨m, m, p, rfl, hw m⟩)⟩, rfl⟩⟩
    · refine ⟨rfl, rfl, Or.inl ⟨by show c.mv ≠ 0; omega, by simp [rank, e, m], ⟨he, by show (0 : Int) ≤ pile.length; omega, by show (pile.length : Int) ≤ n; omega, Or.inr (Or.inr (Or.inl ⟨m, m, p, rfl⟩))⟩, rfl⟩⟩
  · by_cases hc : (zs.length : Int) - 2 ≤ (pile.length : Int)
    · have E : stepF zs c = ({ c with nx := 0, word := 0, err := 6 }, zs.set 0 0) := by simp [stepF, e, hm, hc]
      rw [E]
      exact ⟨rfl, rfl, Or.inr ⟨rfl, by simp [rank, e], z0, pile, p.lock 0, Or.inr (Or.inl ⟨m, rfl, rfl, rfl, by have := p.fits; omega⟩)⟩⟩
    · have E : stepF zs c = ({ c with nx := 31, many := (pile.length : Int) + 1, word := 0 }, zs.set (pile.length + 2) x) := by simp [stepF, e, hm, hc, hw]
      rw [E]
      refine ⟨rfl, rfl, Or.inl ⟨by simp, by simp [rank, e], ⟨he, by show (0 : Int) ≤ (pile.length : Int) + 1; omega, by show (pile.length : Int) + 1 ≤ n; omega, Or.inr (Or.inr (Or.inr (Or.inl ⟨rfl, m, p.put x, by omega, rfl, getD_set_eq _ _ _ (by omega), rfl⟩)))⟩, getD_set_ne _ _ _ _ (by omega)⟩⟩
  · by_cases hc : (pile.length : Int) ≤ 0
    · have E : stepF zs c = ({ c with nx := 0, word := 0, err := 7 }, zs.set 0 0) := by simp only [stepF, e, hm, if_pos hc]; simp
      have hp : pile = [] := List.eq_nil_of_length_eq_zero (by omega)
      rw [E]
      refine ⟨rfl, rfl, Or.inr ⟨rfl, by simp [rank, e], z0, pile, p.lock 0, Or.inr (Or.inr (Or.inr ⟨m, rfl, rfl, hp, hp⟩))⟩⟩
    · rcases List.eq_nil_or_concat pile with hp | ⟨q, y, hp⟩
      · rw [hp] at hc; simp at hc
      · rw [List.concat_eq_append] at hp
        subst hp
        have hq1 : ((q ++ [y]).length : Int) - 1 = (q.length : Int) := by simp
        have E : stepF zs c = ({ c with nx := 31, many := (q.length : Int), word := y }, zs) := by
          simp only [stepF, e, hm, if_neg hc, hq1, Int.toNat_natCast, p.last]; simp
        have pf := p.fits
        simp at pf
        rw [E]
        refine ⟨rfl, rfl, Or.inl ⟨by simp, by simp [rank, e], ⟨he, by show (0 : Int) ≤ (q.length : Int); omega, by show (q.length : Int) ≤ n; omega, Or.inr (Or.inr (Or.inr (Or.inr (Or.inl ⟨rfl, m, p, q, rfl, rfl⟩))))⟩, rfl⟩⟩
  · have E : stepF zs c = ({ c with nx := 35 }, zs.set 1 ((pile.length : Int) + 1)) := by simp [stepF, e, hm]
    rw [E]
    exact ⟨rfl, rfl, Or.inl ⟨by simp, by simp [rank, e], ⟨he, h1, h2, Or.inr (Or.inr (Or.inr (Or.inr (Or.inr (Or.inl ⟨rfl, m, p.more hlt hx, hw⟩)))))⟩, getD_set_ne _ _ _ _ (by omega)⟩⟩
  · have E : stepF zs c = ({ c with nx := 35 }, zs.set 1 (q.length : Int)) := by simp [stepF, e, hm]
    rw [E]
    exact ⟨rfl, rfl, Or.inl ⟨by simp, by simp [rank, e], ⟨he, h1, h2, Or.inr (Or.inr (Or.inr (Or.inr (Or.inr (Or.inr ⟨rfl, m, q, hq, (hq ▸ p).less⟩)))))⟩, getD_set_ne _ _ _ _ (by omega)⟩⟩
  · have E : stepF zs c = ({ c with nx := 0 }, zs.set 0 0) := by simp [stepF, e]
    rw [E]
    have pf := p.fits
    simp at pf
    exact ⟨rfl, rfl, Or.inr ⟨rfl, by simp [rank, e], z0, _, p.lock 0, Or.inl ⟨m, he, hw, rfl, by omega⟩⟩⟩
  · have E : stepF zs c = ({ c with nx := 0 }, zs.set 0 0) := by simp [stepF, e]
    rw [E]
    exact ⟨rfl, rfl, Or.inr ⟨rfl, by simp [rank, e], z0, _, p.lock 0, Or.inr (Or.inr (Or.inl ⟨m, he, hq⟩))⟩⟩
end

/-- Calls, each with its block and what it puts. -/
abbrev Cs := List (Option (Nat × Cl × Int))
def Free (cs : Cs) : Prop := ∀ (i gc : Nat) (c : Cl) (x : Int), cs[i]? = some (some (gc, c, x)) → c.nx = 27 ∨ c.nx = 0
def Live (cs : Cs) (i : Nat) : Prop := ∃ (gc : Nat) (c : Cl) (x : Int), cs[i]? = some (some (gc, c, x)) ∧ c.nx ≠ 0 ∧ (c.nx = 27 → Free cs)
structure Sh (zs : List Int) (n : Nat) (pile : List Int) (cs : Cs) : Prop where
  ok : ∀ (i gc : Nat) (c : Cl) (x : Int), cs[i]? = some (some (gc, c, x)) → CallOk c x
  st : (zs.getD 0 0 = 0 ∧ Pl zs n pile ∧ Free cs) ∨
    (zs.getD 0 0 ≠ 0 ∧ ∃ (h gc : Nat) (c : Cl) (x : Int), cs[h]? = some (some (gc, c, x)) ∧ HoldOk zs n pile c x ∧ ∀ (i gc' : Nat) (c' : Cl) (x' : Int), i ≠ h → cs[i]? = some (some (gc', c', x')) → c'.nx = 27 ∨ c'.nx = 0)

theorem set_some {cs : Cs} {i j : Nat} {o x : Option (Nat × Cl × Int)} (h : (cs.set i o)[j]? = some x) : (i = j ∧ x = o) ∨ (i ≠ j ∧ cs[j]? = some x) := by
  rw [List.getElem?_set] at h
  by_cases e : i = j
  · rw [if_pos e] at h
    split at h
    · injection h with h; exact Or.inl ⟨e, h.symm⟩
    · cases h
  · rw [if_neg e] at h; exact Or.inr ⟨e, h⟩
theorem set_same_some {cs : Cs} {i : Nat} {o : Option (Nat × Cl × Int)} (h : cs[i]? = some o) : cs.set i o = cs := by
  apply List.ext_getElem?
  intro j
  rw [List.getElem?_set]
  by_cases e : i = j
  · subst e
    rw [if_pos rfl, if_pos (List.getElem?_eq_some_iff.1 h).1, h]
  · rw [if_neg e]

section
variable {zs : List Int} {n : Nat} {pile pile' : List Int} {cs cs' : Cs} {i gc : Nat} {c : Cl} {x : Int}

/-- What a step does. -/
def Moves (cs : Cs) (i : Nat) (c c' : Cl) (x : Int) (n : Nat) (pile pile' : List Int) : Prop :=
  (¬ Live cs i ∧ c' = c ∧ pile' = pile) ∨ (Live cs i ∧ c'.nx ≠ 0 ∧ c'.nx ≠ 27 ∧ pile' = pile ∧ rank c'.nx + 1 = rank c.nx) ∨ (Live cs i ∧ c'.nx = 0 ∧ Out c.mv x c' n pile pile' ∧ rank c'.nx < rank c.nx ∧ (c'.err = 0 → rank c.nx = 1))

theorem sh_step (S : Sh zs n pile cs) (hc : cs[i]? = some (some (gc, c, x))) (hn : c.nx ≠ 0) :
    Fit zs c ∧ (stepF zs c).1.mv = c.mv ∧ ∃ pile', Sh (stepF zs c).2 n pile' (cs.set i (some (gc, (stepF zs c).1, x))) ∧ Moves cs i c (stepF zs c).1 x n pile pile' ∧ (¬ Live cs i → (stepF zs c).2 = zs) := by
  have k := S.ok i gc c x hc
  have hil : i < cs.length := (List.getElem?_eq_some_iff.1 hc).1
  have live_of : ∀ {c' : Cl} {x' : Int} {gc' : Nat}, cs[i]? = some (some (gc', c', x')) → c' = c := fun h => by
    rw [hc] at h; injection h with h; injection h with h; injection h with _ h; injection h with h _; exact h.symm
  rcases S.st with ⟨h0, p, fr⟩ | ⟨h0, h, gh, ch, xh, hh, ho, oth⟩
  · have e : c.nx = 27 := (fr i gc c x hc).resolve_right hn
    have E : stepF zs c = ({ c with nx := 34 }, zs.set 0 (c.who + 1)) := by simp only [stepF, e, if_pos h0]; simp
    obtain ⟨hm, her, hw⟩ := k.first e
    have hl : Live cs i := ⟨gc, c, x, hc, hn, fun _ => fr⟩
    have pl := p.len
    have pn := p.n1
    rw [E]
    refine ⟨⟨by omega, k.who, k.who', k.mv, by omega, by omega, Or.inl e⟩, rfl, pile, ⟨?_, Or.inr ⟨?_, i, gc, _, x, List.getElem?_set_self hil, ⟨her, by show (0 : Int) ≤ c.many; omega, by show c.many ≤ n; omega, Or.inl ⟨rfl, p.lock _, hw⟩⟩, ?_⟩⟩, Or.inr (Or.inl ⟨hl, by simp, by simp, rfl, by simp [rank, e]⟩), fun hh => absurd hl hh⟩
    · intro j gj cj xj hj
      rcases set_some hj with ⟨_, e'⟩ | ⟨_, hj⟩
      · injection e' with e'; injection e' with e1 e2; injection e2 with e2 e3; subst e1 e2 e3
        exact ⟨k.who, k.who', k.mv, fun h => by cases h⟩
      · exact S.ok j gj cj xj hj
    · rw [getD_set_eq _ _ _ (by omega)]; have := k.who; omega
    · intro j gj cj xj hij hj
      rcases set_some hj with ⟨e', _⟩ | ⟨_, hj⟩
      · exact absurd e'.symm hij
      · exact fr j gj cj xj hj
  · by_cases hi : i = h
    · subst hi
      rw [hc] at hh
      injection hh with hh; injection hh with hh; injection hh with e1 e2; injection e2 with e2 e3
      subst e1 e2 e3
      obtain ⟨hmv, hwho, hr⟩ := hold_step ho k
      have hl : Live cs i := ⟨gc, c, x, hc, hn, fun h => absurd h ho.nx.2⟩
      have hok : ∀ (j gj : Nat) (cj : Cl) (xj : Int), (cs.set i (some (gc, (stepF zs c).1, x)))[j]? = some (some (gj, cj, xj)) → (stepF zs c).1.nx ≠ 27 → CallOk cj xj := by
        intro j gj cj xj hj h27
        rcases set_some hj with ⟨_, e'⟩ | ⟨_, hj⟩
        · injection e' with e'; injection e' with e1 e2; injection e2 with e2 e3; subst e1 e2 e3
          exact ⟨by rw [hwho]; exact k.who, by rw [hwho]; exact k.who', by rw [hmv]; exact k.mv, fun h => absurd h h27⟩
        · exact S.ok j gj cj xj hj
      rcases hr with ⟨hnz, hrk, ho', h0'⟩ | ⟨hz, hrk, h0', pile', p', out⟩
      · refine ⟨ho.fit k, hmv, pile, ⟨fun j gj cj xj hj => hok j gj cj xj hj ho'.nx.2, Or.inr ⟨by rw [h0']; exact h0, i, gc, _, x, List.getElem?_set_self hil, ho', ?_⟩⟩, Or.inr (Or.inl ⟨hl, hnz, ho'.nx.2, rfl, hrk⟩), fun hh => absurd hl hh⟩
        intro j gj cj xj hij hj
        rcases set_some hj with ⟨e', _⟩ | ⟨_, hj⟩
        · exact absurd e'.symm hij
        · exact oth j gj cj xj hij hj
      · refine ⟨ho.fit k, hmv, pile', ⟨fun j gj cj xj hj => hok j gj cj xj hj (by omega), Or.inl ⟨h0', p', ?_⟩⟩, Or.inr (Or.inr ⟨hl, hz, out, hrk⟩), fun hh => absurd hl hh⟩
        intro j gj cj xj hj
        rcases set_some hj with ⟨_, e'⟩ | ⟨hij, hj⟩
        · injection e' with e'; injection e' with e1 e2; injection e2 with e2 e3; subst e2
          exact Or.inr hz
        · exact oth j gj cj xj (fun e => hij e.symm) hj
    · have e : c.nx = 27 := (oth i gc c x hi hc).resolve_right hn
      have E : stepF zs c = (c, zs) := by simp only [stepF, e, if_neg h0]; simp
      obtain ⟨hm, her, hw⟩ := k.first e
      have hl : ¬ Live cs i := fun ⟨g2, c2, x2, h2, h3, h4⟩ => by
        have := live_of h2
        subst this
        have hfr := h4 e h gh ch xh hh
        have := ho.nx
        omega
      have pl := ho.len
      rw [E]
      refine ⟨⟨by omega, k.who, k.who', k.mv, by omega, by omega, Or.inl e⟩, rfl, pile, ?_, Or.inl ⟨hl, rfl, rfl⟩, fun _ => rfl⟩
      rw [set_same_some hc]
      exact S

/-- How many steps are left, all in all. -/
def rk : Option (Nat × Cl × Int) → Nat
  | none => 0
  | some p => rank p.2.1.nx
def tot (cs : Cs) : Nat := (cs.map rk).sum
theorem tot_set {o o' : Option (Nat × Cl × Int)} : ∀ {cs : Cs} {i : Nat}, cs[i]? = some o → tot (cs.set i o') + rk o = tot cs + rk o'
  | [], i, h => by simp at h
  | a :: l, 0, h => by
    simp at h; subst h
    simp [tot]; omega
  | a :: l, i + 1, h => by
    have := tot_set (o' := o') (cs := l) (i := i) (by simpa using h)
    simp [tot] at this ⊢; omega
theorem tot_le : ∀ (cs : Cs), tot cs ≤ 5 * cs.length
  | [] => by simp [tot]
  | a :: l => by
    have := tot_le l
    have : rk a ≤ 5 := by cases a; simp [rk]; exact rank_le _
    simp [tot] at *; omega
theorem tot_zero {o : Option (Nat × Cl × Int)} : ∀ {cs : Cs} {i : Nat}, tot cs = 0 → cs[i]? = some o → rk o = 0
  | [], i, _, h => by simp at h
  | a :: l, 0, h0, h => by
    simp at h; subst h
    simp [tot] at h0; omega
  | a :: l, i + 1, h0, h => tot_zero (cs := l) (i := i) (by simp [tot] at h0 ⊢; exact h0.2) (by simpa using h)
theorem tot_some : ∀ {cs : Cs}, tot cs ≠ 0 → ∃ (i gc : Nat) (c : Cl) (x : Int), cs[i]? = some (some (gc, c, x)) ∧ c.nx ≠ 0
  | [], h => by simp [tot] at h
  | a :: l, h => by
    by_cases ha : rk a = 0
    · obtain ⟨i, gc, c, x, hi, hc⟩ := tot_some (cs := l) (by simp [tot, ha] at h ⊢; exact h)
      exact ⟨i + 1, gc, c, x, by simpa using hi, hc⟩
    · cases a with
      | none => simp [rk] at ha
      | some p => exact ⟨0, p.1, p.2.1, p.2.2, rfl, fun e => ha (by simp [rk, e, rank])⟩
theorem rank_pos {zs : List Int} {c : Cl} (f : Fit zs c) : 0 < rank c.nx := by
  rcases f.known with e | e | e | e | e | e <;> rw [e] <;> decide

/-- If one goes on, one goes on that gets on. -/
theorem Sh.live (S : Sh zs n pile cs) (h : tot cs ≠ 0) : ∃ j, Live cs j := by
  obtain ⟨i, gc, c, x, hi, hc⟩ := tot_some h
  rcases S.st with ⟨_, _, fr⟩ | ⟨_, h, gh, ch, xh, hh, ho, _⟩
  · exact ⟨i, gc, c, x, hi, hc, fun _ => fr⟩
  · exact ⟨h, gh, ch, xh, hh, ho.nx.1, fun e => absurd e ho.nx.2⟩
/-- A step, or none: nothing turns, or fewer steps are left. -/
def Turn (cs cs' : Cs) (k : Nat) : Prop := (cs' = cs ∧ ¬ Live cs k) ∨ tot cs' < tot cs
/-- In a round: so far. -/
def Far (cs : Cs) (r B k : Nat) : Prop := (tot cs + r ≤ B ∨ tot cs = 0) ∧ (tot cs + (r + 1) ≤ B ∨ tot cs = 0 ∨ ∃ j, k ≤ j ∧ Live cs j)
theorem Far.next {r B k : Nat} (f : Far cs r B k) (t : Turn cs cs' k) : Far cs' r B (k + 1) := by
  rcases t with ⟨rfl, hl⟩ | ht
  · refine ⟨f.1, ?_⟩
    rcases f.2 with h | h | ⟨j, hj, h⟩
    · exact Or.inl h
    · exact Or.inr (Or.inl h)
    · exact Or.inr (Or.inr ⟨j, by have : j ≠ k := fun e => hl (e ▸ h); omega, h⟩)
  · have := f.1
    exact ⟨by omega, by omega⟩
theorem Far.start {r B : Nat} (S : Sh zs n pile cs) (h : tot cs + r ≤ B ∨ tot cs = 0) : Far cs r B 0 := by
  refine ⟨h, ?_⟩
  by_cases h0 : tot cs = 0
  · exact Or.inr (Or.inl h0)
  · obtain ⟨j, hj⟩ := S.live h0
    exact Or.inr (Or.inr ⟨j, Nat.zero_le _, hj⟩)
theorem Live.lt (h : Live cs i) : i < cs.length := by
  obtain ⟨gc, c, x, h, _⟩ := h
  exact (List.getElem?_eq_some_iff.1 h).1
theorem Far.over {r B : Nat} (f : Far cs r B cs.length) : tot cs + (r + 1) ≤ B ∨ tot cs = 0 := by
  rcases f.2 with h | h | ⟨j, hj, h⟩
  · exact Or.inl h
  · exact Or.inr h
  · have := h.lt; omega
theorem Moves.turn {c' : Cl} (hc : cs[i]? = some (some (gc, c, x))) (m : Moves cs i c c' x n pile pile') : Turn cs (cs.set i (some (gc, c', x))) i := by
  rcases m with ⟨h, rfl, _⟩ | ⟨_, _, _, _, h⟩ | ⟨_, _, _, h, _⟩
  · exact Or.inl ⟨set_same_some hc, h⟩
  · have := tot_set (o' := some (gc, c', x)) hc
    simp [rk] at this
    exact Or.inr (by omega)
  · have := tot_set (o' := some (gc, c', x)) hc
    simp [rk] at this
    exact Or.inr (by omega)
end
end Go.Proofs.Ytcnpbdboeaaajaa
