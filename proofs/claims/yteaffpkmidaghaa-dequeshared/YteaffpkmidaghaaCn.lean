/- Calls that go on at once: what holds whoever steps next. -/
import Derived.Test.YteaffpkmidaghaaCj
namespace Go.Proofs.Yteaffpkmidaghaa
set_option linter.unusedVariables false
set_option linter.unusedSimpArgs false

/-- What holds of the owner's call: none, or where it is. -/
def OwnOk (zs : List Int) (n t tag hi : Nat) : Option Cl → Prop
  | none => zs.getD 0 0 = hi
  | some c => c.who = 0 ∧ c.err = 0 ∧ 0 ≤ c.top ∧ c.top < 4398046511104 ∧ (
      ((c.nx = 25 ∨ c.nx = 26) ∧ zs.getD 0 0 = hi ∧ c.place = 0) ∨
      (c.nx = 33 ∧ zs.getD 0 0 = hi ∧ c.place = hi ∧ hi < n) ∨
      (c.nx = 38 ∧ zs.getD 0 0 = hi ∧ c.place = hi ∧ hi < n ∧ zs.getD (hi + 2) 0 = c.word) ∨
      (c.nx = 34 ∧ zs.getD 0 0 = hi ∧ c.place + 1 = hi ∧ 0 < hi) ∨
      (c.nx = 39 ∧ zs.getD 0 0 = c.place ∧ c.place + 1 = hi ∧ 0 < hi) ∨
      (c.nx = 45 ∧ zs.getD 0 0 = c.place ∧ c.place + 1 = hi ∧ 0 < hi ∧ zs.getD (c.place.toNat + 2) 0 = c.word) ∨
      (c.nx = 49 ∧ zs.getD 0 0 = c.place ∧ c.place + 1 = hi ∧ 0 < hi ∧ zs.getD (c.place.toNat + 2) 0 = c.word ∧ ∃ tl : Nat, c.top = (tl : Int) + 4096 * (tag : Int) ∧ c.place ≤ tl ∧ tl ≤ t) ∨
      (c.nx = 54 ∧ zs.getD 0 0 = 0 ∧ c.place + 1 = hi ∧ 0 < hi ∧ zs.getD (c.place.toNat + 2) 0 = c.word ∧ c.top = c.place + 4096 * (tag : Int) ∧ c.place ≤ t) ∨
      (c.nx = 53 ∧ zs.getD 0 0 = 0 ∧ c.place + 1 = hi ∧ 0 < hi ∧ t = hi ∧ ∃ tl : Nat, c.top = (tl : Int) + 4096 * (tag : Int) ∧ tl ≤ n))

/-- What holds of another one's call. -/
def ThOk (zs : List Int) (n t tag hi : Nat) (c : Cl) : Prop :=
  c.nx = 0 ∨ (0 ≤ c.who ∧ c.who < 64 ∧ c.err = 0 ∧ (
    (c.nx = 27 ∧ c.place = 0 ∧ c.top = 0) ∨
    ∃ tl gl : Nat, c.place = tl ∧ c.top = (tl : Int) + 4096 * (gl : Int) ∧ tl ≤ n ∧ (gl < tag ∨ gl = tag ∧ tl ≤ t) ∧
      (c.nx = 35 ∨ (c.nx = 40 ∧ tl < n ∧ (gl = tag → tl = t → t < hi)) ∨ (c.nx = 46 ∧ (gl = tag → tl = t → t < hi ∧ zs.getD (t + 2) 0 = c.word)))))

/-- A deque that several have calls of. -/
structure Sh (zs : List Int) (n t tag hi : Nat) (row : List Int) (oc : Option Cl) : Prop where
  len : zs.length = n + 2
  n2 : 2 ≤ n
  n' : n ≤ 1024
  hin : hi ≤ n
  thi : t ≤ hi
  top : zs.getD 1 0 = (t : Int) + 4096 * (tag : Int)
  tag' : tag ≤ 100000
  rlen : t + row.length = hi
  row_ : ∀ i, i < row.length → zs.getD (t + i + 2) 0 = row.getD i 0
  own : OwnOk zs n t tag hi oc

section
variable {zs : List Int} {n t tag hi : Nat} {row : List Int} {oc : Option Cl} {c : Cl}

theorem Sh.botb (s : Sh zs n t tag hi row oc) : 0 ≤ zs.getD 0 0 ∧ zs.getD 0 0 ≤ hi := by
  have h := s.own
  cases oc with
  | none => simp only [OwnOk] at h; omega
  | some c =>
    simp only [OwnOk] at h
    obtain ⟨_, _, _, _, h⟩ := h
    rcases h with ⟨_, h, _⟩ | ⟨_, h, _⟩ | ⟨_, h, _⟩ | ⟨_, h, _⟩ | ⟨_, h, h', _⟩ | ⟨_, h, h', _⟩ | ⟨_, h, h', _⟩ | ⟨_, h, _⟩ | ⟨_, h, _⟩ <;> omega
theorem Sh.topb (s : Sh zs n t tag hi row oc) : 0 ≤ zs.getD 1 0 ∧ zs.getD 1 0 < 4398046511104 := by
  have := s.top; have := s.thi; have := s.hin; have := s.n'; have := s.tag'; omega
theorem Sh.q (s : Sh zs n t tag hi row none) : Q zs n t tag row :=
  ⟨s.len, s.n2, s.n', by have := s.own; simp only [OwnOk] at this; have := s.rlen; omega, by have := s.rlen; have := s.hin; omega, s.top, s.tag', s.row_⟩
theorem Q.sh (q : Q zs n t tag row) : Sh zs n t tag (t + row.length) row none :=
  ⟨q.len, q.n2, q.n', q.fits, by omega, q.top, q.tag, rfl, q.row_, by simp only [OwnOk]; rw [q.bot]; omega⟩

theorem th_fit (s : Sh zs n t tag hi row oc) (h : ThOk zs n t tag hi c) (hn : c.nx ≠ 0) : Fit zs c := by
  have hb := s.botb
  have ht := s.topb
  have h1 := s.hin
  have h2 := s.n'
  have h3 := s.tag'
  have h5 := s.thi
  rcases h with h | ⟨w0, w1, he, h⟩
  · exact absurd h hn
  · rcases h with ⟨e, p, tp⟩ | ⟨tl, gl, p, tp, hl, hg, h⟩
    · exact fit_of s.len s.n2 s.n' ⟨w0, w1⟩ rfl (by omega) rfl ht (by omega) (by omega) (by omega) (by omega)
    · have hgl : gl ≤ tag := by omega
      rcases h with e | ⟨e, hlt, _⟩ | ⟨e, _⟩
      · exact fit_of s.len s.n2 s.n' ⟨w0, w1⟩ rfl (by omega) rfl ht (by omega) (by omega) (by omega) (by omega)
      · exact fit_of s.len s.n2 s.n' ⟨w0, w1⟩ rfl (by omega) rfl ht (by omega) (by omega) (by omega) (by omega)
      · exact fit_of s.len s.n2 s.n' ⟨w0, w1⟩ rfl (by omega) rfl ht (by omega) (by omega) (by omega) (by omega)

/-- What came of another one's step. -/
def ThOut (c' : Cl) (row row' : List Int) : Prop :=
  (c'.nx ≠ 0 ∧ row' = row) ∨ (c'.nx = 0 ∧ c'.err = 0 ∧ row = c'.word :: row') ∨ (c'.nx = 0 ∧ (c'.err = 7 ∨ c'.err = 8) ∧ c'.word = 0 ∧ row' = row)

theorem head_of (s : Sh zs n t tag hi row oc) (h : t < hi) : ∃ r, row = zs.getD (t + 2) 0 :: r ∧ t + 1 + r.length = hi := by
  have hl := s.rlen
  cases row with
  | nil => simp at hl; omega
  | cons y r =>
    have this : zs.getD (t + 2) 0 = y := s.row_ 0 (by simp)
    exact ⟨r, by rw [this], by simp at hl; omega⟩

theorem OwnOk.top_on (h : OwnOk zs n t tag hi oc) (htl : t < hi) (x : Int) (hlen : zs.length = n + 2) : OwnOk (zs.set 1 x) n (t + 1) tag hi oc := by
  have e0 : (zs.set 1 x).getD 0 0 = zs.getD 0 0 := getD_set_ne _ _ _ _ (by omega)
  have e2 : ∀ k, (zs.set 1 x).getD (k + 2) 0 = zs.getD (k + 2) 0 := fun k => getD_set_ne _ _ _ _ (by omega)
  cases oc with
  | none => simp only [OwnOk, e0] at h ⊢; exact h
  | some c =>
    simp only [OwnOk, e0, e2] at h ⊢
    obtain ⟨a, b, d, e, h⟩ := h
    refine ⟨a, b, d, e, ?_⟩
    rcases h with h | h | h | h | h | h | ⟨h1, h2, h3, h4, h5, tl, h6, h7, h8⟩ | ⟨h1, h2, h3, h4, h5, h6, h7⟩ | ⟨h1, h2, h3, h4, h5, h6⟩
    · exact Or.inl h
    · exact Or.inr (Or.inl h)
    · exact Or.inr (Or.inr (Or.inl h))
    · exact Or.inr (Or.inr (Or.inr (Or.inl h)))
    · exact Or.inr (Or.inr (Or.inr (Or.inr (Or.inl h))))
    · exact Or.inr (Or.inr (Or.inr (Or.inr (Or.inr (Or.inl h)))))
    · exact Or.inr (Or.inr (Or.inr (Or.inr (Or.inr (Or.inr (Or.inl ⟨h1, h2, h3, h4, h5, tl, h6, h7, by omega⟩))))))
    · exact Or.inr (Or.inr (Or.inr (Or.inr (Or.inr (Or.inr (Or.inr (Or.inl ⟨h1, h2, h3, h4, h5, h6, by omega⟩)))))))
    · omega

theorem ThOk.top_on (h : ThOk zs n t tag hi c) (x : Int) : ThOk (zs.set 1 x) n (t + 1) tag hi c := by
  rcases h with h | ⟨w0, w1, he, h⟩
  · exact Or.inl h
  · refine Or.inr ⟨w0, w1, he, ?_⟩
    rcases h with h | ⟨tl, gl, p, tp, hl, hg, h⟩
    · exact Or.inl h
    · refine Or.inr ⟨tl, gl, p, tp, hl, by omega, ?_⟩
      rcases h with h | ⟨h1, h2, h3⟩ | ⟨h1, h2⟩
      · exact Or.inl h
      · exact Or.inr (Or.inl ⟨h1, h2, by omega⟩)
      · exact Or.inr (Or.inr ⟨h1, by omega⟩)

theorem thief_step (s : Sh zs n t tag hi row oc) (h : ThOk zs n t tag hi c) (hn : c.nx ≠ 0) :
    ∃ t' row', Sh (stepF zs c).2 n t' tag hi row' oc ∧ ThOk (stepF zs c).2 n t' tag hi (stepF zs c).1 ∧ (∀ d, ThOk zs n t tag hi d → ThOk (stepF zs c).2 n t' tag hi d) ∧ ThOut (stepF zs c).1 row row' := by
  have hb := s.botb
  have htop := s.top
  have h1 := s.hin
  have h2 := s.n'
  have h3 := s.thi
  rcases h with h | ⟨w0, w1, he, h⟩
  · exact absurd h hn
  · rcases h with ⟨e, p, tp⟩ | ⟨tl, gl, p, tp, hl, hg, h⟩
    · have E : stepF zs c = ({ c with nx := 35, top := zs.getD 1 0, place := zs.getD 1 0 % 4096 }, zs) := by simp [stepF, e]
      rw [E]
      refine ⟨t, row, s, Or.inr ⟨w0, w1, he, Or.inr ⟨t, tag, ?_, htop, by omega, Or.inr ⟨rfl, Nat.le_refl _⟩, Or.inl rfl⟩⟩, fun d hd => hd, Or.inl ⟨by simp, rfl⟩⟩
      show zs.getD 1 0 % 4096 = _
      rw [htop]; omega
    · rcases h with e | ⟨e, hlt, hc⟩ | ⟨e, hc⟩
      · by_cases hbp : zs.getD 0 0 ≤ c.place
        · have E : stepF zs c = ({ c with nx := 0, word := 0, err := 7 }, zs) := by simp only [stepF, e, if_pos hbp]; simp
          rw [E]
          exact ⟨t, row, s, Or.inl rfl, fun d hd => hd, Or.inr (Or.inr ⟨rfl, Or.inl rfl, rfl, rfl⟩)⟩
        · have E : stepF zs c = ({ c with nx := 40 }, zs) := by simp only [stepF, e, if_neg hbp]; simp
          rw [E]
          refine ⟨t, row, s, Or.inr ⟨w0, w1, he, Or.inr ⟨tl, gl, p, tp, hl, hg, Or.inr (Or.inl ⟨rfl, by omega, by omega⟩)⟩⟩, fun d hd => hd, Or.inl ⟨by simp, rfl⟩⟩
      · have E : stepF zs c = ({ c with nx := 46, word := zs.getD (c.place.toNat + 2) 0 }, zs) := by simp [stepF, e]
        rw [E]
        refine ⟨t, row, s, Or.inr ⟨w0, w1, he, Or.inr ⟨tl, gl, p, tp, hl, hg, Or.inr (Or.inr ⟨rfl, fun a b => ⟨hc a b, ?_⟩⟩)⟩⟩, fun d hd => hd, Or.inl ⟨by simp, rfl⟩⟩
        have : c.place.toNat = t := by omega
        rw [this]
      · by_cases hx : zs.getD 1 0 = c.top
        · have E : stepF zs c = ({ c with nx := 0 }, zs.set 1 (c.place + 1 + c.top / 4096 * 4096)) := by simp only [stepF, e, if_pos hx]; simp
          rw [E]
          have hgt : gl = tag ∧ tl = t := by omega
          obtain ⟨rfl, rfl⟩ := hgt
          obtain ⟨hth, hw⟩ := hc rfl rfl
          obtain ⟨r, hr, hrl⟩ := head_of s hth
          have ex : c.place + 1 + c.top / 4096 * 4096 = ((tl + 1 : Nat) : Int) + 4096 * (gl : Int) := by omega
          refine ⟨tl + 1, r, ⟨by simpa using s.len, s.n2, s.n', s.hin, by omega, ?_, s.tag', hrl, fun i hi => ?_, s.own.top_on hth _ s.len⟩, Or.inl rfl, fun d hd => hd.top_on _, Or.inr (Or.inl ⟨rfl, he, ?_⟩)⟩
          · rw [getD_set_eq _ _ _ (by have := s.len; have := s.n2; omega), ex]
          · rw [getD_set_ne _ _ _ _ (by omega)]
            have := s.row_ (i + 1) (by rw [hr]; simp; omega)
            rw [show tl + (i + 1) + 2 = tl + 1 + i + 2 by omega] at this
            rw [this, hr]; simp [List.getD]
          · show row = c.word :: r
            rw [hr, hw]
        · have E : stepF zs c = ({ c with nx := 0, word := 0, err := 8 }, zs) := by simp only [stepF, e, if_neg hx]; simp
          rw [E]
          exact ⟨t, row, s, Or.inl rfl, fun d hd => hd, Or.inr (Or.inr ⟨rfl, Or.inr rfl, rfl, rfl⟩)⟩

/-- A push. -/
def Pushes (c : Cl) : Prop := c.nx = 25 ∨ c.nx = 33 ∨ c.nx = 38
/-- What came of the owner's step. -/
def OwnOut (c c' : Cl) (row row' : List Int) : Prop :=
  (c'.nx ≠ 0 ∧ row' = row ∧ (Pushes c ↔ Pushes c') ∧ (Pushes c → c'.word = c.word)) ∨
  (c'.nx = 0 ∧ Pushes c ∧ c'.err = 0 ∧ row' = row ++ [c.word]) ∨ (c'.nx = 0 ∧ Pushes c ∧ c'.err = 6 ∧ row' = row) ∨
  (c'.nx = 0 ∧ ¬ Pushes c ∧ c'.err = 0 ∧ row = row' ++ [c'.word]) ∨ (c'.nx = 0 ∧ ¬ Pushes c ∧ c'.err = 7 ∧ c'.word = 0 ∧ row' = row)
/-- The owner's call behind a step: none, when it is done. -/
def still (c : Cl) : Option Cl := if c.nx = 0 then none else some c

theorem own_fit (s : Sh zs n t tag hi row (some c)) : Fit zs c := by
  have hb := s.botb
  have ht := s.topb
  have h1 := s.hin
  have h := s.own
  simp only [OwnOk] at h
  obtain ⟨hw, he, hp, hp', h⟩ := h
  rcases h with ⟨e, h, h'⟩ | ⟨e, h, h', _⟩ | ⟨e, h, h', _⟩ | ⟨e, h, h', _⟩ | ⟨e, h, h', _⟩ | ⟨e, h, h', _⟩ | ⟨e, h, h', _⟩ | ⟨e, h, h', _⟩ | ⟨e, h, h', _⟩ <;>
    exact fit_of s.len s.n2 s.n' (by omega) rfl (by omega) rfl ht (by omega) (by omega) (by omega) (by omega)

theorem ThOk.zs_on {zs' : List Int} {hi' : Nat} {d : Cl} (h : ThOk zs n t tag hi d) (h1 : t < hi → t < hi') (h2 : t < hi → zs'.getD (t + 2) 0 = zs.getD (t + 2) 0) : ThOk zs' n t tag hi' d := by
  rcases h with h | ⟨w0, w1, he, h⟩
  · exact Or.inl h
  · refine Or.inr ⟨w0, w1, he, ?_⟩
    rcases h with h | ⟨tl, gl, p, tp, hl, hg, h⟩
    · exact Or.inl h
    · refine Or.inr ⟨tl, gl, p, tp, hl, hg, ?_⟩
      rcases h with h | ⟨e1, e2, e3⟩ | ⟨e1, e2⟩
      · exact Or.inl h
      · exact Or.inr (Or.inl ⟨e1, e2, fun a b => h1 (e3 a b)⟩)
      · exact Or.inr (Or.inr ⟨e1, fun a b => ⟨h1 (e2 a b).1, (h2 (e2 a b).1).trans (e2 a b).2⟩⟩)
theorem ThOk.tag_on {zs' : List Int} {d : Cl} (h : ThOk zs n t tag hi d) : ThOk zs' n 0 (tag + 1) 0 d := by
  rcases h with h | ⟨w0, w1, he, h⟩
  · exact Or.inl h
  · refine Or.inr ⟨w0, w1, he, ?_⟩
    rcases h with h | ⟨tl, gl, p, tp, hl, hg, h⟩
    · exact Or.inl h
    · refine Or.inr ⟨tl, gl, p, tp, hl, by omega, ?_⟩
      rcases h with h | ⟨e1, e2, e3⟩ | ⟨e1, e2⟩
      · exact Or.inl h
      · exact Or.inr (Or.inl ⟨e1, e2, by omega⟩)
      · exact Or.inr (Or.inr ⟨e1, by omega⟩)

theorem last_of (s : Sh zs n t tag hi row oc) (h : t < hi) (p : Nat) (hp : p + 1 = hi) : ∃ r, row = r ++ [zs.getD (p + 2) 0] ∧ t + r.length = p := by
  have hl := s.rlen
  rcases List.eq_nil_or_concat row with rfl | ⟨r, y, rfl⟩
  · simp at hl; omega
  · simp at hl
    have hy : zs.getD (t + r.length + 2) 0 = (r.concat y).getD r.length 0 := s.row_ r.length (by simp)
    have e : t + r.length + 2 = p + 2 := by omega
    rw [e] at hy
    refine ⟨r, ?_, by omega⟩
    rw [hy]
    simp [List.getD]

theorem owner_step (s : Sh zs n t tag hi row (some c)) (hg : tag < 100000) :
    ∃ t' tag' hi' row', Sh (stepF zs c).2 n t' tag' hi' row' (still (stepF zs c).1) ∧ tag' ≤ tag + 1 ∧ (∀ d, ThOk zs n t tag hi d → ThOk (stepF zs c).2 n t' tag' hi' d) ∧ OwnOut c (stepF zs c).1 row row' := by
  have hb := s.botb
  have htop := s.top
  have h1 := s.hin
  have h2 := s.n'
  have h3 := s.thi
  have hlen := s.len
  have hn2 := s.n2
  have h := s.own
  simp only [OwnOk] at h
  obtain ⟨hw, he, hp0, hp1, h⟩ := h
  rcases h with ⟨e | e, hbot, hpl⟩ | ⟨e, hbot, hpl, hlt⟩ | ⟨e, hbot, hpl, hlt, hwd⟩ | ⟨e, hbot, hpl, hpos⟩ | ⟨e, hbot, hpl, hpos⟩ | ⟨e, hbot, hpl, hpos, hwd⟩ | ⟨e, hbot, hpl, hpos, hwd, tl, htl, hl1, hl2⟩ | ⟨e, hbot, hpl, hpos, hwd, htl, hl1⟩ | ⟨e, hbot, hpl, hpos, hth, tl, htl, hl1⟩
  · by_cases hf : (zs.length : Int) - 2 ≤ zs.getD 0 0
    · have E : stepF zs c = ({ c with nx := 0, place := zs.getD 0 0, word := 0, err := 6 }, zs) := by simp only [stepF, e, if_pos hf]; simp
      rw [E]
      exact ⟨t, tag, hi, row, ⟨hlen, hn2, h2, h1, h3, htop, s.tag', s.rlen, s.row_, by simp only [still, if_pos, OwnOk]; exact hbot⟩, by omega, fun d hd => hd, Or.inr (Or.inr (Or.inl ⟨rfl, Or.inl e, rfl, rfl⟩))⟩
    · have E : stepF zs c = ({ c with nx := 33, place := zs.getD 0 0 }, zs) := by simp only [stepF, e, if_neg hf]; simp
      rw [E]
      refine ⟨t, tag, hi, row, ⟨hlen, hn2, h2, h1, h3, htop, s.tag', s.rlen, s.row_, ?_⟩, by omega, fun d hd => hd, Or.inl ⟨by simp, rfl, ?_, fun _ => rfl⟩⟩
      · simp only [still, OwnOk]; exact ⟨hw, he, hp0, hp1, Or.inr (Or.inl ⟨rfl, hbot, hbot, by omega⟩)⟩
      · exact ⟨fun _ => Or.inr (Or.inl rfl), fun _ => Or.inl e⟩
  · by_cases hf : zs.getD 0 0 = 0
    · have E : stepF zs c = ({ c with nx := 0, word := 0, err := 7 }, zs) := by simp only [stepF, e, if_pos hf]; simp
      rw [E]
      exact ⟨t, tag, hi, row, ⟨hlen, hn2, h2, h1, h3, htop, s.tag', s.rlen, s.row_, by simp only [still, if_pos, OwnOk]; exact hbot⟩, by omega, fun d hd => hd, Or.inr (Or.inr (Or.inr (Or.inr ⟨rfl, by simp [Pushes, e], rfl, rfl, rfl⟩)))⟩
    · have E : stepF zs c = ({ c with nx := 34, place := zs.getD 0 0 - 1 }, zs) := by simp only [stepF, e, if_neg hf]; simp
      rw [E]
      refine ⟨t, tag, hi, row, ⟨hlen, hn2, h2, h1, h3, htop, s.tag', s.rlen, s.row_, ?_⟩, by omega, fun d hd => hd, Or.inl ⟨by simp, rfl, by simp [Pushes, e], fun _ => rfl⟩⟩
      simp only [still, OwnOk]; exact ⟨hw, he, hp0, hp1, Or.inr (Or.inr (Or.inr (Or.inl ⟨rfl, hbot, by show zs.getD 0 0 - 1 + 1 = _; omega, by omega⟩)))⟩
  · have ep : c.place.toNat = hi := by omega
    have E : stepF zs c = ({ c with nx := 38 }, zs.set (hi + 2) c.word) := by simp [stepF, e, ep]
    rw [E]
    refine ⟨t, tag, hi, row, ⟨by simpa using hlen, hn2, h2, h1, h3, by rw [getD_set_ne _ _ _ _ (by omega)]; exact htop, s.tag', s.rlen, fun i hi' => ?_, ?_⟩, by omega, fun d hd => hd.zs_on id (fun ht => getD_set_ne _ _ _ _ (by omega)), Or.inl ⟨by simp, rfl, by simp [Pushes, e], fun _ => rfl⟩⟩
    · have := s.rlen
      rw [getD_set_ne _ _ _ _ (by omega)]; exact s.row_ i hi'
    · simp only [still, OwnOk]
      refine ⟨hw, he, hp0, hp1, Or.inr (Or.inr (Or.inl ⟨rfl, ?_, hpl, hlt, getD_set_eq _ _ _ (by omega)⟩))⟩
      rw [getD_set_ne _ _ _ _ (by omega)]; exact hbot
  · have E : stepF zs c = ({ c with nx := 0, word := 0 }, zs.set 0 (c.place + 1)) := by simp [stepF, e]
    rw [E]
    have hrl := s.rlen
    refine ⟨t, tag, hi + 1, row ++ [c.word], ⟨by simpa using hlen, hn2, h2, by omega, by omega, by rw [getD_set_ne _ _ _ _ (by omega)]; exact htop, s.tag', by simp; omega, fun i hi' => ?_, ?_⟩, by omega, fun d hd => hd.zs_on (by omega) (fun ht => getD_set_ne _ _ _ _ (by omega)), Or.inr (Or.inl ⟨rfl, by simp [Pushes, e], he, rfl⟩)⟩
    · rw [getD_set_ne _ _ _ _ (by omega)]
      simp at hi'
      by_cases hi2 : i < row.length
      · rw [s.row_ i hi2]; simp [List.getD, List.getElem?_append, hi2]
      · have : i = row.length := by omega
        subst this
        rw [show t + row.length + 2 = hi + 2 by omega, hwd]; simp [List.getD]
    · simp only [still, if_pos, OwnOk]
      rw [getD_set_eq _ _ _ (by omega)]; omega
  · have E : stepF zs c = ({ c with nx := 39 }, zs.set 0 c.place) := by simp [stepF, e]
    rw [E]
    refine ⟨t, tag, hi, row, ⟨by simpa using hlen, hn2, h2, h1, h3, by rw [getD_set_ne _ _ _ _ (by omega)]; exact htop, s.tag', s.rlen, fun i hi' => ?_, ?_⟩, by omega, fun d hd => hd.zs_on id (fun ht => getD_set_ne _ _ _ _ (by omega)), Or.inl ⟨by simp, rfl, by simp [Pushes, e], fun _ => rfl⟩⟩
    · rw [getD_set_ne _ _ _ _ (by omega)]; exact s.row_ i hi'
    · simp only [still, OwnOk]
      exact ⟨hw, he, hp0, hp1, Or.inr (Or.inr (Or.inr (Or.inr (Or.inl ⟨rfl, getD_set_eq _ _ _ (by omega), hpl, hpos⟩))))⟩
  · have E : stepF zs c = ({ c with nx := 45, word := zs.getD (c.place.toNat + 2) 0 }, zs) := by simp [stepF, e]
    rw [E]
    refine ⟨t, tag, hi, row, ⟨hlen, hn2, h2, h1, h3, htop, s.tag', s.rlen, s.row_, ?_⟩, by omega, fun d hd => hd, Or.inl ⟨by simp, rfl, by simp [Pushes, e], fun hp => by simp [Pushes, e] at hp⟩⟩
    simp only [still, OwnOk]
    exact ⟨hw, he, hp0, hp1, Or.inr (Or.inr (Or.inr (Or.inr (Or.inr (Or.inl ⟨rfl, hbot, hpl, hpos, rfl⟩)))))⟩
  · have hm : zs.getD 1 0 % 4096 = t := by rw [htop]; omega
    by_cases hf : zs.getD 1 0 % 4096 < c.place
    · have E : stepF zs c = ({ c with nx := 0, top := zs.getD 1 0 }, zs) := by simp only [stepF, e, if_pos hf]; simp
      rw [E]
      obtain ⟨r, hr, hrl⟩ := last_of s (by omega) c.place.toNat (by omega)
      refine ⟨t, tag, c.place.toNat, r, ⟨hlen, hn2, h2, by omega, by omega, htop, s.tag', hrl, fun i hi' => ?_, ?_⟩, by omega, fun d hd => hd.zs_on (by omega) (fun _ => rfl), Or.inr (Or.inr (Or.inr (Or.inl ⟨rfl, by simp [Pushes, e], he, ?_⟩)))⟩
      · rw [s.row_ i (by rw [hr]; simp; omega), hr]; simp [List.getD, List.getElem?_append, hi']
      · simp only [still, if_pos, OwnOk]; omega
      · rw [hr, hwd]
    · have E : stepF zs c = ({ c with nx := 49, top := zs.getD 1 0 }, zs) := by simp only [stepF, e, if_neg hf]; simp
      rw [E]
      refine ⟨t, tag, hi, row, ⟨hlen, hn2, h2, h1, h3, htop, s.tag', s.rlen, s.row_, ?_⟩, by omega, fun d hd => hd, Or.inl ⟨by simp, rfl, by simp [Pushes, e], fun hp => by simp [Pushes, e] at hp⟩⟩
      simp only [still, OwnOk]
      exact ⟨hw, he, s.topb.1, s.topb.2, Or.inr (Or.inr (Or.inr (Or.inr (Or.inr (Or.inr (Or.inl ⟨rfl, hbot, hpl, hpos, hwd, t, htop, by show c.place ≤ _; omega, Nat.le_refl _⟩))))))⟩
  · have hm : c.top % 4096 = tl := by rw [htl]; omega
    have hzs : (∀ d, ThOk zs n t tag hi d → ThOk (zs.set 0 0) n t tag hi d) := fun d hd => hd.zs_on id (fun ht => getD_set_ne _ _ _ _ (by omega))
    have hrow : ∀ i, i < row.length → (zs.set 0 0).getD (t + i + 2) 0 = row.getD i 0 := fun i hi' => by rw [getD_set_ne _ _ _ _ (by omega)]; exact s.row_ i hi'
    have hb0 : (zs.set 0 0).getD 0 0 = 0 := getD_set_eq _ _ _ (by omega)
    have ht0 : (zs.set 0 0).getD 1 0 = (t : Int) + 4096 * (tag : Int) := by rw [getD_set_ne _ _ _ _ (by omega)]; exact htop
    by_cases hf : c.place = c.top % 4096
    · have E : stepF zs c = ({ c with nx := 54 }, zs.set 0 0) := by simp only [stepF, e, if_pos hf]; simp
      rw [E]
      refine ⟨t, tag, hi, row, ⟨by simpa using hlen, hn2, h2, h1, h3, ht0, s.tag', s.rlen, hrow, ?_⟩, by omega, hzs, Or.inl ⟨by simp, rfl, by simp [Pushes, e], fun hp => by simp [Pushes, e] at hp⟩⟩
      simp only [still, OwnOk]
      refine ⟨hw, he, hp0, hp1, Or.inr (Or.inr (Or.inr (Or.inr (Or.inr (Or.inr (Or.inr (Or.inl ⟨rfl, hb0, hpl, hpos, ?_, ?_, by show c.place ≤ _; omega⟩)))))))⟩
      · rw [getD_set_ne _ _ _ _ (by omega)]; exact hwd
      · show c.top = c.place + _; omega
    · have E : stepF zs c = ({ c with nx := 53 }, zs.set 0 0) := by simp only [stepF, e, if_neg hf]; simp
      rw [E]
      refine ⟨t, tag, hi, row, ⟨by simpa using hlen, hn2, h2, h1, h3, ht0, s.tag', s.rlen, hrow, ?_⟩, by omega, hzs, Or.inl ⟨by simp, rfl, by simp [Pushes, e], fun hp => by simp [Pushes, e] at hp⟩⟩
      simp only [still, OwnOk]
      exact ⟨hw, he, hp0, hp1, Or.inr (Or.inr (Or.inr (Or.inr (Or.inr (Or.inr (Or.inr (Or.inr ⟨rfl, hb0, hpl, hpos, by omega, tl, htl, by omega⟩)))))))⟩
  · have hd : c.top / 4096 = tag := by omega
    by_cases hf : zs.getD 1 0 = c.top
    · have E : stepF zs c = ({ c with nx := 0 }, zs.set 1 ((c.top / 4096 + 1) * 4096)) := by simp only [stepF, e, if_pos hf]; simp
      rw [E]
      have ht : (t : Int) = c.place := by omega
      obtain ⟨r, hr, hrl⟩ := last_of s (by omega) c.place.toNat (by omega)
      have hr0 : r = [] := List.length_eq_zero_iff.1 (by omega)
      subst hr0
      refine ⟨0, tag + 1, 0, [], ⟨by simpa using hlen, hn2, h2, by omega, by omega, ?_, by omega, rfl, fun i hi' => by simp at hi', ?_⟩, by omega, fun d hd => hd.tag_on, Or.inr (Or.inr (Or.inr (Or.inl ⟨rfl, by simp [Pushes, e], he, ?_⟩)))⟩
      · rw [getD_set_eq _ _ _ (by omega), hd]; omega
      · simp only [still, if_pos, OwnOk]; rw [getD_set_ne _ _ _ _ (by omega)]; omega
      · rw [hr, hwd]
    · have E : stepF zs c = ({ c with nx := 53 }, zs) := by simp only [stepF, e, if_neg hf]; simp
      rw [E]
      refine ⟨t, tag, hi, row, ⟨hlen, hn2, h2, h1, h3, htop, s.tag', s.rlen, s.row_, ?_⟩, by omega, fun d hd => hd, Or.inl ⟨by simp, rfl, by simp [Pushes, e], fun hp => by simp [Pushes, e] at hp⟩⟩
      simp only [still, OwnOk]
      exact ⟨hw, he, hp0, hp1, Or.inr (Or.inr (Or.inr (Or.inr (Or.inr (Or.inr (Or.inr (Or.inr ⟨rfl, hbot, hpl, hpos, by omega, c.place.toNat, by show c.top = _; omega, by omega⟩)))))))⟩
  · have hd : c.top / 4096 = tag := by omega
    have E : stepF zs c = ({ c with nx := 0, word := 0, err := 7 }, zs.set 1 ((c.top / 4096 + 1) * 4096)) := by simp [stepF, e]
    rw [E]
    have hr0 : row = [] := List.length_eq_zero_iff.1 (by have := s.rlen; omega)
    subst hr0
    refine ⟨0, tag + 1, 0, [], ⟨by simpa using hlen, hn2, h2, by omega, by omega, ?_, by omega, rfl, fun i hi' => by simp at hi', ?_⟩, by omega, fun d hd => hd.tag_on, Or.inr (Or.inr (Or.inr (Or.inr ⟨rfl, by simp [Pushes, e], rfl, rfl, rfl⟩)))⟩
    · rw [getD_set_eq _ _ _ (by omega), hd]; omega
    · simp only [still, if_pos, OwnOk]; rw [getD_set_ne _ _ _ _ (by omega)]; omega
end
end Go.Proofs.Yteaffpkmidaghaa
