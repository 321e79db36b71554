/- Calls that go on one behind the other: as of a row. -/
import Derived.Test.YteaffpkmidaghaaCi
namespace Go.Proofs.Yteaffpkmidaghaa
set_option linter.unusedVariables false
set_option linter.unusedSimpArgs false

theorem getD_set (zs : List Int) (i j : Nat) (x : Int) (hi : i < zs.length) : (zs.set i x).getD j 0 = if i = j then x else zs.getD j 0 := by
  simp only [List.getD, List.getElem?_set]
  by_cases h : i = j
  · subst h; simp [hi]
  · simp [h]
theorem getD_set_eq (zs : List Int) (i : Nat) (x : Int) (hi : i < zs.length) : (zs.set i x).getD i 0 = x := by rw [getD_set zs i i x hi, if_pos rfl]
theorem getD_set_ne (zs : List Int) (i j : Nat) (x : Int) (h : i ≠ j) : (zs.set i x).getD j 0 = zs.getD j 0 := by
  simp [List.getD, List.getElem?_set, h]

theorem Runs.next {n : Nat} {zs zs1 zs' : List Int} {c c1 c' : Cl} (f : Fit zs c) (e : stepF zs c = (c1, zs1)) (h : c1.nx ≠ 0) (r : Runs n zs1 c1 zs' c') : Runs (n + 1) zs c zs' c' := by
  refine Runs.more f (by rw [e]; exact h) ?_
  rw [e]; exact r
theorem Runs.last {zs zs1 : List Int} {c c1 : Cl} (f : Fit zs c) (e : stepF zs c = (c1, zs1)) (h : c1.nx = 0) : Runs 1 zs c zs1 c1 := by
  have := Runs.one f (by rw [e]; exact h)
  rw [e] at this; exact this

theorem fit_of {zs : List Int} {c : Cl} {n : Nat} {b x : Int} (hl : zs.length = n + 2) (h2 : 2 ≤ n) (h3 : n ≤ 1024) (hw : 0 ≤ c.who ∧ c.who < 64) (hb : zs.getD 0 0 = b) (hb' : 0 ≤ b ∧ b ≤ n) (hx : zs.getD 1 0 = x) (hx' : 0 ≤ x ∧ x < 4398046511104)
    (ht : 0 ≤ c.top ∧ c.top < 4398046511104) (hp : 0 ≤ c.place ∧ c.place ≤ n) (lt : c.nx = 33 ∨ c.nx = 38 ∨ c.nx = 39 ∨ c.nx = 40 → c.place < n)
    (kn : c.nx = 25 ∨ c.nx = 33 ∨ c.nx = 38 ∨ c.nx = 26 ∨ c.nx = 34 ∨ c.nx = 39 ∨ c.nx = 45 ∨ c.nx = 49 ∨ c.nx = 54 ∨ c.nx = 53 ∨ c.nx = 27 ∨ c.nx = 35 ∨ c.nx = 40 ∨ c.nx = 46) : Fit zs c :=
  ⟨by omega, by omega, hw.1, hw.2, by omega, by omega, by omega, by omega, ht.1, ht.2, hp.1, by omega, fun h => by have := lt h; omega, kn⟩

/-- A deque that nobody has a call of: its room, the top's place and tag, and what stands in it. -/
structure Q (zs : List Int) (n t g : Nat) (row : List Int) : Prop where
  len : zs.length = n + 2
  n2 : 2 ≤ n
  n' : n ≤ 1024
  bot : zs.getD 0 0 = (t : Int) + row.length
  fits : t + row.length ≤ n
  top : zs.getD 1 0 = (t : Int) + 4096 * (g : Int)
  tag : g ≤ 100000
  row_ : ∀ i, i < row.length → zs.getD (t + i + 2) 0 = row.getD i 0

theorem Q.new (n : Nat) (h1 : 2 ≤ n) (h2 : n ≤ 1024) : Q (List.replicate (n + 2) 0) n 0 0 [] :=
  ⟨by simp, h1, h2, by simp [List.getD], by simp, by simp [List.getD], by omega, fun i hi => by simp at hi⟩

section
variable {zs : List Int} {n t g : Nat} {row : List Int}
theorem Q.row_of (q : Q zs n t g row) : rowOf zs = row := by
  have e1 : zs.getD 1 0 % 4096 = t := by rw [q.top]; have := q.fits; have := q.n'; omega
  have e0 := q.bot
  unfold rowOf
  rw [e1, e0]
  have hk : ((t : Int) + row.length).toNat - (t : Int).toNat = row.length := by omega
  rw [hk]
  apply List.ext_getElem?
  intro i
  rw [List.getElem?_take]
  by_cases hi : i < row.length
  · have := q.row_ i hi
    have hl := q.len
    have hf := q.fits
    have h1 : t + i + 2 < zs.length := by omega
    simp only [List.getD, List.getElem?_eq_getElem h1, List.getElem?_eq_getElem hi, Option.getD_some] at this
    have e2 : (t : Int).toNat + 2 + i = t + i + 2 := by omega
    rw [if_pos hi, List.getElem?_drop, e2, List.getElem?_eq_getElem h1, List.getElem?_eq_getElem hi, this]
  · rw [if_neg hi, List.getElem?_eq_none (by omega)]

theorem Q.topb (q : Q zs n t g row) : 0 ≤ zs.getD 1 0 ∧ zs.getD 1 0 < 4398046511104 := by
  have := q.top; have := q.fits; have := q.n'; have := q.tag; omega

theorem push_ok (q : Q zs n t g row) (h : t + row.length < n) (x : Int) : ∃ zs' cl', Runs 3 zs ⟨0, 25, 0, 0, x, 0⟩ zs' cl' ∧ cl'.err = 0 ∧ Q zs' n t g (row ++ [x]) := by
  obtain ⟨b, hb⟩ : ∃ b, t + row.length = b := ⟨_, rfl⟩
  have hl := q.len
  have h2 := q.n2
  have h3 := q.n'
  have ht := q.topb
  have hbot : zs.getD 0 0 = (b : Int) := by rw [q.bot]; omega
  have f1 : Fit zs ⟨0, 25, 0, 0, x, 0⟩ := fit_of hl h2 h3 (by simp) hbot (by omega) rfl ht (by simp) (by simp) (by simp) (by simp)
  have f2 : Fit zs ⟨0, 33, b, 0, x, 0⟩ := fit_of hl h2 h3 (by simp) hbot (by omega) rfl ht (by simp) (by simp <;> omega) (by simp <;> omega) (by simp)
  have f3 : Fit (zs.set (b + 2) x) ⟨0, 38, b, 0, x, 0⟩ := fit_of (by simpa using hl) h2 h3 (by simp) ((getD_set_ne _ _ _ _ (by omega)).trans hbot) (by omega) (getD_set_ne _ _ _ _ (by omega)) ht (by simp) (by simp <;> omega) (by simp <;> omega) (by simp)
  refine ⟨(zs.set (b + 2) x).set 0 ((b : Int) + 1), ⟨0, 0, b, 0, 0, 0⟩, Runs.next (c1 := ⟨0, 33, b, 0, x, 0⟩) (zs1 := zs) f1 ?_ (by simp) (Runs.next (c1 := ⟨0, 38, b, 0, x, 0⟩) (zs1 := zs.set (b + 2) x) f2 (by simp [stepF]) (by simp) (Runs.last f3 (by simp [stepF]) rfl)), rfl, ?_⟩
  · have : ¬ ((zs.length : Int) - 2 ≤ b) := by omega
    simp only [stepF, hbot, if_neg this]; simp
  · have hbl : b + 2 < zs.length := by omega
    refine ⟨by simp [hl], h2, h3, ?_, by simp <;> omega, ?_, q.tag, fun i hi => ?_⟩
    · rw [getD_set_eq _ _ _ (by simp <;> omega)]; simp; omega
    · rw [getD_set_ne _ _ _ _ (by omega), getD_set_ne _ _ _ _ (by omega)]; exact q.top
    · rw [getD_set_ne _ _ _ _ (by omega)]
      simp at hi
      by_cases hi' : i < row.length
      · rw [getD_set_ne _ _ _ _ (by omega), q.row_ i hi']
        simp [List.getD, List.getElem?_append, hi']
      · have : i = row.length := by omega
        subst this
        have e : t + row.length + 2 = b + 2 := by omega
        rw [e, getD_set_eq _ _ _ hbl]
        simp [List.getD]
theorem push_full (q : Q zs n t g row) (h : t + row.length = n) (x : Int) : ∃ cl', Runs 1 zs ⟨0, 25, 0, 0, x, 0⟩ zs cl' ∧ cl'.err = 6 := by
  have hl := q.len
  have ht := q.topb
  have hbot : zs.getD 0 0 = (n : Int) := by rw [q.bot]; omega
  have f1 : Fit zs ⟨0, 25, 0, 0, x, 0⟩ := fit_of hl q.n2 q.n' (by simp) hbot (by omega) rfl ht (by simp) (by simp) (by simp) (by simp)
  refine ⟨⟨0, 0, n, 0, 0, 6⟩, Runs.last f1 ?_ rfl, rfl⟩
  have : ((zs.length : Int) - 2 ≤ n) := by omega
  simp only [stepF, hbot, if_pos this]; simp
theorem pop_zero (q : Q zs n 0 g []) : ∃ cl', Runs 1 zs ⟨0, 26, 0, 0, 0, 0⟩ zs cl' ∧ cl'.word = 0 ∧ cl'.err = 7 := by
  have hl := q.len
  have ht := q.topb
  have hbot : zs.getD 0 0 = 0 := by rw [q.bot]; simp
  have f1 : Fit zs ⟨0, 26, 0, 0, 0, 0⟩ := fit_of hl q.n2 q.n' (by simp) hbot (by omega) rfl ht (by simp) (by simp) (by simp) (by simp)
  exact ⟨⟨0, 0, 0, 0, 0, 7⟩, Runs.last f1 (by simp only [stepF, hbot]; simp) rfl, rfl, rfl⟩

/-- The first four steps of a pop. -/
theorem pop_head (q : Q zs n t g row) (b : Nat) (hb : t + row.length = b + 1) (y : Int) (hy : zs.getD (b + 2) 0 = y) {m : Nat} {zs' : List Int} {cl' : Cl} (c4 : Cl) (he : stepF (zs.set 0 (b : Int)) ⟨0, 45, b, 0, y, 0⟩ = (c4, zs.set 0 (b : Int))) (h0 : c4.nx ≠ 0) (r : Runs m (zs.set 0 (b : Int)) c4 zs' cl') :
    Runs (m + 4) zs ⟨0, 26, 0, 0, 0, 0⟩ zs' cl' := by
  have hl := q.len
  have h2 := q.n2
  have h3 := q.n'
  have hf := q.fits
  have ht := q.topb
  have hbot : zs.getD 0 0 = (b : Int) + 1 := by rw [q.bot]; omega
  have hbot' : (zs.set 0 (b : Int)).getD 0 0 = (b : Int) := getD_set_eq _ _ _ (by omega)
  have f1 : Fit zs ⟨0, 26, 0, 0, 0, 0⟩ := fit_of hl h2 h3 (by simp) hbot (by omega) rfl ht (by simp) (by simp) (by simp) (by simp)
  have f2 : Fit zs ⟨0, 34, b, 0, 0, 0⟩ := fit_of hl h2 h3 (by simp) hbot (by omega) rfl ht (by simp) (by simp <;> omega) (by simp) (by simp)
  have f3 : Fit (zs.set 0 (b : Int)) ⟨0, 39, b, 0, 0, 0⟩ := fit_of (by simpa using hl) h2 h3 (by simp) hbot' (by omega) (getD_set_ne _ _ _ _ (by omega)) ht (by simp) (by simp <;> omega) (by simp <;> omega) (by simp)
  have f4 : Fit (zs.set 0 (b : Int)) ⟨0, 45, b, 0, y, 0⟩ := fit_of (by simpa using hl) h2 h3 (by simp) hbot' (by omega) (getD_set_ne _ _ _ _ (by omega)) ht (by simp) (by simp <;> omega) (by simp) (by simp)
  have h10 : ¬ ((b : Int) + 1 = 0) := by omega
  refine Runs.next (c1 := ⟨0, 34, b, 0, 0, 0⟩) (zs1 := zs) f1 ?_ (by simp) (Runs.next (c1 := ⟨0, 39, b, 0, 0, 0⟩) (zs1 := zs.set 0 (b : Int)) f2 (by simp [stepF]) (by simp) (Runs.next (c1 := ⟨0, 45, b, 0, y, 0⟩) (zs1 := zs.set 0 (b : Int)) f3 ?_ (by simp) (Runs.next f4 he h0 r)))
  · simp only [stepF, hbot, if_neg h10]; simp
  · have : (zs.set 0 (b : Int)).getD (b + 2) 0 = y := by rw [getD_set_ne _ _ _ _ (by omega)]; exact hy
    simp only [stepF, Int.toNat_natCast, this]; simp
theorem pop_one {r : List Int} {y : Int} (q : Q zs n t g (r ++ [y])) (hr : 0 < r.length) : ∃ zs' cl', Runs 4 zs ⟨0, 26, 0, 0, 0, 0⟩ zs' cl' ∧ cl'.word = y ∧ cl'.err = 0 ∧ Q zs' n t g r := by
  obtain ⟨b, hb⟩ : ∃ b, t + r.length = b := ⟨_, rfl⟩
  have hl := q.len
  have h2 := q.n2
  have h3 := q.n'
  have hf := q.fits
  simp at hf
  have ht := q.topb
  have hbot : zs.getD 0 0 = (b : Int) + 1 := by rw [q.bot]; simp; omega
  have hbot' : (zs.set 0 (b : Int)).getD 0 0 = (b : Int) := getD_set_eq _ _ _ (by omega)
  have hy : zs.getD (b + 2) 0 = y := by
    have := q.row_ r.length (by simp)
    rw [show t + r.length + 2 = b + 2 by omega] at this
    rw [this]; simp [List.getD]
  have f1 : Fit zs ⟨0, 26, 0, 0, 0, 0⟩ := fit_of hl h2 h3 (by simp) hbot (by omega) rfl ht (by simp) (by simp) (by simp) (by simp)
  have f2 : Fit zs ⟨0, 34, b, 0, 0, 0⟩ := fit_of hl h2 h3 (by simp) hbot (by omega) rfl ht (by simp) (by simp <;> omega) (by simp) (by simp)
  have f3 : Fit (zs.set 0 (b : Int)) ⟨0, 39, b, 0, 0, 0⟩ := fit_of (by simpa using hl) h2 h3 (by simp) hbot' (by omega) (getD_set_ne _ _ _ _ (by omega)) ht (by simp) (by simp <;> omega) (by simp <;> omega) (by simp)
  have f4 : Fit (zs.set 0 (b : Int)) ⟨0, 45, b, 0, y, 0⟩ := fit_of (by simpa using hl) h2 h3 (by simp) hbot' (by omega) (getD_set_ne _ _ _ _ (by omega)) ht (by simp) (by simp <;> omega) (by simp) (by simp)
  have h10 : ¬ ((b : Int) + 1 = 0) := by omega
  have htop : (zs.set 0 (b : Int)).getD 1 0 = (t : Int) + 4096 * (g : Int) := by rw [getD_set_ne _ _ _ _ (by omega)]; exact q.top
  refine ⟨zs.set 0 (b : Int), ⟨0, 0, b, (t : Int) + 4096 * (g : Int), y, 0⟩, Runs.next (c1 := ⟨0, 34, b, 0, 0, 0⟩) (zs1 := zs) f1 ?_ (by simp) (Runs.next (c1 := ⟨0, 39, b, 0, 0, 0⟩) (zs1 := zs.set 0 (b : Int)) f2 (by simp [stepF]) (by simp) (Runs.next (c1 := ⟨0, 45, b, 0, y, 0⟩) (zs1 := zs.set 0 (b : Int)) f3 ?_ (by simp) (Runs.last f4 ?_ rfl))), rfl, rfl, ?_⟩
  · simp only [stepF, hbot, if_neg h10]; simp
  · have : (zs.set 0 (b : Int)).getD (b + 2) 0 = y := by rw [getD_set_ne _ _ _ _ (by omega)]; exact hy
    simp only [stepF, Int.toNat_natCast, this]; simp
  · have : ((t : Int) + 4096 * (g : Int)) % 4096 < (b : Int) := by omega
    simp only [stepF, htop, if_pos this]; simp
  · refine ⟨by simpa using hl, h2, h3, by rw [hbot']; omega, by omega, htop, q.tag, fun i hi => ?_⟩
    rw [getD_set_ne _ _ _ _ (by omega), q.row_ i (by simp <;> omega)]
    simp [List.getD, List.getElem?_append, hi]
theorem pop_last {y : Int} (q : Q zs n t g [y]) (hg : g < 100000) : ∃ zs' cl', Runs 6 zs ⟨0, 26, 0, 0, 0, 0⟩ zs' cl' ∧ cl'.word = y ∧ cl'.err = 0 ∧ Q zs' n 0 (g + 1) [] := by
  have hl := q.len
  have h2 := q.n2
  have h3 := q.n'
  have hf := q.fits
  simp at hf
  have ht := q.topb
  have hbot' : (zs.set 0 (t : Int)).getD 0 0 = (t : Int) := getD_set_eq _ _ _ (by omega)
  have hy : zs.getD (t + 2) 0 = y := by have := q.row_ 0 (by simp); simpa using this
  obtain ⟨x, hx⟩ : ∃ x : Int, (t : Int) + 4096 * (g : Int) = x := ⟨_, rfl⟩
  have hxm : x % 4096 = t := by omega
  have hxd : x / 4096 = g := by omega
  have htop : (zs.set 0 (t : Int)).getD 1 0 = x := by rw [getD_set_ne _ _ _ _ (by omega), q.top, hx]
  have hx' : 0 ≤ x ∧ x < 4398046511104 := by have := q.tag; omega
  have e5 : (zs.set 0 (t : Int)).set 0 0 = zs.set 0 0 := by simp
  have hbot0 : (zs.set 0 0).getD 0 0 = 0 := getD_set_eq _ _ _ (by omega)
  have htop0 : (zs.set 0 0).getD 1 0 = x := by rw [getD_set_ne _ _ _ _ (by omega), q.top, hx]
  have f5 : Fit (zs.set 0 (t : Int)) ⟨0, 49, t, x, y, 0⟩ := fit_of (by simpa using hl) h2 h3 (by simp) hbot' (by omega) htop hx' hx' (by simp <;> omega) (by simp) (by simp)
  have f6 : Fit (zs.set 0 0) ⟨0, 54, t, x, y, 0⟩ := fit_of (by simpa using hl) h2 h3 (by simp) hbot0 (by omega) htop0 hx' hx' (by simp <;> omega) (by simp) (by simp)
  refine ⟨(zs.set 0 0).set 1 ((x / 4096 + 1) * 4096), ⟨0, 0, t, x, y, 0⟩, pop_head (m := 2) q t (by simp) y hy ⟨0, 49, t, x, y, 0⟩ ?_ (by simp) (Runs.next (c1 := ⟨0, 54, t, x, y, 0⟩) (zs1 := zs.set 0 0) f5 ?_ (by simp) (Runs.last f6 ?_ rfl)), rfl, rfl, ?_⟩
  · simp only [stepF, htop, hxm]; simp
  · simp only [stepF, hxm, e5]; simp
  · simp only [stepF, htop0]; simp
  · refine ⟨by simpa using hl, h2, h3, by rw [getD_set_ne _ _ _ _ (by omega), hbot0]; simp, by simp, ?_, by omega, fun i hi => by simp at hi⟩
    rw [getD_set_eq _ _ _ (by simp <;> omega), hxd]; omega
theorem pop_none (q : Q zs n t g []) (h0 : 0 < t) (hg : g < 100000) : ∃ zs' cl', Runs 6 zs ⟨0, 26, 0, 0, 0, 0⟩ zs' cl' ∧ cl'.word = 0 ∧ cl'.err = 7 ∧ Q zs' n 0 (g + 1) [] := by
  obtain ⟨b, hb⟩ : ∃ b, t = b + 1 := ⟨t - 1, by omega⟩
  have hl := q.len
  have h2 := q.n2
  have h3 := q.n'
  have hf := q.fits
  simp at hf
  have ht := q.topb
  have hbot' : (zs.set 0 (b : Int)).getD 0 0 = (b : Int) := getD_set_eq _ _ _ (by omega)
  obtain ⟨y, hy⟩ : ∃ y, zs.getD (b + 2) 0 = y := ⟨_, rfl⟩
  obtain ⟨x, hx⟩ : ∃ x : Int, (t : Int) + 4096 * (g : Int) = x := ⟨_, rfl⟩
  have hxm : x % 4096 = t := by omega
  have hxd : x / 4096 = g := by omega
  have htop : (zs.set 0 (b : Int)).getD 1 0 = x := by rw [getD_set_ne _ _ _ _ (by omega), q.top, hx]
  have hx' : 0 ≤ x ∧ x < 4398046511104 := by have := q.tag; omega
  have e5 : (zs.set 0 (b : Int)).set 0 0 = zs.set 0 0 := by simp
  have hbot0 : (zs.set 0 0).getD 0 0 = 0 := getD_set_eq _ _ _ (by omega)
  have htop0 : (zs.set 0 0).getD 1 0 = x := by rw [getD_set_ne _ _ _ _ (by omega), q.top, hx]
  have f5 : Fit (zs.set 0 (b : Int)) ⟨0, 49, b, x, y, 0⟩ := fit_of (by simpa using hl) h2 h3 (by simp) hbot' (by omega) htop hx' hx' (by simp <;> omega) (by simp) (by simp)
  have f6 : Fit (zs.set 0 0) ⟨0, 53, b, x, y, 0⟩ := fit_of (by simpa using hl) h2 h3 (by simp) hbot0 (by omega) htop0 hx' hx' (by simp <;> omega) (by simp) (by simp)
  have n1 : ¬ ((t : Int) < (b : Int)) := by omega
  have n2 : ¬ ((b : Int) = (t : Int)) := by omega
  refine ⟨(zs.set 0 0).set 1 ((x / 4096 + 1) * 4096), ⟨0, 0, b, x, 0, 7⟩, pop_head (m := 2) q b (by simp <;> omega) y hy ⟨0, 49, b, x, y, 0⟩ ?_ (by simp) (Runs.next (c1 := ⟨0, 53, b, x, y, 0⟩) (zs1 := zs.set 0 0) f5 ?_ (by simp) (Runs.last f6 ?_ rfl)), rfl, rfl, ?_⟩
  · simp only [stepF, htop, hxm, if_neg n1]; simp
  · simp only [stepF, hxm, e5, if_neg n2]; simp
  · simp only [stepF]; simp
  · refine ⟨by simpa using hl, h2, h3, by rw [getD_set_ne _ _ _ _ (by omega), hbot0]; simp, by simp, ?_, by omega, fun i hi => by simp at hi⟩
    rw [getD_set_eq _ _ _ (by simp <;> omega), hxd]; omega
theorem steal_none (q : Q zs n t g []) (k : Int) (hk : 0 ≤ k ∧ k < 64) : ∃ cl', Runs 2 zs ⟨k, 27, 0, 0, 0, 0⟩ zs cl' ∧ cl'.word = 0 ∧ cl'.err = 7 := by
  have hl := q.len
  have h2 := q.n2
  have h3 := q.n'
  have hf := q.fits
  simp at hf
  have ht := q.topb
  have hbot : zs.getD 0 0 = (t : Int) := by rw [q.bot]; simp
  obtain ⟨x, hx⟩ : ∃ x : Int, (t : Int) + 4096 * (g : Int) = x := ⟨_, rfl⟩
  have hxm : x % 4096 = t := by omega
  have htop : zs.getD 1 0 = x := by rw [q.top, hx]
  have hx' : 0 ≤ x ∧ x < 4398046511104 := by have := q.tag; omega
  have f1 : Fit zs ⟨k, 27, 0, 0, 0, 0⟩ := fit_of hl h2 h3 hk hbot (by omega) htop hx' (by simp) (by simp) (by simp) (by simp)
  have f2 : Fit zs ⟨k, 35, t, x, 0, 0⟩ := fit_of hl h2 h3 hk hbot (by omega) htop hx' hx' (by simp <;> omega) (by simp) (by simp)
  refine ⟨⟨k, 0, t, x, 0, 7⟩, Runs.next (c1 := ⟨k, 35, t, x, 0, 0⟩) (zs1 := zs) f1 ?_ (by simp) (Runs.last f2 ?_ rfl), rfl, rfl⟩
  · simp only [stepF, htop, hxm]; simp
  · simp only [stepF, hbot]; simp
theorem steal_one {y : Int} {r : List Int} (q : Q zs n t g (y :: r)) (k : Int) (hk : 0 ≤ k ∧ k < 64) : ∃ zs' cl', Runs 4 zs ⟨k, 27, 0, 0, 0, 0⟩ zs' cl' ∧ cl'.word = y ∧ cl'.err = 0 ∧ Q zs' n (t + 1) g r := by
  have hl := q.len
  have h2 := q.n2
  have h3 := q.n'
  have hf := q.fits
  simp at hf
  have ht := q.topb
  obtain ⟨b, hb⟩ : ∃ b : Nat, t + (r.length + 1) = b := ⟨_, rfl⟩
  have hbot : zs.getD 0 0 = (b : Int) := by rw [q.bot]; simp; omega
  obtain ⟨x, hx⟩ : ∃ x : Int, (t : Int) + 4096 * (g : Int) = x := ⟨_, rfl⟩
  have hxm : x % 4096 = t := by omega
  have hxd : x / 4096 = g := by omega
  have htop : zs.getD 1 0 = x := by rw [q.top, hx]
  have hy : zs.getD (t + 2) 0 = y := by have := q.row_ 0 (by simp); simpa using this
  have hx' : 0 ≤ x ∧ x < 4398046511104 := by have := q.tag; omega
  have f1 : Fit zs ⟨k, 27, 0, 0, 0, 0⟩ := fit_of hl h2 h3 hk hbot (by omega) htop hx' (by simp) (by simp) (by simp) (by simp)
  have f2 : Fit zs ⟨k, 35, t, x, 0, 0⟩ := fit_of hl h2 h3 hk hbot (by omega) htop hx' hx' (by simp <;> omega) (by simp) (by simp)
  have f3 : Fit zs ⟨k, 40, t, x, 0, 0⟩ := fit_of hl h2 h3 hk hbot (by omega) htop hx' hx' (by simp <;> omega) (by simp <;> omega) (by simp)
  have f4 : Fit zs ⟨k, 46, t, x, y, 0⟩ := fit_of hl h2 h3 hk hbot (by omega) htop hx' hx' (by simp <;> omega) (by simp) (by simp)
  have n1 : ¬ ((b : Int) ≤ (t : Int)) := by omega
  refine ⟨zs.set 1 ((t : Int) + 1 + x / 4096 * 4096), ⟨k, 0, t, x, y, 0⟩, Runs.next (c1 := ⟨k, 35, t, x, 0, 0⟩) (zs1 := zs) f1 ?_ (by simp) (Runs.next (c1 := ⟨k, 40, t, x, 0, 0⟩) (zs1 := zs) f2 ?_ (by simp) (Runs.next (c1 := ⟨k, 46, t, x, y, 0⟩) (zs1 := zs) f3 ?_ (by simp) (Runs.last f4 ?_ rfl))), rfl, rfl, ?_⟩
  · simp only [stepF, htop, hxm]; simp
  · simp only [stepF, hbot, if_neg n1]; simp
  · simp only [stepF, Int.toNat_natCast, hy]; simp
  · simp only [stepF, htop]; simp
  · refine ⟨by simpa using hl, h2, h3, by rw [getD_set_ne _ _ _ _ (by omega), hbot]; omega, by omega, ?_, q.tag, fun i hi => ?_⟩
    · rw [getD_set_eq _ _ _ (by omega), hxd]; omega
    · rw [getD_set_ne _ _ _ _ (by omega)]
      have := q.row_ (i + 1) (by simp <;> omega)
      rw [show t + (i + 1) + 2 = t + 1 + i + 2 by omega] at this
      rw [this]; simp [List.getD]
end
end Go.Proofs.Yteaffpkmidaghaa
