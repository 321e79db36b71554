/- What an Alloc takes: a part of a buffer, or of what stands behind the objects; plain facts on rows of objects. -/
import Derived.Test.YtibfhpbklnpknaaAlSum
namespace Go.Proofs.Ytibfhpbklnpknaa
open Go.RowKit
set_option linter.unusedVariables false
set_option linter.unusedSimpArgs false

/-- The head's word of the object that begins at an address. -/
def wordAt (obs : List Ob) (a : Int) : Option Int := (look obs a).map fun x => x.2.1.1

theorem wordAt_here (pre : List Ob) (o : Ob) (post : List Ob) : wordAt (pre ++ o :: post) ((flat pre).length : Nat) = some o.1 := by
  unfold wordAt; rw [look_here]; rfl
theorem wordAt_some {obs : List Ob} {a v : Int} (h : wordAt obs a = some v) : ∃ pre o post, obs = pre ++ o :: post ∧ a = ((flat pre).length : Nat) ∧ o.1 = v := by
  unfold wordAt at h
  rw [Option.map_eq_some_iff] at h
  obtain ⟨x, hx, rfl⟩ := h
  obtain ⟨e, ea⟩ := look_some _ _ _ hx
  exact ⟨_, _, _, e, ea, rfl⟩
theorem wordAt_is {obs : List Ob} {a v : Int} (h : wordAt obs a = some v) : (look obs a).isSome = true := by
  unfold wordAt at h
  cases hl : look obs a with
  | none => rw [hl] at h; cases h
  | some x => rfl
theorem wordAt_more {obs : List Ob} {a v : Int} (x : List Ob) (h : wordAt obs a = some v) : wordAt (obs ++ x) a = some v := by
  obtain ⟨pre, o, post, rfl, rfl, rfl⟩ := wordAt_some h
  rw [List.append_assoc, List.cons_append]
  exact wordAt_here _ _ _
theorem wordAt_swap {pre post r : List Ob} {o x : Ob} {a v : Int} (h : wordAt (pre ++ o :: post) a = some v) (ha : a ≠ ((flat pre).length : Nat)) (hl : (flat (x :: r)).length = 1 + o.2.length) : wordAt (pre ++ x :: (r ++ post)) a = some v := by
  obtain ⟨p, y, q, he, rfl, rfl⟩ := wordAt_some h
  rcases List.append_eq_append_iff.1 he with ⟨t, e1, e2⟩ | ⟨t, e1, e2⟩
  · cases t with
    | nil => simp at e1; exact absurd (by rw [e1]) ha
    | cons z t =>
      simp at e2
      obtain ⟨rfl, rfl⟩ := e2
      have := wordAt_here (pre ++ x :: (r ++ t)) y q
      have e : ((flat (pre ++ x :: (r ++ t))).length : Nat) = (flat p).length := by
        rw [e1]
        simp [flat_append, flat_cons] at hl ⊢
        omega
      rw [e] at this
      simpa using this
  · cases t with
    | nil => simp at e1; exact absurd (by rw [e1]) ha
    | cons z t =>
      simp at e2
      obtain ⟨rfl, rfl⟩ := e2
      have := wordAt_here p y (t ++ x :: (r ++ post))
      rw [e1]
      simpa using this
theorem wordAt_in {pre post : List Ob} {o : Ob} {a : Int} (h1 : ((flat pre).length : Int) < a) (h2 : a < ((flat pre).length : Int) + (1 + o.2.length)) : wordAt (pre ++ o :: post) a = none := by
  cases h : wordAt (pre ++ o :: post) a with
  | none => rfl
  | some v =>
    obtain ⟨p, y, q, he, rfl, rfl⟩ := wordAt_some h
    rcases List.append_eq_append_iff.1 he with ⟨t, e1, e2⟩ | ⟨t, e1, e2⟩
    · cases t with
      | nil => simp at e1; rw [e1] at h1; omega
      | cons z t =>
        simp at e2
        obtain ⟨rfl, rfl⟩ := e2
        rw [e1] at h2
        simp [flat_append, flat_cons] at h2
        omega
    · rw [e1] at h1
      simp [flat_append] at h1
      omega
theorem wordAt_end {obs : List Ob} {a : Int} (h : ((flat obs).length : Int) ≤ a) : wordAt obs a = none := by
  cases hw : wordAt obs a with
  | none => rfl
  | some v =>
    have := look_range (wordAt_is hw)
    omega

theorem getD_set (bs : List Int) (t i : Nat) (b : Int) : (bs.set t b).getD i 0 = if i = t ∧ t < bs.length then b else bs.getD i 0 := by
  simp only [List.getD_eq_getElem?_getD, List.getElem?_set]
  by_cases h : t = i
  · subst h
    by_cases h2 : t < bs.length
    · simp [h2]
    · simp [h2]
  · have h' : ¬ i = t := fun e => h e.symm
    simp [h, h']

/-- Each thread's buffer is a filler, and nobody else's. -/
structure Bufs (bs : List Int) (obs : List Ob) : Prop where
  fill : ∀ i, bs.getD i 0 ≠ 0 → ∃ v, wordAt obs (bs.getD i 0 - 1) = some v ∧ v % 16 = 15
  ne : ∀ i j, i ≠ j → bs.getD i 0 ≠ 0 → bs.getD i 0 ≠ bs.getD j 0

theorem Bufs.retire {bs : List Int} {obs : List Ob} (h : Bufs bs obs) (t : Nat) : Bufs (bs.set t 0) obs := by
  refine ⟨fun i hi => ?_, fun i j hij hi => ?_⟩
  · rw [getD_set] at hi ⊢
    split at hi
    · exact absurd rfl hi
    · rename_i hc; rw [if_neg hc]; exact h.fill i hi
  · rw [getD_set] at hi ⊢
    rw [getD_set]
    split at hi
    · exact absurd rfl hi
    · rename_i hc
      rw [if_neg hc]
      split
      · exact hi
      · exact h.ne i j hij hi
theorem Bufs.put {bs : List Int} {obs : List Ob} (h : Bufs bs obs) (t : Nat) (b v : Int) (hv : wordAt obs (b - 1) = some v) (hk : v % 16 = 15) (hb : b ≠ 0) (hn : ∀ j, j ≠ t → bs.getD j 0 ≠ b) : Bufs (bs.set t b) obs := by
  refine ⟨fun i hi => ?_, fun i j hij hi => ?_⟩
  · rw [getD_set] at hi ⊢
    split
    · exact ⟨v, hv, hk⟩
    · rename_i hc; rw [if_neg hc] at hi; exact h.fill i hi
  · rw [getD_set] at hi ⊢
    rw [getD_set]
    by_cases h1 : i = t ∧ t < bs.length
    · rw [if_pos h1]
      by_cases h2 : j = t ∧ t < bs.length
      · exact absurd (h1.1.trans h2.1.symm) hij
      · rw [if_neg h2]
        exact fun e => hn j (fun e2 => hij (h1.1.trans e2.symm)) e.symm
    · rw [if_neg h1] at hi ⊢
      by_cases h2 : j = t ∧ t < bs.length
      · rw [if_pos h2]
        exact hn i (fun e2 => h1 ⟨e2, h2.2⟩)
      · rw [if_neg h2]
        exact h.ne i j hij hi
theorem Bufs.turn {bs : List Int} {obs obs2 : List Ob} (h : Bufs bs obs) (hk : ∀ i v, bs.getD i 0 ≠ 0 → wordAt obs (bs.getD i 0 - 1) = some v → wordAt obs2 (bs.getD i 0 - 1) = some v) : Bufs bs obs2 :=
  ⟨fun i hi => by obtain ⟨v, h1, h2⟩ := h.fill i hi; exact ⟨v, hk i v hi h1, h2⟩, h.ne⟩

/-- Which words are taken by objects that are no fillers. -/
def mask (obs : List Ob) : List Bool := obs.flatMap fun o => List.replicate (1 + o.2.length) (o.1 % 16 != 15)
def full (obs : List Ob) (tail : List Int) : List Bool := mask obs ++ List.replicate tail.length false
theorem mask_append (a b : List Ob) : mask (a ++ b) = mask a ++ mask b := by simp [mask]
theorem mask_cons (o : Ob) (l : List Ob) : mask (o :: l) = List.replicate (1 + o.2.length) (o.1 % 16 != 15) ++ mask l := by simp [mask]
theorem mask_nil : mask [] = [] := rfl
theorem mask_length (l : List Ob) : (mask l).length = (flat l).length := by
  induction l with
  | nil => rfl
  | cons o l ih => simp [flat_cons, mask_cons, ih]; omega
theorem full_length (obs : List Ob) (tail : List Int) : (full obs tail).length = (flat obs ++ tail).length := by simp [full, mask_length]
theorem rep_split (m n : Nat) (b : Bool) : List.replicate (m + n) b = List.replicate m b ++ List.replicate n b := List.replicate_append_replicate.symm

/-- An object of noughts stands at r, where nothing was but a filler or what stands behind the objects. -/
structure Took (obs : List Ob) (tail : List Int) (bs2 : List Int) (obs2 : List Ob) (tail2 : List Int) (r k l p : Int) : Prop where
  parts : ∃ A C, full obs tail = A ++ (List.replicate (1 + l.toNat) false ++ C) ∧ full obs2 tail2 = A ++ (List.replicate (1 + l.toNat) true ++ C) ∧ (A.length : Int) = r
  here : ∃ pre post, obs2 = pre ++ (packW k l p, zeros l) :: post ∧ r = ((flat pre).length : Nat)
  keep : ∀ a v, wordAt obs a = some v → v % 16 ≠ 15 → wordAt obs2 a = some v
  bufs : Bufs bs2 obs2

theorem placed_took {bs : List Int} {obs : List Ob} {tail : List Int} {k l p : Int} (hB : Bufs bs obs) (hg : goodB k l p = true) (hk : k ≠ 15) (hr : 1 + l.toNat ≤ tail.length) :
    Took obs tail bs (obs ++ [(packW k l p, zeros l)]) (tail.drop (1 + l.toNat)) ((flat obs).length : Nat) k l p := by
  have hkind : (packW k l p % 16 != 15) = true := by rw [(head_pack hg).2.1]; simp [hk]
  refine ⟨⟨mask obs, List.replicate (tail.length - (1 + l.toNat)) false, ?_, ?_, by rw [mask_length]⟩, ⟨obs, [], rfl, rfl⟩, fun a v h _ => wordAt_more _ h, hB.turn fun i v _ h => wordAt_more _ h⟩
  · unfold full
    rw [← rep_split]
    congr 2
    omega
  · unfold full
    rw [mask_append, mask_cons, mask_nil, hkind, List.append_nil, List.append_assoc]
    simp [zeros]

theorem cut_took {bs : List Int} {obs : List Ob} (tail : List Int) {t : Nat} {k l p : Int} (hf : Fine obs) (hB : Bufs bs obs) (hg : goodB k l p = true) (hk : k ≠ 15) (hb : bs.getD t 0 ≠ 0) (hl : 1 + l ≤ leftF bs obs t) :
    Took obs tail (cutF bs obs t k l p).2.1 (cutF bs obs t k l p).2.2 tail (cutF bs obs t k l p).1 k l p := by
  have hkind : (packW k l p % 16 != 15) = true := by rw [(head_pack hg).2.1]; simp [hk]
  have ht : t < bs.length := by
    rcases Nat.lt_or_ge t bs.length with h | h
    · exact h
    · exact absurd (by simp [List.getD, h]) hb
  obtain ⟨v, hv, hv15⟩ := hB.fill t hb
  obtain ⟨pre, o, post, rfl, ha, rfl⟩ := wordAt_some hv
  have hlook := look_here pre o post
  rw [← ha] at hlook
  have l0 := ((good_iff k l p).1 hg).2.2.1
  have hL : 1 + l ≤ 1 + o.1 / 65536 := by
    unfold leftF headF at hl
    rw [if_neg hb, hlook] at hl
    exact hl
  have hlen := hf.right.head.2
  have h0 := head_nn hf.right.head.1
  have hle := len_le hf.right.head.1
  unfold lenOf at hlen hle
  have others : ∀ i, i ≠ t → bs.getD i 0 ≠ 0 → bs.getD i 0 - 1 ≠ ((flat pre).length : Nat) := fun i hi h1 h2 => hB.ne i t hi h1 (by omega)
  by_cases heq : o.1 / 65536 = l
  · have e3 : splitF (pre ++ o :: post) (bs.getD t 0 - 1) k l p = (0, 0, pre ++ (packW k l p, zeros l) :: post) := by
      unfold splitF
      rw [hlook]
      simp only
      rw [if_neg (by omega), if_neg (by rw [hg]; simp), if_neg (by omega), if_pos heq]
    have hsw : ∀ a v, wordAt (pre ++ o :: post) a = some v → a ≠ ((flat pre).length : Nat) → wordAt (pre ++ (packW k l p, zeros l) :: post) a = some v := fun a v h1 h2 => by
      have := wordAt_swap (r := []) (x := (packW k l p, zeros l)) h1 h2 (by simp [flat_cons, flat_nil, zeros]; omega)
      simpa using this
    unfold cutF
    rw [e3]
    simp only [if_true]
    refine ⟨⟨mask pre, mask post ++ List.replicate tail.length false, ?_, ?_, by rw [mask_length, ha]⟩, ⟨pre, post, rfl, ha⟩, fun a v h1 h2 => hsw a v h1 (fun e => ?_), ?_⟩
    · unfold full
      rw [mask_append, mask_cons, List.append_assoc, List.append_assoc]
      have : (o.1 % 16 != 15) = false := by simp [hv15]
      rw [this]
      congr 3
      omega
    · unfold full
      rw [mask_append, mask_cons, hkind, List.append_assoc, List.append_assoc]
      simp [zeros]
    · rw [e] at h1
      rw [wordAt_here] at h1
      injection h1 with h1
      exact h2 (by rw [← h1]; exact hv15)
    · refine (hB.retire t).turn fun i v h1 h2 => ?_
      rw [getD_set] at h1 h2 ⊢
      by_cases hc : i = t ∧ t < bs.length
      · rw [if_pos hc] at h1; exact absurd rfl h1
      · rw [if_neg hc] at h1 h2 ⊢
        exact hsw _ v h2 (others i (fun e => hc ⟨e, ht⟩) h1)
  · have hgt : l < o.1 / 65536 := by omega
    have gm : goodB 15 (o.1 / 65536 - l - 1) 0 = true := good_yes (by omega)
    have e3 : splitF (pre ++ o :: post) (bs.getD t 0 - 1) k l p = (bs.getD t 0 - 1 + (1 + l), 0, pre ++ (packW k l p, zeros l) :: (packW 15 (o.1 / 65536 - l - 1) 0, zeros (o.1 / 65536 - l - 1)) :: post) := by
      unfold splitF
      rw [hlook]
      simp only
      rw [if_neg (by omega), if_neg (by rw [hg]; simp), if_neg (by omega), if_neg heq]
    have hsw : ∀ a v, wordAt (pre ++ o :: post) a = some v → a ≠ ((flat pre).length : Nat) → wordAt (pre ++ (packW k l p, zeros l) :: (packW 15 (o.1 / 65536 - l - 1) 0, zeros (o.1 / 65536 - l - 1)) :: post) a = some v := fun a v h1 h2 => by
      have := wordAt_swap (r := [(packW 15 (o.1 / 65536 - l - 1) 0, zeros (o.1 / 65536 - l - 1))]) (x := (packW k l p, zeros l)) h1 h2 (by simp [flat_cons, flat_nil, zeros]; omega)
      simpa using this
    unfold cutF
    rw [e3]
    simp only
    rw [if_neg (by omega)]
    refine ⟨⟨mask pre, List.replicate (o.2.length - l.toNat) false ++ (mask post ++ List.replicate tail.length false), ?_, ?_, by rw [mask_length, ha]⟩, ⟨pre, _, rfl, ha⟩, fun a v h1 h2 => hsw a v h1 (fun e => ?_), ?_⟩
    · unfold full
      rw [mask_append, mask_cons, List.append_assoc, List.append_assoc]
      have : (o.1 % 16 != 15) = false := by simp [hv15]
      have e9 : List.replicate (1 + o.2.length) false = List.replicate (1 + l.toNat) false ++ List.replicate (o.2.length - l.toNat) false := by
        rw [← rep_split]; congr 1; omega
      rw [this, e9]
      simp only [List.append_assoc]
    · unfold full
      rw [mask_append, mask_cons, mask_cons, hkind]
      have : (packW 15 (o.1 / 65536 - l - 1) 0 % 16 != 15) = false := by rw [(head_pack gm).2.1]; simp
      rw [this]
      simp only [List.append_assoc, zeros, List.length_replicate]
      congr 3
      congr 1
      omega
    · rw [e] at h1
      rw [wordAt_here] at h1
      injection h1 with h1
      exact h2 (by rw [← h1]; exact hv15)
    · have hrest : wordAt (pre ++ (packW k l p, zeros l) :: (packW 15 (o.1 / 65536 - l - 1) 0, zeros (o.1 / 65536 - l - 1)) :: post) (bs.getD t 0 - 1 + (1 + l) + 1 - 1) = some (packW 15 (o.1 / 65536 - l - 1) 0) := by
        have := wordAt_here (pre ++ [(packW k l p, zeros l)]) (packW 15 (o.1 / 65536 - l - 1) 0, zeros (o.1 / 65536 - l - 1)) post
        have e : (((flat (pre ++ [(packW k l p, zeros l)])).length : Nat) : Int) = bs.getD t 0 - 1 + (1 + l) + 1 - 1 := by
          rw [ha]
          simp [flat_append, flat_cons, flat_nil, zeros]
          omega
        rw [e] at this
        simpa using this
      have hB2 : Bufs (bs.set t 0) (pre ++ (packW k l p, zeros l) :: (packW 15 (o.1 / 65536 - l - 1) 0, zeros (o.1 / 65536 - l - 1)) :: post) := by
        refine (hB.retire t).turn fun i v h1 h2 => ?_
        rw [getD_set] at h1 h2 ⊢
        by_cases hc : i = t ∧ t < bs.length
        · rw [if_pos hc] at h1; exact absurd rfl h1
        · rw [if_neg hc] at h1 h2 ⊢
          exact hsw _ v h2 (others i (fun e => hc ⟨e, ht⟩) h1)
      have := hB2.put t (bs.getD t 0 - 1 + (1 + l) + 1) _ hrest (head_pack gm).2.1 (by omega) (fun j hj hjb => by
        rw [getD_set, if_neg (fun hc => hj hc.1)] at hjb
        obtain ⟨u, hu, _⟩ := hB.fill j (by rw [hjb]; omega)
        rw [wordAt_in (by omega) (by omega)] at hu
        cases hu)
      rwa [List.set_set] at this

theorem Took.after {obs obs1 obs2 : List Ob} {tail tail1 tail2 bs2 : List Int} {r k l p : Int} (h : Took obs1 tail1 bs2 obs2 tail2 r k l p) (hf : full obs1 tail1 = full obs tail) (hw : ∀ a v, wordAt obs a = some v → wordAt obs1 a = some v) : Took obs tail bs2 obs2 tail2 r k l p :=
  ⟨by obtain ⟨A, C, h1, h2, h3⟩ := h.parts; exact ⟨A, C, by rw [← hf]; exact h1, h2, h3⟩, h.here, fun a v h1 h2 => h.keep a v (hw a v h1) h2, h.bufs⟩

theorem renew_yes {size : Nat} {bs : List Int} {obs : List Ob} {tail : List Int} {t : Nat} (s1 : 8 ≤ size) (s2 : size ≤ 4096) (hB : Bufs bs obs) (ht : t < bs.length) (h : (renewF size bs obs tail t).1 = true) :
    Bufs (renewF size bs obs tail t).2.1 (renewF size bs obs tail t).2.2.1 ∧ full (renewF size bs obs tail t).2.2.1 (renewF size bs obs tail t).2.2.2 = full obs tail ∧ (∀ a v, wordAt obs a = some v → wordAt (renewF size bs obs tail t).2.2.1 a = some v) ∧
      (renewF size bs obs tail t).2.1.getD t 0 ≠ 0 ∧ leftF (renewF size bs obs tail t).2.1 (renewF size bs obs tail t).2.2.1 t = size := by
  have g15 : goodB 15 ((size : Int) - 1) 0 = true := good_yes (by omega)
  have hr : ¬ tail.length < 1 + ((size : Int) - 1).toNat := by
    intro hc
    have e0 : placeF obs tail 15 ((size : Int) - 1) 0 = (0, 6, obs, tail) := by
      unfold placeF
      rw [if_neg (by rw [g15]; simp), if_pos hc]
    unfold renewF at h
    rw [e0] at h
    simp at h
  have e1 : placeF obs tail 15 ((size : Int) - 1) 0 = ((((flat obs).length : Nat) : Int), 0, obs ++ [(packW 15 ((size : Int) - 1) 0, zeros ((size : Int) - 1))], tail.drop (1 + ((size : Int) - 1).toNat)) := by
    unfold placeF
    rw [if_neg (by rw [g15]; simp), if_neg hr]
  have e2 : renewF size bs obs tail t = (true, bs.set t ((((flat obs).length : Nat) : Int) + 1), obs ++ [(packW 15 ((size : Int) - 1) 0, zeros ((size : Int) - 1))], tail.drop (1 + ((size : Int) - 1).toNat)) := by
    unfold renewF
    rw [e1]
    rfl
  rw [e2]
  simp only
  have hw : wordAt (obs ++ [(packW 15 ((size : Int) - 1) 0, zeros ((size : Int) - 1))]) ((((flat obs).length : Nat) : Int) + 1 - 1) = some (packW 15 ((size : Int) - 1) 0) := by
    rw [Int.add_sub_cancel]
    exact wordAt_here obs _ []
  have hkind := (head_pack g15).2.1
  have eb : (bs.set t ((((flat obs).length : Nat) : Int) + 1)).getD t 0 = (((flat obs).length : Nat) : Int) + 1 := by rw [getD_set, if_pos ⟨rfl, ht⟩]
  refine ⟨?_, ?_, fun a v h1 => wordAt_more _ h1, by rw [eb]; omega, ?_⟩
  · refine (hB.turn fun i v _ h1 => wordAt_more _ h1).put t _ _ hw hkind (by omega) (fun j hj hjb => ?_)
    obtain ⟨u, hu, _⟩ := hB.fill j (by rw [hjb]; omega)
    rw [hjb, Int.add_sub_cancel, wordAt_end (Int.le_refl _)] at hu
    cases hu
  · unfold full
    have : (packW 15 ((size : Int) - 1) 0 % 16 != 15) = false := by rw [hkind]; simp
    rw [mask_append, mask_cons, mask_nil, this, List.append_nil, List.append_assoc, ← rep_split]
    congr 2
    simp [zeros]
    omega
  · unfold leftF headF
    rw [eb, if_neg (by omega), Int.add_sub_cancel]
    have hl := look_here obs (packW 15 ((size : Int) - 1) 0, zeros ((size : Int) - 1)) []
    rw [hl]
    simp only
    rw [(head_pack g15).2.2.1]
    omega
theorem renew_no {size : Nat} {bs : List Int} {obs : List Ob} {tail : List Int} {t : Nat} (hB : Bufs bs obs) (h : (renewF size bs obs tail t).1 = false) :
    Bufs (renewF size bs obs tail t).2.1 obs ∧ (renewF size bs obs tail t).2.2.1 = obs ∧ (renewF size bs obs tail t).2.2.2 = tail := by
  unfold renewF at h ⊢
  by_cases h0 : (placeF obs tail 15 ((size : Int) - 1) 0).2.1 = 0
  · rw [if_pos h0] at h; simp at h
  · rw [if_neg h0]
    simp only
    have : (placeF obs tail 15 ((size : Int) - 1) 0).2.2.1 = obs ∧ (placeF obs tail 15 ((size : Int) - 1) 0).2.2.2 = tail := by
      unfold placeF at h0 ⊢
      split
      · exact ⟨rfl, rfl⟩
      · split
        · exact ⟨rfl, rfl⟩
        · rename_i h1 h2; rw [if_neg h1, if_neg h2] at h0; exact absurd rfl h0
    exact ⟨hB.retire t, this.1, this.2⟩
theorem placeA_took {bs : List Int} {obs : List Ob} {tail : List Int} {k l p : Int} (hB : Bufs bs obs) (hg : goodB k l p = true) (hk : k ≠ 15) (h : (placeA obs tail k l p).2.1 = 0) :
    Took obs tail bs (placeA obs tail k l p).2.2.1 (placeA obs tail k l p).2.2.2 (placeA obs tail k l p).1 k l p := by
  unfold placeA placeF at h ⊢
  have hn : ¬ goodB k l p = false := by rw [hg]; simp
  rw [if_neg hn] at h ⊢
  by_cases hr : tail.length < 1 + l.toNat
  · rw [if_pos hr] at h; simp at h
  · rw [if_neg hr]
    exact placed_took hB hg hk (by omega)
theorem placeA_miss {obs : List Ob} {tail : List Int} {k l p : Int} (h : (placeA obs tail k l p).2.1 ≠ 0) : (placeA obs tail k l p).2.2.1 = obs ∧ (placeA obs tail k l p).2.2.2 = tail := by
  unfold placeA placeF at h ⊢
  by_cases hg : goodB k l p = false
  · rw [if_pos hg]; exact ⟨rfl, rfl⟩
  · rw [if_neg hg] at h ⊢
    by_cases hr : tail.length < 1 + l.toNat
    · rw [if_pos hr]; exact ⟨rfl, rfl⟩
    · rw [if_neg hr] at h; exact absurd rfl h

section
variable {size : Nat} {bs : List Int} {obs : List Ob} {tail : List Int} {t k l p : Int} (s1 : 8 ≤ size) (s2 : size ≤ 4096) (hf : Fine obs) (hB : Bufs bs obs)
include s1 s2 hf hB
theorem alloc_took (h : (allocF size bs obs tail t k l p).2.1 = 0) :
    Took obs tail (allocF size bs obs tail t k l p).2.2.1 (allocF size bs obs tail t k l p).2.2.2.1 (allocF size bs obs tail t k l p).2.2.2.2 (allocF size bs obs tail t k l p).1 k l p ∧ goodB k l p = true ∧ k ≠ 15 := by
  unfold allocF at h ⊢
  by_cases h1 : ¬ (0 ≤ t ∧ t < (bs.length : Int)) ∨ objB k l p = false
  · rw [if_pos h1] at h; simp at h
  · rw [if_neg h1] at h ⊢
    have ht : 0 ≤ t ∧ t < (bs.length : Int) := Classical.byContradiction fun hc => h1 (.inl hc)
    have ho : objB k l p = true := by
      cases hc : objB k l p with
      | false => exact absurd (.inr hc) h1
      | true => rfl
    have hg : goodB k l p = true ∧ k ≠ 15 := by unfold objB at ho; simpa using ho
    refine ⟨?_, hg.1, hg.2⟩
    have htn : t.toNat < bs.length := by omega
    by_cases h2 : (size : Int) / 2 < 1 + l
    · rw [if_pos h2] at h ⊢
      exact placeA_took hB hg.1 hg.2 h
    · rw [if_neg h2] at h ⊢
      by_cases h3 : leftF bs obs t.toNat < 1 + l
      · rw [if_pos h3] at h ⊢
        by_cases hr : (renewF size bs obs tail t.toNat).1 = false
        · rw [if_pos hr] at h ⊢
          obtain ⟨a1, a2, a3⟩ := renew_no hB hr
          rw [a2, a3] at h ⊢
          exact placeA_took a1 hg.1 hg.2 h
        · rw [if_neg hr]
          have hr : (renewF size bs obs tail t.toNat).1 = true := by simpa using hr
          obtain ⟨a1, a2, a3, a4, a5⟩ := renew_yes (tail := tail) s1 s2 hB htn hr
          exact (cut_took _ (fine_renew hf) a1 hg.1 hg.2 a4 (by rw [a5]; omega)).after a2 a3
      · rw [if_neg h3]
        refine cut_took _ hf hB hg.1 hg.2 (fun hc => h3 ?_) (by omega)
        unfold leftF
        rw [if_pos hc]
        have := ((good_iff k l p).1 hg.1).2.2.1
        omega
omit s1 s2 hf in
theorem alloc_miss (h : (allocF size bs obs tail t k l p).2.1 ≠ 0) :
    Bufs (allocF size bs obs tail t k l p).2.2.1 obs ∧ (allocF size bs obs tail t k l p).2.2.2.1 = obs ∧ (allocF size bs obs tail t k l p).2.2.2.2 = tail := by
  unfold allocF at h ⊢
  by_cases h1 : ¬ (0 ≤ t ∧ t < (bs.length : Int)) ∨ objB k l p = false
  · rw [if_pos h1]; exact ⟨hB, rfl, rfl⟩
  · rw [if_neg h1] at h ⊢
    by_cases h2 : (size : Int) / 2 < 1 + l
    · rw [if_pos h2] at h ⊢
      exact ⟨hB, (placeA_miss h).1, (placeA_miss h).2⟩
    · rw [if_neg h2] at h ⊢
      by_cases h3 : leftF bs obs t.toNat < 1 + l
      · rw [if_pos h3] at h ⊢
        by_cases hr : (renewF size bs obs tail t.toNat).1 = false
        · rw [if_pos hr] at h ⊢
          obtain ⟨a1, a2, a3⟩ := renew_no hB hr
          rw [a2, a3] at h ⊢
          exact ⟨a1, (placeA_miss h).1, (placeA_miss h).2⟩
        · rw [if_neg hr] at h; exact absurd rfl h
      · rw [if_neg h3] at h; exact absurd rfl h
end

theorem clean_placeA {obs : List Ob} {tail : List Int} {k l p : Int} (h : Clean obs) : Clean (placeA obs tail k l p).2.2.1 := by
  unfold placeA
  split <;> exact clean_place h
theorem clean_renew {size t : Nat} {bs : List Int} {obs : List Ob} {tail : List Int} (h : Clean obs) : Clean (renewF size bs obs tail t).2.2.1 := by
  unfold renewF
  split <;> exact clean_place h
theorem clean_alloc {size : Nat} {bs : List Int} {obs : List Ob} {tail : List Int} {t k l p : Int} (hf : Fine obs) (h : Clean obs) : Clean (allocF size bs obs tail t k l p).2.2.2.1 := by
  unfold allocF
  split
  · exact h
  · split
    · exact clean_placeA h
    · split
      · split
        · exact clean_placeA (clean_renew h)
        · exact clean_split (fine_renew hf) (clean_renew h)
      · exact clean_split hf h
end Go.Proofs.Ytibfhpbklnpknaa
