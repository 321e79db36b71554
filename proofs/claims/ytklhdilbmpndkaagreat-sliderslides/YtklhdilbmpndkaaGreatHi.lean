/- The machine, plain: what each step makes. What holds of the machine at each step. Each step keeps what holds of the machine. A claim; what is read is as it was; somebody can go on; the end. How it begins, what falls, the end. -/
import Derived.Test.YtklhdilbmpndkaaGreatHf
import Derived.Test.YtklhdilbmpndkaaGreatSlTk
import Derived.Test.YtklhdilbmpndkaaGreatSlCl
namespace Go.Proofs.YtklhdilbmpndkaaGreat
set_option maxRecDepth 20000
open Go.RowKit Go.Sort
set_option linter.unusedVariables false
set_option linter.unusedSimpArgs false


/-- A function, turned at one place. -/
def setF {α : Type} (h : Nat → α) (i : Nat) (v : α) : Nat → α := fun k => if k = i then v else h k
theorem setF_at {α : Type} (h : Nat → α) (i : Nat) (v : α) : setF h i v i = v := by simp [setF]
theorem setF_ne {α : Type} (h : Nat → α) {i k : Nat} (v : α) (e : k ≠ i) : setF h i v k = h k := by simp [setF, e]
/-- A function's first so many values. -/
def tab {α : Type} (n : Nat) (h : Nat → α) : List α := (List.range n).map h
theorem tab_len {α : Type} (n : Nat) (h : Nat → α) : (tab n h).length = n := by simp [tab]
theorem tab_get {α : Type} {n : Nat} (h : Nat → α) {i : Nat} (hi : i < n) : (tab n h)[i]? = some (h i) := by simp [tab, hi]
theorem tab_set {α : Type} {n : Nat} (h : Nat → α) {i : Nat} (v : α) : (tab n h).set i v = tab n (setF h i v) := by
  apply List.ext_getElem?
  intro k
  rw [List.getElem?_set]
  by_cases hk : k < n
  · by_cases e : i = k
    · subst e
      rw [if_pos rfl, if_pos (by rw [tab_len]; exact hk), tab_get _ hk, setF_at]
    · rw [if_neg e, tab_get _ hk, tab_get _ hk, setF_ne _ _ (fun h => e h.symm)]
  · have h1 : (tab n h)[k]? = none := by rw [List.getElem?_eq_none]; rw [tab_len]; omega
    have h2 : (tab n (setF h i v))[k]? = none := by rw [List.getElem?_eq_none]; rw [tab_len]; omega
    rw [h1, h2]
    by_cases e : i = k
    · subst e; rw [if_pos rfl, if_neg (by rw [tab_len]; exact hk)]
    · rw [if_neg e]
/-- A sum. -/
def sm (n : Nat) (h : Nat → Nat) : Nat := ((List.range n).map h).sum
theorem sm_succ (n : Nat) (h : Nat → Nat) : sm (n + 1) h = sm n h + h n := by simp [sm, List.range_succ]
theorem sm_zero (h : Nat → Nat) : sm 0 h = 0 := rfl
theorem sm_congr {n : Nat} {h h' : Nat → Nat} (e : ∀ k, k < n → h k = h' k) : sm n h = sm n h' := by
  induction n with
  | zero => rfl
  | succ n ih => rw [sm_succ, sm_succ, ih (fun k hk => e k (by omega)), e n (by omega)]
/-- One value is another one. -/
theorem sm_upd {n : Nat} {h h' : Nat → Nat} {i : Nat} (hi : i < n) (e : ∀ k, k < n → k ≠ i → h' k = h k) : sm n h' + h i = sm n h + h' i := by
  induction n with
  | zero => omega
  | succ n ih =>
    rw [sm_succ, sm_succ]
    by_cases hn : i = n
    · subst hn
      rw [sm_congr (h := h') (h' := h) fun k hk => e k (by omega) (by omega)]; omega
    · have := ih (by omega) (fun k hk => e k (by omega))
      rw [e n (by omega) (by omega)]; omega
theorem sm_pos {n : Nat} {h : Nat → Nat} (hp : sm n h ≠ 0) : ∃ k, k < n ∧ h k ≠ 0 := by
  induction n with
  | zero => exact absurd rfl hp
  | succ n ih =>
    rw [sm_succ] at hp
    by_cases h0 : h n = 0
    · obtain ⟨k, h1, h2⟩ := ih (by omega)
      exact ⟨k, by omega, h2⟩
    · exact ⟨n, by omega, h0⟩
theorem sm_le {n : Nat} {h h' : Nat → Nat} (e : ∀ k, k < n → h k ≤ h' k) : sm n h ≤ sm n h' := by
  induction n with
  | zero => exact Nat.le_refl _
  | succ n ih => rw [sm_succ, sm_succ]; have := ih fun k hk => e k (by omega); have := e n (by omega); omega
theorem sm_const (n c : Nat) : sm n (fun _ => c) = n * c := by
  induction n with
  | zero => simp [sm]
  | succ n ih => rw [sm_succ, ih, Nat.succ_mul]
theorem sm_add (n : Nat) (h h' : Nat → Nat) : sm n (fun k => h k + h' k) = sm n h + sm n h' := by
  induction n with
  | zero => rfl
  | succ n ih => rw [sm_succ, sm_succ, sm_succ, ih]; omega
theorem sm_at {n : Nat} {h : Nat → Nat} {i : Nat} (hi : i < n) : h i ≤ sm n h := by
  induction n with
  | zero => omega
  | succ n ih =>
    rw [sm_succ]
    by_cases e : i = n
    · subst e; omega
    · have := ih (by omega); omega

/-- How far a region is: its objects still to be moved, so many words of the first of them are where they go, who is still to be told, from where on noughts are to come. -/
structure RP where
  rem : List (Nat × Ob)
  wd : Nat
  tel : List Nat
  fr : Nat
structure Pm where
  cell : Nat → Int
  cl : Nat
  aw : Nat → Nat
  left : Nat
  moved : Nat
  ph : Nat → Ph
  g : Nat → RP
def Cx.aws (C : Cx) (x : Nat × Ob) : List Nat := awL C.f C.W C.K C.L x
def Cx.go (C : Cx) (x : Nat × Ob) : Nat := goS C.f C.L x.1
def Cx.start (C : Cx) (r : Nat) : RP := ⟨C.sts r, 0, [], C.fr0 r⟩
def Cx.fin (C : Cx) (r : Nat) : RP := ⟨[], 0, [], C.fr0 (r + 1)⟩
def held : Ph → Option Nat
  | .claim => none
  | .rest => none
  | .await r => some r
  | .take r _ _ _ _ => some r
  | .put r _ _ _ _ _ => some r
  | .tell r _ _ _ _ => some r
  | .nought r _ => some r
def PhM (C : Cx) (g : RP) : Ph → Prop
  | .claim => True
  | .rest => True
  | .await r => g = C.start r ∧ 0 < (C.sts r).length
  | .take _ x i st fr => g = ⟨x :: st, i, [], fr⟩ ∧ i ≤ x.2.2.length
  | .put _ x i v st fr => g = ⟨x :: st, i, [], fr⟩ ∧ i ≤ x.2.2.length ∧ v = dstW C.f C.L x i
  | .tell _ a aw st fr => g = ⟨st, 0, a :: aw, fr⟩
  | .nought r fr => g = ⟨[], 0, [], fr⟩ ∧ fr < C.up r
/-- What a step makes. -/
def Pm.step (C : Cx) (Q : Pm) (j : Nat) : Pm :=
  match Q.ph j with
  | .claim => { Q with cl := Q.cl + 1, ph := setF Q.ph j (claimP C Q.cl) }
  | .rest => Q
  | .await r => if Q.aw r = 0 then { Q with ph := setF Q.ph j (turnP C r [] (C.sts r) (C.fr0 r)) } else Q
  | .take r x i st fr => { Q with ph := setF Q.ph j (.put r x i (dstW C.f C.L x i) st fr) }
  | .put r x i v st fr =>
    if i + 1 ≤ x.2.2.length then { Q with cell := setF Q.cell (C.go x + i) v, left := Q.left - 1, ph := setF Q.ph j (.take r x (i + 1) st fr), g := setF Q.g r ⟨x :: st, i + 1, [], fr⟩ }
    else { Q with cell := setF Q.cell (C.go x + i) v, left := Q.left - 1, moved := Q.moved + 1, ph := setF Q.ph j (turnP C r (C.aws x) st fr), g := setF Q.g r ⟨st, 0, C.aws x, fr⟩ }
  | .tell r a aw st fr => { Q with aw := setF Q.aw a (Q.aw a - 1), ph := setF Q.ph j (turnP C r aw st fr), g := setF Q.g r ⟨st, 0, aw, fr⟩ }
  | .nought r fr => { Q with cell := setF Q.cell fr 0, left := Q.left - 1, ph := setF Q.ph j (turnP C r [] [] (fr + 1)), g := setF Q.g r ⟨[], 0, [], fr + 1⟩ }
end Go.Proofs.YtklhdilbmpndkaaGreat

namespace Go.Proofs.YtklhdilbmpndkaaGreat
set_option maxRecDepth 20000
open Go.RowKit Go.Sort
set_option linter.unusedVariables false
set_option linter.unusedSimpArgs false


/-- Where a sliding's heap lies. -/
structure Cok (C : Cx) (size : Nat) (base : Nat → Int) : Prop where
  w1 : 1 ≤ C.W
  many : C.K = (C.top + C.W - 1) / C.W
  top_ : (flat C.obs).length = C.top
  sum : C.T = firstR C.f C.W C.L C.K
  size : C.top ≤ size
  n1 : 1 ≤ C.n
  at_ : ∀ x ∈ C.L, ∀ i, i ≤ x.2.2.length → base (x.1 + i) = srcW x i
def Cx.fi (C : Cx) (r : Nat) : Nat := firstR C.f C.W C.L r
def Cx.lv (C : Cx) (r : Nat) : Nat := liveR C.f C.W r C.L
def dW (C : Cx) (r : Nat) (g : RP) : Nat := C.lv r + g.wd - sumL g.rem
def restW (C : Cx) (r : Nat) (g : RP) : Nat := sumL g.rem - g.wd + (C.fr0 (r + 1) - g.fr)
/-- A word is what it will be. -/
def Done (C : Cx) (g : Nat → RP) (p : Nat) : Prop := ∃ r, r < C.K ∧ ((C.fi r ≤ p ∧ p < C.fi r + dW C r (g r)) ∨ (C.fr0 r ≤ p ∧ p < (g r).fr))
structure GOk (C : Cx) (r : Nat) (g : RP) : Prop where
  suf : ∃ dn, C.sts r = dn ++ g.rem
  wd : ∀ x st, g.rem = x :: st → g.wd ≤ x.2.2.length
  wd0 : g.rem = [] → g.wd = 0
  tel : ∀ a ∈ g.tel, r < a ∧ a < C.K ∧ 0 < C.lv a
  lo : C.fr0 r ≤ g.fr
  hi : g.fr ≤ C.fr0 (r + 1)
  nf : g.rem ≠ [] → g.fr = C.fr0 r
def isRest : Ph → Nat
  | .rest => 1
  | _ => 0
structure Inv (C : Cx) (size : Nat) (base final : Nat → Int) (Q : Pm) : Prop where
  uniq : ∀ i j r, i < C.n → j < C.n → held (Q.ph i) = some r → held (Q.ph j) = some r → i = j
  hl : ∀ i r, i < C.n → held (Q.ph i) = some r → r < C.K ∧ r < Q.cl
  pm : ∀ i r, i < C.n → held (Q.ph i) = some r → PhM C (Q.g r) (Q.ph i)
  new : ∀ r, r < C.K → Q.cl ≤ r → Q.g r = C.start r
  fin : ∀ r, r < C.K → r < Q.cl → (∀ i, i < C.n → held (Q.ph i) ≠ some r) → Q.g r = C.fin r
  gok : ∀ r, r < C.K → GOk C r (Q.g r)
  aw : ∀ k, k < C.K → Q.aw k = sm C.K fun r => List.count k ((Q.g r).tel ++ (Q.g r).rem.flatMap C.aws)
  aw0 : ∀ r, r < C.K → r < Q.cl → (∀ i, i < C.n → Q.ph i ≠ .await r) → Q.aw r = 0
  left : Q.left = sm C.K fun r => restW C r (Q.g r)
  moved : Q.moved + (sm C.K fun r => (Q.g r).rem.length) = sm C.K fun r => (C.sts r).length
  cells : ∀ p, p < size → (Done C Q.g p → Q.cell p = final p) ∧ (¬ Done C Q.g p → Q.cell p = base p)
  restc : ∀ i, i < C.n → Q.ph i = .rest → C.K ≤ Q.cl
  clb : Q.cl ≤ C.K + sm C.n fun i => isRest (Q.ph i)
section
variable {C : Cx} {size : Nat} {base final : Nat → Int} {Q : Pm}
theorem Cok.lt_K (c : Cok C size base) {x : Nat × Ob} (h : x ∈ C.L) : x.1 / C.W < C.K := by
  have h0 : x.1 < 0 + (flat C.obs).length := adr_lt h
  have h1 := c.top_
  have hw := c.w1
  rw [c.many, Nat.div_lt_iff_lt_mul (by omega), Nat.mul_comm]
  have h2 := Nat.div_add_mod (C.top + C.W - 1) C.W
  have h3 := Nat.mod_lt (C.top + C.W - 1) (show C.W > 0 by omega)
  omega
theorem sts_mem {r : Nat} {x : Nat × Ob} : x ∈ C.sts r ↔ x ∈ C.L ∧ keepB C.f x = true ∧ x.1 / C.W = r := by
  unfold Cx.sts inR
  rw [List.mem_filter]
  simp
theorem lv_sts (r : Nat) : C.lv r = sumL (C.sts r) := rfl
theorem fi_succ (r : Nat) : C.fi (r + 1) = C.fi r + C.lv r := rfl
theorem fi_mono {r s : Nat} (h : r ≤ s) : C.fi r ≤ C.fi s := first_mono h
theorem Cok.fi_top (c : Cok C size base) (r : Nat) : C.fi r ≤ C.top := by
  have := first_le C.f C.W C.L r
  have h2 := sumL_adr 0 C.obs
  have h3 := c.top_
  show firstR C.f C.W C.L r ≤ C.top
  unfold Cx.L at this ⊢
  omega
theorem fr0_mono (c : Cok C size base) {r s : Nat} (h : r ≤ s) : C.fr0 r ≤ C.fr0 s := by
  have := bg_mono (W := C.W) c.top_ h
  unfold Cx.fr0 Cx.L
  omega
theorem Cok.fr0_top (c : Cok C size base) (r : Nat) : C.fr0 r ≤ C.top := by
  have h1 := bg_top (W := C.W) c.top_ r
  have h2 := c.fi_top C.K
  have h3 := c.sum
  unfold Cx.fi at h2
  unfold Cx.fr0 Cx.L
  unfold Cx.L at h2 h3
  omega
theorem Cok.fr0_T (c : Cok C size base) (r : Nat) : C.T ≤ C.fr0 r := by unfold Cx.fr0; omega
/-- Where an object goes: behind those of its region that are ahead of it. -/
theorem go_at {r : Nat} {dn st : List (Nat × Ob)} {x : Nat × Ob} (h : C.sts r = dn ++ x :: st) : C.go x = C.fi r + sumL dn := by
  have hx : x ∈ C.sts r := by rw [h]; simp
  obtain ⟨h1, h2, h3⟩ := sts_mem.1 hx
  have h4 := go_sum (f := C.f) (n := C.W) (L := C.L) (p := x.1)
  have h5 := val_take (f := C.f) (n := C.W) (k := r) (L := C.L) (adr_sorted 0 C.obs) (j := dn.length) (x := x) (by show (C.sts r)[dn.length]? = some x; rw [h]; simp)
  have h6 : (inR C.f C.W r C.L).take dn.length = dn := by show (C.sts r).take dn.length = dn; rw [h]; simp
  rw [h6] at h5
  rw [h3] at h4
  show goS C.f C.L x.1 = firstR C.f C.W C.L r + sumL dn
  omega
theorem sumL_cons (x : Nat × Ob) (l : List (Nat × Ob)) : sumL (x :: l) = 1 + x.2.2.length + sumL l := by simp [sumL]
theorem GOk.dn {r : Nat} {g : RP} (h : GOk C r g) : ∃ dn, C.sts r = dn ++ g.rem ∧ dW C r g = sumL dn + g.wd := by
  obtain ⟨dn, e⟩ := h.suf
  refine ⟨dn, e, ?_⟩
  unfold dW
  rw [lv_sts, e, sumL_append]
  omega
theorem GOk.wd_le {r : Nat} {g : RP} (h : GOk C r g) : g.wd ≤ sumL g.rem := by
  cases e : g.rem with
  | nil => have := h.wd0 e; omega
  | cons x st => have := h.wd x st e; rw [sumL_cons]; omega
theorem GOk.d_le {r : Nat} {g : RP} (h : GOk C r g) : dW C r g ≤ C.lv r := by
  have := h.wd_le
  unfold dW; omega
/-- What turn makes holds of what is left. -/
theorem turnP_ok (c : Cok C size base) {r fr : Nat} {aw : List Nat} {st : List (Nat × Ob)} (h : GOk C r ⟨st, 0, aw, fr⟩) :
    (held (turnP C r aw st fr) = some r ∧ PhM C ⟨st, 0, aw, fr⟩ (turnP C r aw st fr) ∧ ∀ s, turnP C r aw st fr ≠ .await s) ∨ (turnP C r aw st fr = .claim ∧ (⟨st, 0, aw, fr⟩ : RP) = C.fin r) := by
  match aw, st with
  | a :: aw, st => exact .inl ⟨rfl, rfl, fun s h => by cases h⟩
  | [], x :: st => exact .inl ⟨rfl, ⟨rfl, Nat.zero_le _⟩, fun s h => by cases h⟩
  | [], [] =>
    have e : turnP C r [] [] fr = if fr < C.up r then .nought r fr else .claim := rfl
    by_cases hf : fr < C.up r
    · rw [e, if_pos hf]
      exact .inl ⟨rfl, ⟨rfl, hf⟩, fun s h => by cases h⟩
    · rw [e, if_neg hf]
      refine .inr ⟨rfl, ?_⟩
      have h1 := h.lo
      have h2 := h.hi
      have h3 := c.fr0_T r
      have h4 : C.fr0 (r + 1) = max (C.up r) C.T := rfl
      simp only at h1 h2
      have : fr = C.fr0 (r + 1) := by omega
      unfold Cx.fin
      rw [this]
end
end Go.Proofs.YtklhdilbmpndkaaGreat

namespace Go.Proofs.YtklhdilbmpndkaaGreat
set_option maxRecDepth 20000
open Go.RowKit Go.Sort
set_option linter.unusedVariables false
set_option linter.unusedSimpArgs false


/-- What each word will be. -/
structure Fok (C : Cx) (final : Nat → Int) : Prop where
  obj : ∀ x ∈ C.L, keepB C.f x = true → ∀ i, i ≤ x.2.2.length → final (C.go x + i) = dstW C.f C.L x i
  nil : ∀ p, C.T ≤ p → p < C.top → final p = 0
section
variable {C : Cx} {size : Nat} {base final : Nat → Int} {Q Q' : Pm}
theorem awL_live {f : Nat → Bool} {W K : Nat} {L : List (Nat × Ob)} {x : Nat × Ob} {k : Nat} (hk : k ∈ awL f W K L x) : 0 < liveR f W k L := by
  unfold awL at hk
  rw [List.mem_filter] at hk
  have h2 := hk.2
  simp only [Bool.and_eq_true, decide_eq_true_eq] at h2
  exact h2.1.2
theorem setF_self {α : Type} (h : Nat → α) (i : Nat) : setF h i (h i) = h := by
  funext k
  by_cases e : k = i
  · subst e; rw [setF_at]
  · rw [setF_ne _ _ e]
theorem rest_of_held {p : Ph} {r : Nat} (h : held p = some r) : isRest p = 0 := by
  cases p <;> first | rfl | cases h
theorem claim_held : held .claim = none := rfl
theorem inv_turn (h : Inv C size base final Q) {j r : Nat} (hj : j < C.n) (hr : held (Q.ph j) = some r) {p' : Ph} {g' : RP} (hcl : Q'.cl = Q.cl) (hph : Q'.ph = setF Q.ph j p') (hg : Q'.g = setF Q.g r g')
    (hp : (held p' = some r ∧ PhM C g' p' ∧ ∀ s, p' ≠ .await s) ∨ (p' = .claim ∧ g' = C.fin r)) (hgok : GOk C r g')
    (haw : ∀ k, k < C.K → Q'.aw k = sm C.K fun s => List.count k ((Q'.g s).tel ++ (Q'.g s).rem.flatMap C.aws)) (hle : ∀ k, k < C.K → Q'.aw k ≤ Q.aw k) (har : Q'.aw r = 0)
    (hleft : Q'.left + restW C r (Q.g r) = Q.left + restW C r g') (hmoved : Q'.moved + g'.rem.length = Q.moved + (Q.g r).rem.length)
    (hcells : ∀ p, p < size → (Done C Q'.g p → Q'.cell p = final p) ∧ (¬ Done C Q'.g p → Q'.cell p = base p)) : Inv C size base final Q' := by
  obtain ⟨hrK, hrc⟩ := h.hl j r hj hr
  have hp0 : isRest p' = 0 := by
    rcases hp with ⟨h1, _⟩ | ⟨rfl, _⟩
    · exact rest_of_held h1
    · rfl
  have hpa : ∀ s, p' ≠ .await s := by
    rcases hp with ⟨_, _, h1⟩ | ⟨rfl, _⟩
    · exact h1
    · intro s e; cases e
  have hph' : ∀ i s, held (Q'.ph i) = some s → (i = j ∧ s = r ∧ held p' = some r) ∨ (i ≠ j ∧ held (Q.ph i) = some s) := by
    intro i s hs
    rw [hph] at hs
    by_cases e : i = j
    · subst e
      rw [setF_at] at hs
      rcases hp with ⟨h1, _⟩ | ⟨rfl, _⟩
      · rw [h1] at hs; injection hs with hs; exact .inl ⟨rfl, hs.symm, h1⟩
      · cases hs
    · rw [setF_ne _ _ e] at hs; exact .inr ⟨e, hs⟩
  refine ⟨?_, ?_, ?_, ?_, ?_, ?_, haw, ?_, ?_, ?_, hcells, ?_, ?_⟩
  · intro i k s hi hk hs ht
    rcases hph' i s hs with ⟨rfl, rfl, _⟩ | ⟨e1, h1⟩
    · rcases hph' k s ht with ⟨rfl, _, _⟩ | ⟨e2, h2⟩
      · rfl
      · exact absurd (h.uniq k i s hk hi h2 hr) e2
    · rcases hph' k s ht with ⟨rfl, rfl, _⟩ | ⟨e2, h2⟩
      · exact absurd (h.uniq i k s hi hk h1 hr) e1
      · exact h.uniq i k s hi hk h1 h2
  · intro i s hi hs
    rw [hcl]
    rcases hph' i s hs with ⟨rfl, rfl, _⟩ | ⟨e1, h1⟩
    · exact ⟨hrK, hrc⟩
    · exact h.hl i s hi h1
  · intro i s hi hs
    rcases hph' i s hs with ⟨rfl, rfl, h0⟩ | ⟨e1, h1⟩
    · rw [hg, setF_at, hph, setF_at]
      rcases hp with ⟨_, h2, _⟩ | ⟨rfl, _⟩
      · exact h2
      · trivial
    · have e2 : s ≠ r := fun e => e1 (h.uniq i j s hi hj h1 (by rw [e]; exact hr))
      rw [hg, setF_ne _ _ e2, hph, setF_ne _ _ e1]
      exact h.pm i s hi h1
  · intro s hs hc
    rw [hcl] at hc
    rw [hg, setF_ne _ _ (by omega)]
    exact h.new s hs hc
  · intro s hs hc hno
    rw [hcl] at hc
    by_cases e : s = r
    · subst e
      rw [hg, setF_at]
      rcases hp with ⟨h1, _⟩ | ⟨_, h2⟩
      · exact absurd (show held (Q'.ph j) = some s by rw [hph, setF_at]; exact h1) (hno j hj)
      · exact h2
    · rw [hg, setF_ne _ _ e]
      refine h.fin s hs hc fun i hi hi2 => ?_
      have e1 : i ≠ j := fun e1 => by subst e1; rw [hr] at hi2; injection hi2 with hi2; exact e hi2.symm
      exact hno i hi (by rw [hph, setF_ne _ _ e1]; exact hi2)
  · intro s hs
    rw [hg]
    by_cases e : s = r
    · subst e; rw [setF_at]; exact hgok
    · rw [setF_ne _ _ e]; exact h.gok s hs
  · intro s hs hc hno
    rw [hcl] at hc
    by_cases e : s = r
    · subst e; exact har
    · have := h.aw0 s hs hc fun i hi hi2 => ?_
      · have := hle s hs; omega
      · have e1 : i ≠ j := fun e1 => by subst e1; rw [hi2] at hr; injection hr with hr; exact e hr
        exact hno i hi (by rw [hph, setF_ne _ _ e1]; exact hi2)
  · have h1 := h.left
    have h2 := sm_upd (n := C.K) (h := fun s => restW C s (Q.g s)) (h' := fun s => restW C s (Q'.g s)) hrK (fun k _ hk => by simp only [hg, setF_ne _ _ hk])
    simp only [hg, setF_at] at h2 ⊢
    omega
  · have h1 := h.moved
    have h2 := sm_upd (n := C.K) (h := fun s => (Q.g s).rem.length) (h' := fun s => (Q'.g s).rem.length) hrK (fun k _ hk => by simp only [hg, setF_ne _ _ hk])
    simp only [hg, setF_at] at h2 ⊢
    omega
  · intro i hi hs
    rw [hcl]
    rw [hph] at hs
    by_cases e : i = j
    · subst e; rw [setF_at] at hs; rw [hs] at hp0; cases hp0
    · rw [setF_ne _ _ e] at hs; exact h.restc i hi hs
  · rw [hcl]
    have h1 := h.clb
    have h2 : (sm C.n fun i => isRest (Q'.ph i)) = sm C.n fun i => isRest (Q.ph i) := sm_congr fun i _ => by
      rw [hph]
      by_cases e : i = j
      · subst e; rw [setF_at, hp0, rest_of_held hr]
      · rw [setF_ne _ _ e]
    omega

/-- Nobody waits for what is held by one who doesn't. -/
theorem aw_zero (h : Inv C size base final Q) {j r : Nat} (hj : j < C.n) (hr : held (Q.ph j) = some r) (hn : ∀ s, Q.ph j ≠ .await s) : Q.aw r = 0 := by
  obtain ⟨h1, h2⟩ := h.hl j r hj hr
  refine h.aw0 r h1 h2 fun i hi e => ?_
  have := h.uniq i j r hi hj (by rw [e]; rfl) hr
  subst this
  exact hn r e
theorem gok_start (c : Cok C size base) (r : Nat) : GOk C r (C.start r) :=
  ⟨⟨[], rfl⟩, fun _ _ _ => Nat.zero_le _, fun _ => rfl, fun a ha => (by cases ha), Nat.le_refl _, fr0_mono c (Nat.le_succ r), fun _ => rfl⟩
theorem step_await (c : Cok C size base) (h : Inv C size base final Q) {j r : Nat} (hj : j < C.n) (hp : Q.ph j = .await r) (ha : Q.aw r = 0) : Inv C size base final (Q.step C j) := by
  have e : Q.step C j = { Q with ph := setF Q.ph j (turnP C r [] (C.sts r) (C.fr0 r)) } := by unfold Pm.step; rw [hp]; simp [ha]
  rw [e]
  have hr : held (Q.ph j) = some r := by rw [hp]; rfl
  have hpm := h.pm j r hj hr
  rw [hp] at hpm
  have hg : Q.g r = C.start r := hpm.1
  have hk := turnP_ok c (gok_start (C := C) c r)
  refine inv_turn (Q' := { Q with ph := setF Q.ph j (turnP C r [] (C.sts r) (C.fr0 r)) }) (g' := C.start r) h hj hr rfl rfl (by rw [← hg]; exact (setF_self _ _).symm) hk (gok_start c r) h.aw (fun _ _ => Nat.le_refl _) ha (by rw [hg]) (by rw [hg]) h.cells
theorem step_take (h : Inv C size base final Q) {j r : Nat} {x : Nat × Ob} {i : Nat} {st : List (Nat × Ob)} {fr : Nat} (hj : j < C.n) (hp : Q.ph j = .take r x i st fr) : Inv C size base final (Q.step C j) := by
  have e : Q.step C j = { Q with ph := setF Q.ph j (.put r x i (dstW C.f C.L x i) st fr) } := by unfold Pm.step; rw [hp]
  rw [e]
  have hr : held (Q.ph j) = some r := by rw [hp]; rfl
  have hpm := h.pm j r hj hr
  rw [hp] at hpm
  obtain ⟨hg, hi⟩ := hpm
  have hrK := (h.hl j r hj hr).1
  refine inv_turn (Q' := { Q with ph := setF Q.ph j (.put r x i (dstW C.f C.L x i) st fr) }) (g' := Q.g r) h hj hr rfl rfl (setF_self _ _).symm (.inl ⟨rfl, ⟨hg, hi, rfl⟩, fun s e => by cases e⟩) (h.gok r hrK) h.aw (fun _ _ => Nat.le_refl _) (aw_zero h hj hr (fun s e => by rw [hp] at e; cases e)) rfl rfl h.cells
/-- One word more is done. -/
theorem done_put {g : Nat → RP} {r : Nat} {g' : RP} (hr : r < C.K) (hd : dW C r g' = dW C r (g r) + 1) (hf : g'.fr = (g r).fr) (p : Nat) : Done C (setF g r g') p ↔ Done C g p ∨ p = C.fi r + dW C r (g r) := by
  constructor
  · rintro ⟨s, hs, h⟩
    by_cases e : s = r
    · subst e
      rw [setF_at, hd, hf] at h
      by_cases e2 : p = C.fi s + dW C s (g s)
      · exact .inr e2
      · exact .inl ⟨s, hs, by omega⟩
    · rw [setF_ne _ _ e] at h
      exact .inl ⟨s, hs, h⟩
  · rintro (⟨s, hs, h⟩ | h)
    · refine ⟨s, hs, ?_⟩
      by_cases e : s = r
      · subst e; rw [setF_at, hd, hf]; omega
      · rw [setF_ne _ _ e]; exact h
    · refine ⟨r, hr, ?_⟩
      rw [setF_at, hd]
      left; omega
theorem done_nil {g : Nat → RP} {r : Nat} {g' : RP} (hr : r < C.K) (hd : dW C r g' = dW C r (g r)) (hf : g'.fr = (g r).fr + 1) (hlo : C.fr0 r ≤ (g r).fr) (p : Nat) : Done C (setF g r g') p ↔ Done C g p ∨ p = (g r).fr := by
  constructor
  · rintro ⟨s, hs, h⟩
    by_cases e : s = r
    · subst e
      rw [setF_at, hd, hf] at h
      by_cases e2 : p = (g s).fr
      · exact .inr e2
      · exact .inl ⟨s, hs, by omega⟩
    · rw [setF_ne _ _ e] at h
      exact .inl ⟨s, hs, h⟩
  · rintro (⟨s, hs, h⟩ | h)
    · refine ⟨s, hs, ?_⟩
      by_cases e : s = r
      · subst e; rw [setF_at, hd, hf]; omega
      · rw [setF_ne _ _ e]; exact h
    · refine ⟨r, hr, ?_⟩
      rw [setF_at, hf]
      right; omega
theorem cells_set (h : Inv C size base final Q) {g1 : Nat → RP} {p0 : Nat} {v : Int} (hv : v = final p0) (hD : ∀ p, Done C g1 p ↔ Done C Q.g p ∨ p = p0) : ∀ p, p < size → (Done C g1 p → setF Q.cell p0 v p = final p) ∧ (¬ Done C g1 p → setF Q.cell p0 v p = base p) := by
  intro p hp
  by_cases e : p = p0
  · subst e
    rw [setF_at]
    exact ⟨fun _ => hv, fun hn => absurd ((hD p).2 (.inr rfl)) hn⟩
  · rw [setF_ne _ _ e]
    have := h.cells p hp
    exact ⟨fun hd => this.1 (((hD p).1 hd).resolve_right e), fun hn => this.2 fun hd => hn ((hD p).2 (.inl hd))⟩
theorem left_pos (h : Inv C size base final Q) {r : Nat} (hr : r < C.K) (hp : 0 < restW C r (Q.g r)) : 0 < Q.left := by
  have := sm_at (h := fun r => restW C r (Q.g r)) hr
  have h2 := h.left
  have h3 : restW C r (Q.g r) ≤ sm C.K (fun r => restW C r (Q.g r)) := this
  omega
theorem step_put (c : Cok C size base) (F : Fok C final) (h : Inv C size base final Q) {j r : Nat} {x : Nat × Ob} {i : Nat} {v : Int} {st : List (Nat × Ob)} {fr : Nat} (hj : j < C.n) (hp : Q.ph j = .put r x i v st fr) : Inv C size base final (Q.step C j) := by
  have hr : held (Q.ph j) = some r := by rw [hp]; rfl
  have hpm := h.pm j r hj hr
  rw [hp] at hpm
  obtain ⟨hg, hi, hv⟩ := hpm
  have hrK := (h.hl j r hj hr).1
  have G := h.gok r hrK
  obtain ⟨dn, hdn, hdw⟩ := G.dn
  rw [hg] at hdn hdw
  try simp only at hdn hdw
  have hgo := go_at hdn
  have hx := sts_mem.1 (show x ∈ C.sts r by rw [hdn]; simp)
  have hfin : v = final (C.go x + i) := by rw [hv]; exact (F.obj x hx.1 hx.2.1 i hi).symm
  have hpl : C.go x + i = C.fi r + dW C r (Q.g r) := by rw [hg, hdw]; omega
  have haz := aw_zero h hj hr (fun s e => by rw [hp] at e; cases e)
  have hlive := lv_sts (C := C) r
  rw [hdn, sumL_append, sumL_cons] at hlive
  have hlp := left_pos h hrK (by rw [hg]; unfold restW; simp only [sumL_cons]; omega)
  have G' := G
  rw [hg] at G'
  by_cases hm : i + 1 ≤ x.2.2.length
  · have e : Q.step C j = { Q with cell := setF Q.cell (C.go x + i) v, left := Q.left - 1, ph := setF Q.ph j (.take r x (i + 1) st fr), g := setF Q.g r ⟨x :: st, i + 1, [], fr⟩ } := by unfold Pm.step; rw [hp]; simp only [if_pos hm]
    rw [e]
    refine inv_turn (Q' := { Q with cell := setF Q.cell (C.go x + i) v, left := Q.left - 1, ph := setF Q.ph j (.take r x (i + 1) st fr), g := setF Q.g r ⟨x :: st, i + 1, [], fr⟩ }) (g' := ⟨x :: st, i + 1, [], fr⟩) h hj hr rfl rfl rfl (.inl ⟨rfl, ⟨rfl, hm⟩, fun s e => by cases e⟩) ?_ ?_ (fun _ _ => Nat.le_refl _) haz ?_ (by rw [hg]) ?_
    · exact ⟨G'.suf, fun y l e => (by simp only [List.cons.injEq] at e; obtain ⟨rfl, rfl⟩ := e; exact hm), fun e => (by cases e), G'.tel, G'.lo, G'.hi, G'.nf⟩
    · intro k hk
      rw [show Q.aw k = _ from h.aw k hk]
      refine sm_congr fun s _ => ?_
      by_cases es : s = r
      · subst es; simp only [setF_at]; rw [hg]
      · simp only [setF_ne _ _ es]
    · rw [hg]; unfold restW; simp only [sumL_cons]; omega
    · refine cells_set h hfin fun p => ?_
      rw [hpl]
      exact done_put hrK (by rw [hg]; unfold dW; simp only [sumL_cons]; omega) (by rw [hg]) p
  · have hil : i = x.2.2.length := by omega
    have e : Q.step C j = { Q with cell := setF Q.cell (C.go x + i) v, left := Q.left - 1, moved := Q.moved + 1, ph := setF Q.ph j (turnP C r (C.aws x) st fr), g := setF Q.g r ⟨st, 0, C.aws x, fr⟩ } := by unfold Pm.step; rw [hp]; simp only [if_neg hm]
    rw [e]
    have Gn : GOk C r ⟨st, 0, C.aws x, fr⟩ := by
      refine ⟨⟨dn ++ [x], by simp [hdn]⟩, fun _ _ _ => Nat.zero_le _, fun _ => rfl, fun a ha => ?_, G'.lo, G'.hi, fun _ => G'.nf (by simp)⟩
      have h1 := awL_after hx.1 ha
      rw [hx.2.2] at h1
      exact ⟨h1, awL_lt ha, awL_live ha⟩
    refine inv_turn (Q' := { Q with cell := setF Q.cell (C.go x + i) v, left := Q.left - 1, moved := Q.moved + 1, ph := setF Q.ph j (turnP C r (C.aws x) st fr), g := setF Q.g r ⟨st, 0, C.aws x, fr⟩ }) (g' := ⟨st, 0, C.aws x, fr⟩) h hj hr rfl rfl rfl (turnP_ok c Gn) Gn ?_ (fun _ _ => Nat.le_refl _) haz ?_ (by rw [hg]; simp only [List.length_cons]; omega) ?_
    · intro k hk
      rw [show Q.aw k = _ from h.aw k hk]
      refine sm_congr fun s _ => ?_
      by_cases es : s = r
      · subst es; simp only [setF_at]; rw [hg]; simp
      · simp only [setF_ne _ _ es]
    · rw [hg]; unfold restW; simp only [sumL_cons]; omega
    · refine cells_set h hfin fun p => ?_
      rw [hpl]
      exact done_put hrK (by rw [hg]; unfold dW; simp only [sumL_cons]; omega) (by rw [hg]) p
theorem step_nought (c : Cok C size base) (F : Fok C final) (h : Inv C size base final Q) {j r fr : Nat} (hj : j < C.n) (hp : Q.ph j = .nought r fr) : Inv C size base final (Q.step C j) := by
  have hr : held (Q.ph j) = some r := by rw [hp]; rfl
  have hpm := h.pm j r hj hr
  rw [hp] at hpm
  obtain ⟨hg, hi⟩ := hpm
  have hrK := (h.hl j r hj hr).1
  have G := h.gok r hrK
  have G' := G
  rw [hg] at G'
  have hlo := G'.lo
  simp only at hlo
  have hup : C.up r ≤ C.fr0 (r + 1) := by show C.up r ≤ max (C.up r) C.T; omega
  have htop : C.up r ≤ C.top := bg_top (W := C.W) c.top_ (r + 1)
  have hT := c.fr0_T r
  have haz := aw_zero h hj hr (fun s e => by rw [hp] at e; cases e)
  have hlp := left_pos h hrK (by rw [hg]; unfold restW; simp only; omega)
  have e : Q.step C j = { Q with cell := setF Q.cell fr 0, left := Q.left - 1, ph := setF Q.ph j (turnP C r [] [] (fr + 1)), g := setF Q.g r ⟨[], 0, [], fr + 1⟩ } := by unfold Pm.step; rw [hp]
  rw [e]
  have Gn : GOk C r ⟨[], 0, [], fr + 1⟩ := ⟨G'.suf, fun _ _ e => (by cases e), fun _ => rfl, G'.tel, by show C.fr0 r ≤ fr + 1; omega, by show fr + 1 ≤ _; omega, fun e => absurd rfl e⟩
  refine inv_turn (Q' := { Q with cell := setF Q.cell fr 0, left := Q.left - 1, ph := setF Q.ph j (turnP C r [] [] (fr + 1)), g := setF Q.g r ⟨[], 0, [], fr + 1⟩ }) (g' := ⟨[], 0, [], fr + 1⟩) h hj hr rfl rfl rfl (turnP_ok c Gn) Gn ?_ (fun _ _ => Nat.le_refl _) haz ?_ (by rw [hg]) ?_
  · intro k hk
    rw [show Q.aw k = _ from h.aw k hk]
    refine sm_congr fun s _ => ?_
    by_cases es : s = r
    · subst es; simp only [setF_at]; rw [hg]
    · simp only [setF_ne _ _ es]
  · rw [hg]; unfold restW; simp only; omega
  · refine cells_set h (F.nil fr (by omega) (by omega)).symm fun p => ?_
    have := done_nil (C := C) (g := Q.g) (g' := ⟨[], 0, [], fr + 1⟩) hrK (by rw [hg]; rfl) (by rw [hg]) (by rw [hg]; exact hlo) p
    rw [this, hg]
theorem step_tell (c : Cok C size base) (h : Inv C size base final Q) {j r a : Nat} {aw : List Nat} {st : List (Nat × Ob)} {fr : Nat} (hj : j < C.n) (hp : Q.ph j = .tell r a aw st fr) : Inv C size base final (Q.step C j) := by
  have hr : held (Q.ph j) = some r := by rw [hp]; rfl
  have hg : Q.g r = ⟨st, 0, a :: aw, fr⟩ := by have := h.pm j r hj hr; rw [hp] at this; exact this
  have hrK := (h.hl j r hj hr).1
  have G' := h.gok r hrK
  rw [hg] at G'
  have haz := aw_zero h hj hr (fun s e => by rw [hp] at e; cases e)
  have e : Q.step C j = { Q with aw := setF Q.aw a (Q.aw a - 1), ph := setF Q.ph j (turnP C r aw st fr), g := setF Q.g r ⟨st, 0, aw, fr⟩ } := by unfold Pm.step; rw [hp]
  rw [e]
  obtain ⟨ha1, ha2, _⟩ := G'.tel a (by simp)
  have Gn : GOk C r ⟨st, 0, aw, fr⟩ := ⟨G'.suf, G'.wd, G'.wd0, fun b hb => G'.tel b (by simp only [List.mem_cons]; exact .inr hb), G'.lo, G'.hi, G'.nf⟩
  refine inv_turn (Q' := { Q with aw := setF Q.aw a (Q.aw a - 1), ph := setF Q.ph j (turnP C r aw st fr), g := setF Q.g r ⟨st, 0, aw, fr⟩ }) (g' := ⟨st, 0, aw, fr⟩) h hj hr rfl rfl rfl (turnP_ok c Gn) Gn ?_ ?_ ?_ (by rw [hg]; rfl) (by rw [hg]) ?_
  · intro k hk
    have h1 := h.aw k hk
    have h2 := sm_upd (n := C.K) (h := fun s => List.count k ((Q.g s).tel ++ (Q.g s).rem.flatMap C.aws)) (h' := fun s => List.count k ((setF Q.g r ⟨st, 0, aw, fr⟩ s).tel ++ (setF Q.g r ⟨st, 0, aw, fr⟩ s).rem.flatMap C.aws)) hrK (fun s _ hs => by simp only [setF_ne _ _ hs])
    simp only [setF_at, hg, List.cons_append, List.count_cons] at h2
    show setF Q.aw a (Q.aw a - 1) k = sm C.K fun s => List.count k ((setF Q.g r ⟨st, 0, aw, fr⟩ s).tel ++ (setF Q.g r ⟨st, 0, aw, fr⟩ s).rem.flatMap C.aws)
    by_cases ek : k = a
    · subst ek
      rw [setF_at]
      simp at h2
      simp only [List.count_append] at h1 ⊢
      omega
    · rw [setF_ne _ _ ek]
      have : (a == k) = false := by simp; omega
      rw [this] at h2
      simp only [Bool.false_eq_true, if_false, Nat.add_zero] at h2
      omega
  · intro k hk
    show setF Q.aw a (Q.aw a - 1) k ≤ _
    by_cases ek : k = a
    · subst ek; rw [setF_at]; omega
    · rw [setF_ne _ _ ek]; exact Nat.le_refl _
  · show setF Q.aw a (Q.aw a - 1) r = 0
    rw [setF_ne _ _ (by omega)]; exact haz
  · intro p hp
    have hD : Done C (setF Q.g r ⟨st, 0, aw, fr⟩) p ↔ Done C Q.g p := by
      unfold Done
      refine exists_congr fun s => and_congr_right fun _ => ?_
      by_cases es : s = r
      · subst es; rw [setF_at, hg]; rfl
      · rw [setF_ne _ _ es]
    rw [hD]
    exact h.cells p hp
end
end Go.Proofs.YtklhdilbmpndkaaGreat

namespace Go.Proofs.YtklhdilbmpndkaaGreat
set_option maxRecDepth 20000
open Go.RowKit Go.Sort
set_option linter.unusedVariables false
set_option linter.unusedSimpArgs false


section
variable {C : Cx} {size : Nat} {base final : Nat → Int} {Q : Pm}
/-- Who is waited for. -/
theorem aw_mem (h : Inv C size base final Q) {k : Nat} (hk : k < C.K) (ha : Q.aw k ≠ 0) : ∃ r, r < k ∧ r < C.K ∧ 0 < C.lv k ∧ ((Q.g r).tel ≠ [] ∨ (Q.g r).rem ≠ []) := by
  rw [h.aw k hk] at ha
  obtain ⟨r, hr, h1⟩ := sm_pos ha
  have hm : k ∈ (Q.g r).tel ++ (Q.g r).rem.flatMap C.aws := by
    rw [← List.count_pos_iff]; omega
  have G := h.gok r hr
  rcases List.mem_append.1 hm with h2 | h2
  · obtain ⟨h3, _, h4⟩ := G.tel k h2
    exact ⟨r, h3, hr, h4, .inl fun e => by rw [e] at h2; cases h2⟩
  · obtain ⟨x, hx, h3⟩ := List.mem_flatMap.1 h2
    obtain ⟨dn, hdn⟩ := G.suf
    obtain ⟨h4, _, h5⟩ := sts_mem.1 (show x ∈ C.sts r by rw [hdn]; exact List.mem_append_right _ hx)
    have h6 := awL_after h4 h3
    rw [h5] at h6
    exact ⟨r, h6, hr, awL_live h3, .inr fun e => by rw [e] at hx; cases hx⟩
theorem step_claim (c : Cok C size base) (h : Inv C size base final Q) {j : Nat} (hj : j < C.n) (hp : Q.ph j = .claim) : Inv C size base final (Q.step C j) := by
  have e : Q.step C j = { Q with cl := Q.cl + 1, ph := setF Q.ph j (claimP C Q.cl) } := by unfold Pm.step; rw [hp]
  rw [e]
  have hjn : held (Q.ph j) = none := by rw [hp]; rfl
  by_cases hk : C.K ≤ Q.cl
  · have ep : claimP C Q.cl = .rest := by unfold claimP; rw [if_pos hk]
    rw [ep]
    have hh : ∀ i s, held (setF Q.ph j .rest i) = some s → i ≠ j ∧ held (Q.ph i) = some s := by
      intro i s hs
      by_cases e : i = j
      · subst e; rw [setF_at] at hs; cases hs
      · rw [setF_ne _ _ e] at hs; exact ⟨e, hs⟩
    refine ⟨?_, ?_, ?_, ?_, ?_, h.gok, h.aw, ?_, h.left, h.moved, h.cells, ?_, ?_⟩
    · intro i k s hi hk2 hs ht
      exact h.uniq i k s hi hk2 (hh i s hs).2 (hh k s ht).2
    · intro i s hi hs
      have := h.hl i s hi (hh i s hs).2
      exact ⟨this.1, by show s < Q.cl + 1; omega⟩
    · intro i s hi hs
      show PhM C (Q.g s) (setF Q.ph j .rest i)
      rw [setF_ne _ _ (hh i s hs).1]
      exact h.pm i s hi (hh i s hs).2
    · intro r hr hc
      exact h.new r hr (by have : Q.cl + 1 ≤ r := hc; omega)
    · intro r hr hc hno
      refine h.fin r hr (by omega) fun i hi hi2 => ?_
      have e1 : i ≠ j := fun e1 => by subst e1; rw [hjn] at hi2; cases hi2
      exact hno i hi (by show held (setF Q.ph j .rest i) = _; rw [setF_ne _ _ e1]; exact hi2)
    · intro r hr hc hno
      refine h.aw0 r hr (by omega) fun i hi hi2 => ?_
      have e1 : i ≠ j := fun e1 => by subst e1; rw [hp] at hi2; cases hi2
      exact hno i hi (by show setF Q.ph j .rest i = _; rw [setF_ne _ _ e1]; exact hi2)
    · intro i hi hs
      show C.K ≤ Q.cl + 1
      omega
    · show Q.cl + 1 ≤ C.K + sm C.n fun i => isRest (setF Q.ph j .rest i)
      have h1 := h.clb
      have h2 := sm_upd (n := C.n) (h := fun i => isRest (Q.ph i)) (h' := fun i => isRest (setF Q.ph j .rest i)) hj (fun i _ hi => by simp only [setF_ne _ _ hi])
      simp only [setF_at, hp] at h2
      have h3 : isRest .rest = 1 := rfl
      have h4 : isRest .claim = 0 := rfl
      omega
  · obtain ⟨p', hp'⟩ : ∃ p', claimP C Q.cl = p' := ⟨_, rfl⟩
    rw [hp']
    have hgs := h.new Q.cl (by omega) (Nat.le_refl _)
    have hcase : (held p' = some Q.cl ∧ PhM C (Q.g Q.cl) p' ∧ (∀ s, p' = .await s → s = Q.cl)) ∨ (p' = .claim ∧ Q.g Q.cl = C.fin Q.cl) := by
      unfold claimP at hp'
      rw [if_neg hk] at hp'
      by_cases hs : 0 < (C.sts Q.cl).length
      · rw [if_pos hs] at hp'
        subst hp'
        exact .inl ⟨rfl, ⟨hgs, hs⟩, fun s e => by injection e with e; exact e.symm⟩
      · rw [if_neg hs] at hp'
        have h0 : C.sts Q.cl = [] := List.eq_nil_of_length_eq_zero (by omega)
        have hst : C.start Q.cl = ⟨[], 0, [], C.fr0 Q.cl⟩ := by unfold Cx.start; rw [h0]
        have G := gok_start c Q.cl
        rw [hst] at G hgs
        rcases turnP_ok c G with ⟨h1, h2, h3⟩ | ⟨h1, h2⟩
        · rw [hp'] at h1 h2 h3
          exact .inl ⟨h1, by rw [hgs]; exact h2, fun s e => absurd e (h3 s)⟩
        · rw [hp'] at h1
          exact .inr ⟨h1, by rw [hgs]; exact h2⟩
    have hpr : isRest p' = 0 := by
      rcases hcase with ⟨h1, _⟩ | ⟨rfl, _⟩
      · exact rest_of_held h1
      · rfl
    have hawl : (∀ s, p' ≠ .await s) → Q.aw Q.cl = 0 := by
      intro hna
      by_cases h0 : Q.aw Q.cl = 0
      · exact h0
      · obtain ⟨r, _, _, hlv, _⟩ := aw_mem h (by omega) h0
        unfold claimP at hp'
        rw [if_neg hk] at hp'
        by_cases hs : 0 < (C.sts Q.cl).length
        · rw [if_pos hs] at hp'
          exact absurd hp'.symm (hna _)
        · have h1 : C.sts Q.cl = [] := List.eq_nil_of_length_eq_zero (by omega)
          rw [lv_sts, h1] at hlv
          exact absurd hlv (Nat.lt_irrefl 0)
    have hh : ∀ i s, held (setF Q.ph j p' i) = some s → (i = j ∧ s = Q.cl ∧ held p' = some Q.cl) ∨ (i ≠ j ∧ held (Q.ph i) = some s) := by
      intro i s hs
      by_cases e : i = j
      · subst e
        rw [setF_at] at hs
        rcases hcase with ⟨h1, _⟩ | ⟨rfl, _⟩
        · rw [h1] at hs; injection hs with hs; exact .inl ⟨rfl, hs.symm, h1⟩
        · cases hs
      · rw [setF_ne _ _ e] at hs; exact .inr ⟨e, hs⟩
    refine ⟨?_, ?_, ?_, ?_, ?_, h.gok, h.aw, ?_, h.left, h.moved, h.cells, ?_, ?_⟩
    · intro i k s hi hk2 hs ht
      rcases hh i s hs with ⟨rfl, e1, _⟩ | ⟨_, h1⟩
      · rcases hh k s ht with ⟨rfl, _, _⟩ | ⟨_, h2⟩
        · rfl
        · have := (h.hl k s hk2 h2).2; omega
      · rcases hh k s ht with ⟨rfl, e2, _⟩ | ⟨_, h2⟩
        · have := (h.hl i s hi h1).2; omega
        · exact h.uniq i k s hi hk2 h1 h2
    · intro i s hi hs
      show s < C.K ∧ s < Q.cl + 1
      rcases hh i s hs with ⟨rfl, rfl, _⟩ | ⟨_, h1⟩
      · omega
      · have := h.hl i s hi h1; omega
    · intro i s hi hs
      show PhM C (Q.g s) (setF Q.ph j p' i)
      rcases hh i s hs with ⟨rfl, rfl, h0⟩ | ⟨e1, h1⟩
      · rw [setF_at]
        rcases hcase with ⟨_, h2, _⟩ | ⟨rfl, _⟩
        · exact h2
        · trivial
      · rw [setF_ne _ _ e1]
        exact h.pm i s hi h1
    · intro r hr hc
      exact h.new r hr (by have : Q.cl + 1 ≤ r := hc; omega)
    · intro r hr hc hno
      have hc' : r < Q.cl + 1 := hc
      by_cases e : r = Q.cl
      · subst e
        rcases hcase with ⟨h1, _⟩ | ⟨_, h2⟩
        · exact absurd (show held (setF Q.ph j p' j) = some Q.cl by rw [setF_at]; exact h1) (hno j hj)
        · exact h2
      · refine h.fin r hr (by omega) fun i hi hi2 => ?_
        have e1 : i ≠ j := fun e1 => by subst e1; rw [hjn] at hi2; cases hi2
        exact hno i hi (by show held (setF Q.ph j p' i) = _; rw [setF_ne _ _ e1]; exact hi2)
    · intro r hr hc hno
      have hc' : r < Q.cl + 1 := hc
      by_cases e : r = Q.cl
      · subst e
        refine hawl fun s es => ?_
        rcases hcase with ⟨_, _, h3⟩ | ⟨h1, _⟩
        · have := h3 s es
          subst this
          exact hno j hj (by show setF Q.ph j p' j = _; rw [setF_at]; exact es)
        · rw [h1] at es; cases es
      · refine h.aw0 r hr (by omega) fun i hi hi2 => ?_
        have e1 : i ≠ j := fun e1 => by subst e1; rw [hp] at hi2; cases hi2
        exact hno i hi (by show setF Q.ph j p' i = _; rw [setF_ne _ _ e1]; exact hi2)
    · intro i hi hs
      show C.K ≤ Q.cl + 1
      have hs' : setF Q.ph j p' i = .rest := hs
      by_cases e : i = j
      · subst e; rw [setF_at] at hs'; rw [hs'] at hpr; cases hpr
      · rw [setF_ne _ _ e] at hs'; have := h.restc i hi hs'; omega
    · show Q.cl + 1 ≤ _
      omega
/-- Whatever is done next. -/
theorem step_inv (c : Cok C size base) (F : Fok C final) (h : Inv C size base final Q) {j : Nat} (hj : j < C.n) : Inv C size base final (Q.step C j) := by
  cases hp : Q.ph j with
  | claim => exact step_claim c h hj hp
  | rest => unfold Pm.step; rw [hp]; exact h
  | await r =>
    by_cases ha : Q.aw r = 0
    · exact step_await c h hj hp ha
    · have : Q.step C j = Q := by unfold Pm.step; rw [hp]; simp [ha]
      rw [this]; exact h
  | take r x i st fr => exact step_take h hj hp
  | put r x i v st fr => exact step_put c F h hj hp
  | tell r a aw st fr => exact step_tell c h hj hp
  | nought r fr => exact step_nought c F h hj hp
/-- What is to be moved is as it was. -/
theorem src_free (c : Cok C size base) (h : Inv C size base final Q) {j r : Nat} {x : Nat × Ob} {i : Nat} {st : List (Nat × Ob)} {fr : Nat} (hj : j < C.n) (hp : Q.ph j = .take r x i st fr) : x.1 + i < C.top ∧ Q.cell (x.1 + i) = srcW x i := by
  have hr : held (Q.ph j) = some r := by rw [hp]; rfl
  have hpm := h.pm j r hj hr
  rw [hp] at hpm
  obtain ⟨hg, hi⟩ := hpm
  have hrK := (h.hl j r hj hr).1
  have G := h.gok r hrK
  obtain ⟨dn, hdn, hdw⟩ := G.dn
  rw [hg] at hdn hdw
  have hgo := go_at hdn
  have hx := sts_mem.1 (show x ∈ C.sts r by rw [hdn]; simp)
  have hle : C.go x ≤ x.1 := go_le' hx.1
  have hend : x.1 + 1 + x.2.2.length ≤ 0 + (flat C.obs).length := adr_end hx.1
  have htop := c.top_
  have hsz := c.size
  refine ⟨by omega, ?_⟩
  rw [← c.at_ x hx.1 i hi]
  refine (h.cells (x.1 + i) (by omega)).2 ?_
  rintro ⟨s, hs, h1 | h1⟩
  · by_cases e : s = r
    · subst e
      rw [hg, hdw] at h1
      simp only at h1
      omega
    · have Gs := h.gok s hs
      have hd := Gs.d_le
      have hcl : s < Q.cl := by
        rcases Nat.lt_or_ge s Q.cl with h2 | h2
        · exact h2
        · have := h.new s hs h2
          rw [this] at h1
          have : dW C s (C.start s) = 0 := by unfold dW Cx.start; rw [lv_sts]; simp only; omega
          omega
      have hz := h.aw0 s hs hcl fun k hk hk2 => by
        have h2 := h.pm k s hk (by rw [hk2]; rfl)
        rw [hk2] at h2
        rw [h2.1] at h1
        have : dW C s (C.start s) = 0 := by unfold dW Cx.start; rw [lv_sts]; simp only; omega
        omega
      have hn : s ∉ C.aws x := by
        intro hm
        have h2 := h.aw s hs
        have h3 := sm_at (h := fun r => List.count s ((Q.g r).tel ++ (Q.g r).rem.flatMap C.aws)) hrK
        have h4 : 0 < List.count s ((Q.g r).tel ++ (Q.g r).rem.flatMap C.aws) := by
          rw [List.count_pos_iff, hg]
          simp [hm]
        have h5 : List.count s ((Q.g r).tel ++ (Q.g r).rem.flatMap C.aws) ≤ sm C.K (fun r => List.count s ((Q.g r).tel ++ (Q.g r).rem.flatMap C.aws)) := h3
        omega
      have h6 := fi_succ (C := C) s
      rcases awL_not hs (by rw [hx.2.2]; exact e) (show 0 < C.lv s by omega) hn with h7 | h7
      · have h8 : C.fi (s + 1) ≤ x.1 := h7
        omega
      · have h8 : x.1 + x.2.2.length < C.fi s := h7
        omega
  · by_cases e : s = r
    · subst e
      have := G.nf (by rw [hg]; simp)
      omega
    · have Gs := h.gok s hs
      have h2 := Gs.hi
      have h3 : C.fr0 s = max (bgR C.W C.L C.top s) C.T := rfl
      have h4 : C.fr0 (s + 1) = max (bgR C.W C.L C.top (s + 1)) C.T := rfl
      have h5 : bgR C.W C.L C.top r ≤ x.1 := bg_le hx.1 (by rw [hx.2.2]; exact Nat.le_refl _)
      have h6 : x.1 + 1 + x.2.2.length ≤ bgR C.W C.L C.top (r + 1) := bg_ge c.top_ hx.1 (by rw [hx.2.2]; omega)
      rcases Nat.lt_or_ge s r with h7 | h7
      · have h8 : bgR C.W C.L C.top (s + 1) ≤ bgR C.W C.L C.top r := bg_mono c.top_ (by omega)
        omega
      · have h8 : bgR C.W C.L C.top (r + 1) ≤ bgR C.W C.L C.top s := bg_mono c.top_ (by omega)
        omega
def can (Q : Pm) (j : Nat) : Prop := Q.ph j ≠ .rest ∧ ∀ r, Q.ph j = .await r → Q.aw r = 0
/-- Somebody can go on. -/
theorem goes_on (c : Cok C size base) (h : Inv C size base final Q) (hl : Q.left ≠ 0) : ∃ j, j < C.n ∧ can Q j := by
  by_cases hex : ∃ j, j < C.n ∧ can Q j
  · exact hex
  · exfalso
    have hall : ∀ j, j < C.n → Q.ph j = .rest ∨ ∃ r, Q.ph j = .await r ∧ Q.aw r ≠ 0 := by
      intro j hj
      by_cases h1 : Q.ph j = .rest
      · exact .inl h1
      · by_cases h2 : ∃ r, Q.ph j = .await r ∧ Q.aw r ≠ 0
        · exact .inr h2
        · refine absurd ⟨j, hj, h1, fun r hr => ?_⟩ hex
          by_cases h3 : Q.aw r = 0
          · exact h3
          · exact absurd ⟨r, hr, h3⟩ h2
    have hno : ∀ r, ∀ j, j < C.n → Q.ph j = .await r → Q.aw r ≠ 0 → False := by
      intro r
      induction r using Nat.strongRecOn with
      | ind r ih =>
        intro j hj hp ha
        obtain ⟨h1, h2⟩ := h.hl j r hj (by rw [hp]; rfl)
        obtain ⟨s, hs, hsK, _, h3⟩ := aw_mem h h1 ha
        by_cases hh : ∃ i, i < C.n ∧ held (Q.ph i) = some s
        · obtain ⟨i, hi, hi2⟩ := hh
          rcases hall i hi with h4 | ⟨t, h4, h5⟩
          · rw [h4] at hi2; cases hi2
          · rw [h4] at hi2
            injection hi2 with hi2
            subst hi2
            exact ih t hs i hi h4 h5
        · have h4 := h.fin s hsK (by omega) fun i hi hi2 => hh ⟨i, hi, hi2⟩
          rw [h4] at h3
          rcases h3 with h3 | h3 <;> exact h3 rfl
    have hrest : ∀ j, j < C.n → Q.ph j = .rest := by
      intro j hj
      rcases hall j hj with h1 | ⟨r, h1, h2⟩
      · exact h1
      · exact (hno r j hj h1 h2).elim
    have hK := h.restc 0 (by have := c.n1; omega) (hrest 0 (by have := c.n1; omega))
    rw [h.left] at hl
    obtain ⟨r, hr, h1⟩ := sm_pos hl
    have h2 := h.fin r hr (by omega) fun i hi hi2 => by rw [hrest i hi] at hi2; cases hi2
    rw [h2] at h1
    apply h1
    unfold restW Cx.fin
    simp [sumL]
end
end Go.Proofs.YtklhdilbmpndkaaGreat

namespace Go.Proofs.YtklhdilbmpndkaaGreat
set_option maxRecDepth 20000
open Go.RowKit Go.Sort
set_option linter.unusedVariables false
set_option linter.unusedSimpArgs false


def om : Ph → Nat
  | .claim => 1
  | .rest => 0
  | .await _ => 3
  | .take _ _ _ _ _ => 2
  | .put _ _ _ _ _ _ => 1
  | .tell _ _ _ _ _ => 2
  | .nought _ _ => 2
def Phi (C : Cx) (Q : Pm) : Nat := 3 * (C.K - Q.cl) + 2 * Q.left + sm C.K Q.aw + sm C.n fun i => om (Q.ph i)
section
variable {C : Cx} {size : Nat} {base final : Nat → Int} {Q : Pm}
theorem om_turn (r : Nat) (aw : List Nat) (st : List (Nat × Ob)) (fr : Nat) : om (turnP C r aw st fr) ≤ 2 := by
  match aw, st with
  | a :: aw, st => exact Nat.le_refl _
  | [], x :: st => exact Nat.le_refl _
  | [], [] =>
    show om (if fr < C.up r then .nought r fr else .claim) ≤ 2
    split <;> simp [om]
theorem om_claim (cl : Nat) (h : ¬ C.K ≤ cl) : om (claimP C cl) ≤ 3 := by
  unfold claimP
  rw [if_neg h]
  split
  · exact Nat.le_refl _
  · have := om_turn (C := C) cl [] [] (C.fr0 cl); omega
theorem stuck {j : Nat} (hn : ¬ can Q j) : Q.step C j = Q := by
  cases hp : Q.ph j with
  | claim => exact absurd ⟨by rw [hp]; exact fun e => (by cases e), fun r e => (by rw [hp] at e; cases e)⟩ hn
  | rest => unfold Pm.step; rw [hp]
  | await r =>
    by_cases ha : Q.aw r = 0
    · exact absurd ⟨by rw [hp]; exact fun e => (by cases e), fun s e => by rw [hp] at e; injection e with e; rw [← e]; exact ha⟩ hn
    · unfold Pm.step; rw [hp]; simp [ha]
  | take r x i st fr => exact absurd ⟨by rw [hp]; exact fun e => (by cases e), fun r e => (by rw [hp] at e; cases e)⟩ hn
  | put r x i v st fr => exact absurd ⟨by rw [hp]; exact fun e => (by cases e), fun r e => (by rw [hp] at e; cases e)⟩ hn
  | tell r a aw st fr => exact absurd ⟨by rw [hp]; exact fun e => (by cases e), fun r e => (by rw [hp] at e; cases e)⟩ hn
  | nought r fr => exact absurd ⟨by rw [hp]; exact fun e => (by cases e), fun r e => (by rw [hp] at e; cases e)⟩ hn
theorem om_upd {j : Nat} (hj : j < C.n) (p' : Ph) : (sm C.n fun i => om (setF Q.ph j p' i)) + om (Q.ph j) = (sm C.n fun i => om (Q.ph i)) + om p' := by
  have := sm_upd (n := C.n) (h := fun i => om (Q.ph i)) (h' := fun i => om (setF Q.ph j p' i)) hj (fun i _ hi => by simp only [setF_ne _ _ hi])
  simp only [setF_at] at this
  exact this
/-- Each step that isn't in vain brings it on. -/
theorem phi_falls (h : Inv C size base final Q) {j : Nat} (hj : j < C.n) (hc : can Q j) : Phi C (Q.step C j) < Phi C Q := by
  cases hp : Q.ph j with
  | claim =>
    have e : Q.step C j = { Q with cl := Q.cl + 1, ph := setF Q.ph j (claimP C Q.cl) } := by unfold Pm.step; rw [hp]
    rw [e]
    have h1 := om_upd (C := C) (Q := Q) hj (claimP C Q.cl)
    rw [hp] at h1
    have h2 : om .claim = 1 := rfl
    unfold Phi
    simp only
    by_cases hk : C.K ≤ Q.cl
    · have h3 : om (claimP C Q.cl) = 0 := by unfold claimP; rw [if_pos hk]; rfl
      omega
    · have h3 := om_claim (C := C) Q.cl hk
      omega
  | rest => exact absurd hp hc.1
  | await r =>
    have ha := hc.2 r hp
    have e : Q.step C j = { Q with ph := setF Q.ph j (turnP C r [] (C.sts r) (C.fr0 r)) } := by unfold Pm.step; rw [hp]; simp [ha]
    rw [e]
    have h1 := om_upd (C := C) (Q := Q) hj (turnP C r [] (C.sts r) (C.fr0 r))
    rw [hp] at h1
    have h2 : om (.await r) = 3 := rfl
    have h3 := om_turn (C := C) r [] (C.sts r) (C.fr0 r)
    unfold Phi
    simp only
    omega
  | take r x i st fr =>
    have e : Q.step C j = { Q with ph := setF Q.ph j (.put r x i (dstW C.f C.L x i) st fr) } := by unfold Pm.step; rw [hp]
    rw [e]
    have h1 := om_upd (C := C) (Q := Q) hj (.put r x i (dstW C.f C.L x i) st fr)
    rw [hp] at h1
    have h2 : om (.take r x i st fr) = 2 := rfl
    have h3 : om (.put r x i (dstW C.f C.L x i) st fr) = 1 := rfl
    unfold Phi
    simp only
    omega
  | put r x i v st fr =>
    have hr : held (Q.ph j) = some r := by rw [hp]; rfl
    have hpm := h.pm j r hj hr
    rw [hp] at hpm
    obtain ⟨hg, hi, _⟩ := hpm
    have hrK := (h.hl j r hj hr).1
    have hlp := left_pos h hrK (by rw [hg]; unfold restW; simp only [sumL_cons]; omega)
    have h2 : om (.put r x i v st fr) = 1 := rfl
    by_cases hm : i + 1 ≤ x.2.2.length
    · have e : Q.step C j = { Q with cell := setF Q.cell (C.go x + i) v, left := Q.left - 1, ph := setF Q.ph j (.take r x (i + 1) st fr), g := setF Q.g r ⟨x :: st, i + 1, [], fr⟩ } := by unfold Pm.step; rw [hp]; simp only [if_pos hm]
      rw [e]
      have h1 := om_upd (C := C) (Q := Q) hj (.take r x (i + 1) st fr)
      rw [hp] at h1
      have h3 : om (.take r x (i + 1) st fr) = 2 := rfl
      unfold Phi
      simp only
      omega
    · have e : Q.step C j = { Q with cell := setF Q.cell (C.go x + i) v, left := Q.left - 1, moved := Q.moved + 1, ph := setF Q.ph j (turnP C r (C.aws x) st fr), g := setF Q.g r ⟨st, 0, C.aws x, fr⟩ } := by unfold Pm.step; rw [hp]; simp only [if_neg hm]
      rw [e]
      have h1 := om_upd (C := C) (Q := Q) hj (turnP C r (C.aws x) st fr)
      rw [hp] at h1
      have h3 := om_turn (C := C) r (C.aws x) st fr
      unfold Phi
      simp only
      omega
  | tell r a aw st fr =>
    have hr : held (Q.ph j) = some r := by rw [hp]; rfl
    have hg : Q.g r = ⟨st, 0, a :: aw, fr⟩ := by have := h.pm j r hj hr; rw [hp] at this; exact this
    have hrK := (h.hl j r hj hr).1
    have G := h.gok r hrK
    have haK : a < C.K := (G.tel a (by rw [hg]; simp)).2.1
    have haw := h.aw a haK
    have h5 : List.count a ((Q.g r).tel ++ (Q.g r).rem.flatMap C.aws) ≤ sm C.K (fun r => List.count a ((Q.g r).tel ++ (Q.g r).rem.flatMap C.aws)) := sm_at (h := fun r => List.count a ((Q.g r).tel ++ (Q.g r).rem.flatMap C.aws)) hrK
    have h6 : 0 < List.count a ((Q.g r).tel ++ (Q.g r).rem.flatMap C.aws) := by rw [List.count_pos_iff, hg]; simp
    have e : Q.step C j = { Q with aw := setF Q.aw a (Q.aw a - 1), ph := setF Q.ph j (turnP C r aw st fr), g := setF Q.g r ⟨st, 0, aw, fr⟩ } := by unfold Pm.step; rw [hp]
    rw [e]
    have h1 := om_upd (C := C) (Q := Q) hj (turnP C r aw st fr)
    rw [hp] at h1
    have h2 : om (.tell r a aw st fr) = 2 := rfl
    have h3 := om_turn (C := C) r aw st fr
    have h7 := sm_upd (n := C.K) (h := Q.aw) (h' := setF Q.aw a (Q.aw a - 1)) haK (fun i _ hi => setF_ne _ _ hi)
    rw [setF_at] at h7
    unfold Phi
    simp only
    omega
  | nought r fr =>
    have hr : held (Q.ph j) = some r := by rw [hp]; rfl
    have hpm := h.pm j r hj hr
    rw [hp] at hpm
    obtain ⟨hg, hi⟩ := hpm
    have hrK := (h.hl j r hj hr).1
    have hup : C.up r ≤ C.fr0 (r + 1) := by show C.up r ≤ max (C.up r) C.T; omega
    have hlp := left_pos h hrK (by rw [hg]; unfold restW; simp only; omega)
    have e : Q.step C j = { Q with cell := setF Q.cell fr 0, left := Q.left - 1, ph := setF Q.ph j (turnP C r [] [] (fr + 1)), g := setF Q.g r ⟨[], 0, [], fr + 1⟩ } := by unfold Pm.step; rw [hp]
    rw [e]
    have h1 := om_upd (C := C) (Q := Q) hj (turnP C r [] [] (fr + 1))
    rw [hp] at h1
    have h2 : om (.nought r fr) = 2 := rfl
    have h3 := om_turn (C := C) r [] [] (fr + 1)
    unfold Phi
    simp only
    omega
theorem find_step (F : Nat → Nat) (p : Nat) : ∀ K, F 0 ≤ p → p < F K → ∃ r, r < K ∧ F r ≤ p ∧ p < F (r + 1)
  | 0, h1, h2 => by omega
  | K + 1, h1, h2 => by
    rcases Nat.lt_or_ge p (F K) with h3 | h3
    · obtain ⟨r, h4, h5⟩ := find_step F p K h1 h3
      exact ⟨r, by omega, h5⟩
    · exact ⟨K, by omega, h3, h2⟩
theorem fr0_zero (c : Cok C size base) : C.fr0 0 = C.T := by
  have : bgR C.W C.L C.top 0 = 0 := bg_zero c.top_
  unfold Cx.fr0; omega
theorem fr0_last (c : Cok C size base) : C.fr0 C.K = C.top := by
  have h1 : bgR C.W C.L C.top C.K = C.top := bg_last c.top_ c.w1 (by rw [← c.many]; exact Nat.le_refl _)
  have h2 := c.fi_top C.K
  have h3 : C.T = C.fi C.K := c.sum
  unfold Cx.fr0; omega
theorem at_end (c : Cok C size base) (h : Inv C size base final Q) (hl : Q.left = 0) : (∀ p, p < C.top → Q.cell p = final p) ∧ (∀ p, C.top ≤ p → p < size → Q.cell p = base p) ∧ Q.moved = sm C.K fun r => (C.sts r).length := by
  have hr0 : ∀ r, r < C.K → restW C r (Q.g r) = 0 := by
    intro r hr
    have h1 : restW C r (Q.g r) ≤ sm C.K (fun r => restW C r (Q.g r)) := sm_at (h := fun r => restW C r (Q.g r)) hr
    have := h.left
    omega
  have hg : ∀ r, r < C.K → (Q.g r).rem = [] ∧ (Q.g r).fr = C.fr0 (r + 1) ∧ dW C r (Q.g r) = C.lv r := by
    intro r hr
    have h1 := hr0 r hr
    have G := h.gok r hr
    have hw := G.wd_le
    have hrem : (Q.g r).rem = [] := by
      cases e : (Q.g r).rem with
      | nil => rfl
      | cons x st =>
        have h2 := G.wd x st e
        unfold restW at h1
        rw [e, sumL_cons] at h1
        omega
    have h2 := G.hi
    have h3 := G.wd0 hrem
    refine ⟨hrem, ?_, ?_⟩
    · unfold restW at h1; omega
    · unfold dW; rw [hrem, h3]; simp [sumL]
  have hsz := c.size
  refine ⟨fun p hp => ?_, fun p hp hps => ?_, ?_⟩
  · refine (h.cells p (by omega)).1 ?_
    rcases Nat.lt_or_ge p C.T with h1 | h1
    · obtain ⟨r, hr, h2, h3⟩ := find_step C.fi p C.K (Nat.zero_le _) (by have : C.T = C.fi C.K := c.sum; omega)
      exact ⟨r, hr, .inl ⟨h2, by rw [(hg r hr).2.2]; rw [fi_succ] at h3; exact h3⟩⟩
    · obtain ⟨r, hr, h2, h3⟩ := find_step C.fr0 p C.K (by rw [fr0_zero c]; exact h1) (by rw [fr0_last c]; exact hp)
      exact ⟨r, hr, .inr ⟨h2, by rw [(hg r hr).2.1]; exact h3⟩⟩
  · refine (h.cells p hps).2 ?_
    rintro ⟨r, hr, h1 | h1⟩
    · rw [(hg r hr).2.2] at h1
      have h2 := fi_succ (C := C) r
      have h3 := c.fi_top (r + 1)
      omega
    · have h2 := (h.gok r hr).hi
      have h3 := c.fr0_top (r + 1)
      omega
  · have h1 := h.moved
    have h2 : (sm C.K fun r => (Q.g r).rem.length) = sm C.K fun _ => 0 := sm_congr fun r hr => by rw [(hg r hr).1]; rfl
    rw [h2, sm_const] at h1
    omega
theorem sm_tele (F : Nat → Nat) (hm : ∀ r, F r ≤ F (r + 1)) : ∀ K, (sm K fun r => F (r + 1) - F r) + F 0 = F K
  | 0 => by simp [sm]
  | K + 1 => by
    have h1 := sm_tele F hm K
    have h2 := hm K
    rw [sm_succ]
    omega
def Pm.init (C : Cx) (base : Nat → Int) (aw : Nat → Nat) : Pm := ⟨base, 0, aw, C.top, 0, fun _ => .claim, C.start⟩
theorem inv_init (c : Cok C size base) (aw : Nat → Nat) (haw : ∀ k, k < C.K → aw k = sm C.K fun r => List.count k ((C.sts r).flatMap C.aws)) : Inv C size base final (Pm.init C base aw) := by
  have hd : ∀ r, dW C r (C.start r) = 0 := fun r => by unfold dW Cx.start; rw [lv_sts]; simp only; omega
  refine ⟨fun i j r _ _ h => (by cases h), fun i r _ h => (by cases h), fun i r _ h => (by cases h), fun r _ _ => rfl, fun r _ h => absurd h (Nat.not_lt_zero _), fun r _ => gok_start c r, fun k hk => (haw k hk), fun r _ h => absurd h (Nat.not_lt_zero _), ?_, ?_, ?_, fun i _ h => (by cases h), Nat.zero_le _⟩
  · show C.top = sm C.K fun r => restW C r (C.start r)
    have h1 : (sm C.K fun r => restW C r (C.start r)) = sm C.K fun r => (C.fi (r + 1) - C.fi r) + (C.fr0 (r + 1) - C.fr0 r) := sm_congr fun r _ => by
      rw [fi_succ, lv_sts]
      unfold restW Cx.start
      simp only
      omega
    rw [h1, sm_add]
    have h2 := sm_tele C.fi (fun r => fi_mono (Nat.le_succ r)) C.K
    have h3 := sm_tele C.fr0 (fun r => fr0_mono c (Nat.le_succ r)) C.K
    have h4 : C.fi 0 = 0 := rfl
    have h5 : C.T = C.fi C.K := c.sum
    have h6 := fr0_zero c
    have h7 := fr0_last c
    have h8 := c.fi_top C.K
    omega
  · show 0 + (sm C.K fun r => (C.sts r).length) = _
    omega
  · intro p hp
    refine ⟨fun hD => ?_, fun _ => rfl⟩
    obtain ⟨r, hr, h1 | h1⟩ := hD
    · have h2 : p < C.fi r + dW C r (C.start r) := h1.2
      rw [hd] at h2; omega
    · have h2 : p < (C.start r).fr := h1.2
      have h3 : (C.start r).fr = C.fr0 r := rfl
      omega
end
end Go.Proofs.YtklhdilbmpndkaaGreat
