/- Step in memory is the step of the machine. From New to the machine; what each word will be. A sliding that runs: its steps, its rounds. What New made runs. Heap: the heap that came of it. -/
import Derived.Test.YtklhdilbmpndkaaGreatHi
import Derived.Test.YtklhdilbmpndkaaGreatHh
import Derived.Test.YtklhdilbmpndkaaGreatGs
import Derived.Test.YtklhdilbmpndkaaGreatGr
namespace Go.Proofs.YtklhdilbmpndkaaGreat
set_option maxRecDepth 20000
open Go.RowKit Go.Sort
set_option linter.unusedVariables false
set_option linter.unusedSimpArgs false


/-- What is known of the objects. -/
structure Obk (C : Cx) : Prop where
  hd : ∀ x ∈ C.L, x.2.1 / 65536 = (x.2.2.length : Nat) ∧ x.2.2.length ≤ 4095 ∧ x.2.1 % 65536 / 16 = (ptrs x.2.1 : Nat) ∧ headB x.2.1 = true
  ok : ∀ x ∈ C.L, keepB C.f x = true → ∀ i, 1 ≤ i → i ≤ ptrs x.2.1 → okW C.f C.L (x.2.2.getD (i - 1) 0) = true
  inr : ∀ x ∈ C.L, ∀ i, InR (x.2.2.getD i 0)
/-- What lies in memory is the machine's. -/
structure Rel (C : Cx) (size : Nat) (M : Ms) (Q : Pm) : Prop where
  cells : M.cells = tab size Q.cell
  signs : M.signs = (Q.cl : Int) :: tab C.K fun k => (Q.aw k : Int)
  left : M.left = (Q.left : Nat)
  moved : M.moved = (Q.moved : Nat)
  lk : ∀ i, i < C.n → Lk C (M.wks i) (Q.ph i)
section
variable {C : Cx} {size : Nat} {base final : Nat → Int} {Q : Pm} {M : Ms} {w0 : W2} {w : World}
theorem lk_next {k : Wk} {p : Ph} (h : Lk C k p) : k.next = 30 ∨ k.next = 61 ∨ k.next = 63 ∨ k.next = 95 ∨ k.next = 96 ∨ k.next = 97 ∨ k.next = 107 := by
  match p, h with
  | .claim, h => have := h.1; omega
  | .rest, h => have h2 : k.next = 61 := h; omega
  | .await _, h => have := h.1; omega
  | .take _ _ _ _ _, h => have := h.1; omega
  | .put _ _ _ _ _ _, h => have := h.1; omega
  | .tell _ _ _ _ _, h => have := h.1; omega
  | .nought _ _, h => have := h.1; omega
theorem aw_step (Q : Pm) (C : Cx) (j k : Nat) : (Q.step C j).aw k ≤ Q.aw k := by
  unfold Pm.step
  split
  · exact Nat.le_refl _
  · exact Nat.le_refl _
  · split <;> exact Nat.le_refl _
  · exact Nat.le_refl _
  · split <;> exact Nat.le_refl _
  · rename_i a _ _ _ _
    show setF Q.aw a (Q.aw a - 1) k ≤ _
    by_cases e : k = a
    · subst e; rw [setF_at]; omega
    · rw [setF_ne _ _ e]; exact Nat.le_refl _
  · exact Nat.le_refl _
theorem lk_upd {j : Nat} {k' : Wk} {p' : Ph} {M1 : Ms} (hM : M1.wks = M.wks) (R : ∀ i, i < C.n → Lk C (M.wks i) (Q.ph i)) (hk : Lk C k' p') : ∀ i, i < C.n → Lk C ((M1.upd j k').wks i) (setF Q.ph j p' i) := by
  intro i hi
  by_cases e : i = j
  · subst e; rw [upd_at, setF_at]; exact hk
  · rw [setF_ne _ _ e]
    have : (M1.upd j k').wks i = M.wks i := by simp [Ms.upd, e, hM]
    rw [this]; exact R i hi
theorem moved_le (c : Cok C size base) (h : Inv C size base final Q) : Q.moved ≤ C.top := by
  have h1 := h.moved
  have h2 : (sm C.K fun r => (C.sts r).length) ≤ sm C.K C.lv := sm_le fun r _ => by rw [lv_sts]; exact len_sum _
  have h3 : ∀ K, sm K C.lv = C.fi K := by
    intro K
    induction K with
    | zero => rfl
    | succ K ih => rw [sm_succ, ih, fi_succ]
  have h4 := c.fi_top C.K
  rw [h3] at h2
  omega
theorem left_le (c : Cok C size base) (h : Inv C size base final Q) : Q.left ≤ C.top := by
  have h1 : Q.left ≤ sm C.K fun r => (C.fi (r + 1) - C.fi r) + (C.fr0 (r + 1) - C.fr0 r) := by
    rw [h.left]
    refine sm_le fun r hr => ?_
    have G := h.gok r hr
    obtain ⟨dn, hdn, _⟩ := G.dn
    have := G.lo
    have h2 := lv_sts (C := C) r
    rw [hdn, sumL_append] at h2
    rw [fi_succ]
    unfold restW
    omega
  rw [sm_add] at h1
  have h2 := sm_tele C.fi (fun r => fi_mono (Nat.le_succ r)) C.K
  have h3 := sm_tele C.fr0 (fun r => fr0_mono c (Nat.le_succ r)) C.K
  have h4 : C.fi 0 = 0 := rfl
  have h5 : C.T = C.fi C.K := c.sum
  have h6 := fr0_zero c
  have h7 := fr0_last c
  have h8 := c.fi_top C.K
  omega
theorem sts_isK {r : Nat} {x : Nat × Ob} (h : x ∈ C.sts r) : isK C.f C.L x.1 = true := by
  obtain ⟨h1, h2, _⟩ := sts_mem.1 h
  exact (isK_at (adr_sorted 0 C.obs) h1).trans h2
/-- What a step leaves. -/
def After (C : Cx) (size : Nat) (w0 : W2) (M : Ms) (Q' : Pm) (w' : World) : Prop := ∃ M', Sl w0 w' C M' ∧ Rel C size M' Q' ∧ (M'.touches = M.touches ∨ M'.touches = IntKind.i64.wrap (M.touches + 1))
theorem step_sim (c : Cok C size base) (O : Obk C) (hz : size ≤ 65536) (hS : Sl w0 w C M) (R : Rel C size M Q) (I : Inv C size base final Q) (hb : ∀ k, Q.aw k ≤ 65536) (hl : Q.left ≠ 0) {j : Nat} (hj : j < C.n) :
    Calls Tryz.prog 11 #[.pointer (some ⟨C.S, 0, none⟩), .int .i64 (j : Nat)] w fun e w' => e = .returned (.int .i64 0) ∧ After C size w0 M (Q.step C j) w' := by
  have hlk := R.lk j hj
  have hml := left_le c I
  have hmm := moved_le c I
  have hsz := c.size
  have hK65 := hS.fo.k65
  have hn64 := hS.n2
  have hlw : IntKind.i64.wrap (M.left - 1) = ((Q.left - 1 : Nat) : Int) := by rw [R.left, IntWalk.i64_in _ (by omega)]; omega
  have hmw : IntKind.i64.wrap (M.moved + 1) = ((Q.moved + 1 : Nat) : Int) := by rw [R.moved, IntWalk.i64_in _ (by omega)]; omega
  have hclen : M.cells.length = size := by rw [R.cells, tab_len]
  have hslen : M.signs.length = C.K + 1 := by rw [R.signs, List.length_cons, tab_len]
  have hsat : ∀ k, k < C.K → M.signs.getD (k + 1) 0 = (Q.aw k : Int) := fun k hk => by rw [R.signs, List.getD_eq_getElem?_getD, List.getElem?_cons_succ, tab_get _ hk]; rfl
  refine step_go hS j hj (by rw [R.left]; omega) (lk_next hlk) _ ?_
  cases hp : Q.ph j with
  | claim =>
    rw [hp] at hlk
    rw [show (M.wks j).next = 30 from hlk.1]
    have hs1 : sm C.n (fun i => isRest (Q.ph i)) ≤ C.n * 1 := by
      rw [← sm_const]
      exact sm_le fun i _ => by cases Q.ph i <;> simp [isRest]
    have hclb := I.clb
    refine (claim_any hS j hj Q.cl hlk (by omega) (by rw [R.signs]; rfl) (by omega)).mono ?_
    rintro e w' ⟨he, k', hS', hk'⟩
    refine ⟨he, _, hS', ?_, .inr rfl⟩
    unfold Pm.step; rw [hp]
    refine ⟨R.cells, ?_, R.left, R.moved, lk_upd rfl R.lk hk'⟩
    show M.signs.set 0 ((Q.cl + 1 : Nat) : Int) = _
    rw [R.signs]; rfl
  | rest =>
    rw [hp] at hlk
    rw [show (M.wks j).next = 61 from hlk]
    refine (rest_any (C := C) (w := w) j).mono ?_
    rintro e w' ⟨he, rfl⟩
    refine ⟨he, M, hS, ?_, .inl rfl⟩
    unfold Pm.step; rw [hp]; exact R
  | await r =>
    rw [hp] at hlk
    rw [show (M.wks j).next = 63 from hlk.1]
    have hrK := (I.hl j r hj (by rw [hp]; rfl)).1
    refine (await_any hS j hj r hlk (by omega) (by omega) (fun x hx => sts_isK hx)).mono ?_
    rintro e w' ⟨he, k', hS', hk'⟩
    rw [hsat r hrK] at hk'
    refine ⟨he, _, hS', ?_, .inr rfl⟩
    by_cases ha : Q.aw r = 0
    · have e : Q.step C j = { Q with ph := setF Q.ph j (turnP C r [] (C.sts r) (C.fr0 r)) } := by unfold Pm.step; rw [hp]; simp [ha]
      rw [if_pos (by omega)] at hk'
      rw [e]
      exact ⟨R.cells, R.signs, R.left, R.moved, lk_upd rfl R.lk hk'⟩
    · have e : Q.step C j = Q := by unfold Pm.step; rw [hp]; simp [ha]
      rw [if_neg (by omega)] at hk'
      rw [e]
      refine ⟨R.cells, R.signs, R.left, R.moved, ?_⟩
      have := lk_upd (Q := Q) (M1 := { M with touches := IntKind.i64.wrap (M.touches + 1) }) (M := M) (j := j) rfl R.lk hk'
      rw [← hp, setF_self] at this
      exact this
  | take r x i st fr =>
    rw [hp] at hlk
    rw [show (M.wks j).next = 96 from hlk.1]
    obtain ⟨hf1, hf2⟩ := src_free c I hj hp
    have hr : held (Q.ph j) = some r := by rw [hp]; rfl
    have hpm := I.pm j r hj hr
    rw [hp] at hpm
    obtain ⟨dn, hdn⟩ := (I.gok r (I.hl j r hj hr).1).suf
    rw [hpm.1] at hdn
    obtain ⟨hx1, hx2, _⟩ := sts_mem.1 (show x ∈ C.sts r by rw [hdn]; simp)
    obtain ⟨o1, o2, o3, o4⟩ := O.hd x hx1
    refine (take_any hS j hj r x i st fr hlk (by omega) (by omega) (by rw [R.cells, List.getD_eq_getElem?_getD, tab_get _ (by omega)]; exact hf2) o4 o1 o3 (O.ok x hx1 hx2) (O.inr x hx1)).mono ?_
    rintro e w' ⟨he, k', hS', hk'⟩
    refine ⟨he, _, hS', ?_, .inr rfl⟩
    unfold Pm.step; rw [hp]
    exact ⟨R.cells, R.signs, R.left, R.moved, lk_upd rfl R.lk hk'⟩
  | put r x i v st fr =>
    rw [hp] at hlk
    rw [show (M.wks j).next = 107 from hlk.1]
    have hr : held (Q.ph j) = some r := by rw [hp]; rfl
    have hpm := I.pm j r hj hr
    rw [hp] at hpm
    obtain ⟨hg, hi, hv⟩ := hpm
    obtain ⟨dn, hdn⟩ := (I.gok r (I.hl j r hj hr).1).suf
    rw [hg] at hdn
    obtain ⟨hx1, hx2, _⟩ := sts_mem.1 (show x ∈ C.sts r by rw [hdn]; simp)
    obtain ⟨o1, o2, o3, o4⟩ := O.hd x hx1
    have hle : C.go x ≤ x.1 := go_le' hx1
    have hend : x.1 + 1 + x.2.2.length ≤ 0 + (flat C.obs).length := adr_end hx1
    have htop := c.top_
    have hgx : goS C.f C.L x.1 = C.go x := rfl
    by_cases hm : i + 1 ≤ x.2.2.length
    · refine (put_more hS j hj r x i v st fr hlk (by omega) (by omega) hm).mono ?_
      rintro e w' ⟨he, k', hS', hk'⟩
      refine ⟨he, _, hS', ?_, .inr rfl⟩
      unfold Pm.step; rw [hp]; simp only [if_pos hm]
      refine ⟨?_, R.signs, hlw, R.moved, lk_upd rfl R.lk hk'⟩
      show M.cells.set (C.go x + i) v = _
      rw [R.cells]; exact tab_set _ _
    · have hst : ∀ y ∈ st, isK C.f C.L y.1 = true := fun y hy => sts_isK (r := r) (by rw [hdn]; simp [hy])
      refine (put_last hS j hj r x i v st fr hlk (by omega) (by omega) hm (by omega) o2 (by omega) hst).mono ?_
      rintro e w' ⟨he, k', hS', hk'⟩
      refine ⟨he, _, hS', ?_, .inr rfl⟩
      unfold Pm.step; rw [hp]; simp only [if_neg hm]
      refine ⟨?_, R.signs, hlw, hmw, lk_upd rfl R.lk hk'⟩
      show M.cells.set (C.go x + i) v = _
      rw [R.cells]; exact tab_set _ _
  | tell r a aw st fr =>
    rw [hp] at hlk
    rw [show (M.wks j).next = 95 from hlk.1]
    have hr : held (Q.ph j) = some r := by rw [hp]; rfl
    have hg : Q.g r = ⟨st, 0, a :: aw, fr⟩ := by have := I.pm j r hj hr; rw [hp] at this; exact this
    have hrK := (I.hl j r hj hr).1
    have G := I.gok r hrK
    have haK : a < C.K := (G.tel a (by rw [hg]; simp)).2.1
    obtain ⟨dn, hdn⟩ := G.suf
    rw [hg] at hdn
    have hst : ∀ y ∈ st, isK C.f C.L y.1 = true := fun y hy => sts_isK (r := r) (by rw [hdn]; simp [hy])
    have haw := I.aw a haK
    have h5 : List.count a ((Q.g r).tel ++ (Q.g r).rem.flatMap C.aws) ≤ sm C.K (fun r => List.count a ((Q.g r).tel ++ (Q.g r).rem.flatMap C.aws)) := sm_at (h := fun r => List.count a ((Q.g r).tel ++ (Q.g r).rem.flatMap C.aws)) hrK
    have h6 : 0 < List.count a ((Q.g r).tel ++ (Q.g r).rem.flatMap C.aws) := by rw [List.count_pos_iff, hg]; simp
    have hba := hb a
    refine (tell_any hS j hj r a aw st fr hlk (by omega) (by omega) hst).mono ?_
    rintro e w' ⟨he, k', hS', hk'⟩
    refine ⟨he, _, hS', ?_, .inr rfl⟩
    unfold Pm.step; rw [hp]
    refine ⟨R.cells, ?_, R.left, R.moved, lk_upd rfl R.lk hk'⟩
    show M.signs.set (a + 1) (wrap64 (M.signs.getD (a + 1) 0 + -1)) = (Q.cl : Int) :: tab C.K fun k => ((setF Q.aw a (Q.aw a - 1) k : Nat) : Int)
    have hww : wrap64 ((Q.aw a : Int) + -1) = (Q.aw a : Int) + -1 := IntWalk.wrap64_in _ (by omega)
    rw [hsat a haK, hww, R.signs, List.set_cons_succ, tab_set]
    congr 1
    unfold tab
    refine List.map_congr_left fun k _ => ?_
    by_cases e : k = a
    · subst e; rw [setF_at, setF_at]; omega
    · rw [setF_ne _ _ e, setF_ne _ _ e]
  | nought r fr =>
    rw [hp] at hlk
    rw [show (M.wks j).next = 97 from hlk.1]
    have hr : held (Q.ph j) = some r := by rw [hp]; rfl
    have hpm := I.pm j r hj hr
    rw [hp] at hpm
    obtain ⟨hg, hi⟩ := hpm
    have htop : C.up r ≤ C.top := bg_top (W := C.W) c.top_ (r + 1)
    refine (nought_any hS j hj r fr hlk (by omega) (by omega)).mono ?_
    rintro e w' ⟨he, k', hS', hk'⟩
    refine ⟨he, _, hS', ?_, .inr rfl⟩
    unfold Pm.step; rw [hp]
    refine ⟨?_, R.signs, hlw, R.moved, lk_upd rfl R.lk hk'⟩
    show M.cells.set fr 0 = _
    rw [R.cells]; exact tab_set _ _
end
end Go.Proofs.YtklhdilbmpndkaaGreat

namespace Go.Proofs.YtklhdilbmpndkaaGreat
set_option maxRecDepth 20000
open Go.RowKit Go.Sort
set_option linter.unusedVariables false
set_option linter.unusedSimpArgs false


theorem sm_one (n a c : Nat) (ha : a < n) : (sm n fun r => if r = a then c else 0) = c := by
  have := sm_upd (n := n) (h := fun _ => 0) (h' := fun r => if r = a then c else 0) ha (fun k _ hk => by simp [hk])
  rw [sm_const] at this
  simp at this
  exact this
theorem over_regions {f : Nat → Bool} {W K : Nat} (h : Nat × Ob → Nat) : ∀ M : List (Nat × Ob), (∀ x ∈ M, x.1 / W < K) → ((M.filter (keepB f)).map h).sum = sm K fun r => ((inR f W r M).map h).sum
  | [], _ => by simp [inR, sm_const]
  | x :: M, hx => by
    have ih := over_regions (f := f) (W := W) (K := K) h M (fun y hy => hx y (List.mem_cons_of_mem _ hy))
    have h1 := hx x (List.mem_cons_self ..)
    have e : ∀ r, ((inR f W r (x :: M)).map h).sum = (if r = x.1 / W then (if keepB f x then h x else 0) else 0) + ((inR f W r M).map h).sum := by
      intro r
      unfold inR
      rw [List.filter_cons]
      cases hk : keepB f x with
      | false => simp
      | true =>
        by_cases hr : x.1 / W = r
        · simp [hr]
        · have hr2 : ¬ r = x.1 / W := fun e => hr e.symm
          simp [hr, hr2]
    rw [sm_congr (h' := fun r => (if r = x.1 / W then (if keepB f x then h x else 0) else 0) + ((inR f W r M).map h).sum) fun r _ => e r, sm_add, sm_one _ _ _ h1, ← ih, List.filter_cons]
    cases hk : keepB f x <;> simp
section
variable {C : Cx} {size : Nat} {base : Nat → Int}
theorem waits_regions (c : Cok C size base) (k : Nat) : waitN C.f C.W C.K C.L C.L k = sm C.K fun r => List.count k ((C.sts r).flatMap C.aws) := by
  unfold waitN
  rw [List.count_flatMap, over_regions (K := C.K) _ _ fun x hx => c.lt_K hx]
  refine sm_congr fun r _ => ?_
  rw [List.count_flatMap]
  rfl
theorem many_regions (c : Cok C size base) : (C.L.filter (keepB C.f)).length = sm C.K fun r => (C.sts r).length := by
  have h := over_regions (f := C.f) (W := C.W) (K := C.K) (fun _ => 1) C.L fun x hx => c.lt_K hx
  have e : ∀ l : List (Nat × Ob), (l.map fun _ => 1).sum = l.length := by intro l; induction l with
    | nil => rfl
    | cons _ _ ih => rw [List.map_cons, List.sum_cons, ih, List.length_cons]; omega
  rw [e] at h
  rw [h]
  exact sm_congr fun r _ => e _
/-- An object, moved. -/
def mvX (C : Cx) (x : Nat × Ob) : Ob := (x.2.1, tab x.2.2.length fun i => dstW C.f C.L x (i + 1))
def Cx.new (C : Cx) : List Ob := (C.L.filter (keepB C.f)).map (mvX C)
def Cx.final (C : Cx) (p : Nat) : Int := (flat C.new ++ List.replicate (C.top - C.T) 0).getD p 0
theorem flat_mv (C : Cx) : ∀ l : List (Nat × Ob), (flat (l.map (mvX C))).length = sumL l
  | [] => rfl
  | x :: l => by
    rw [List.map_cons, flat_cons, sumL_cons]
    have := flat_mv C l
    simp [mvX, tab_len, this]
    omega
theorem Cok.T_sum (c : Cok C size base) : C.T = sumL (C.L.filter (keepB C.f)) := by
  rw [c.sum, c.many]
  refine in_all C.f c.w1 fun x hx => ?_
  have : x.1 < 0 + (flat C.obs).length := adr_lt hx
  have := c.top_
  omega
theorem fok_new (c : Cok C size base) : Fok C C.final := by
  have hT := c.T_sum
  have hl : (flat C.new).length = C.T := by rw [hT]; exact flat_mv C _
  have htop := c.top_
  refine ⟨fun x hx hk i hi => ?_, fun p h1 h2 => ?_⟩
  · obtain ⟨j, hj, rfl⟩ := List.getElem_of_mem hx
    have h1 := go_take (f := C.f) (adr_sorted 0 C.obs) (List.getElem?_eq_getElem hj)
    obtain ⟨x, hxe⟩ : ∃ x, C.L[j] = x := ⟨_, rfl⟩
    have h1 : C.go C.L[j] = sumL ((C.L.take j).filter (keepB C.f)) := h1
    have hsplit : C.L.filter (keepB C.f) = (C.L.take j).filter (keepB C.f) ++ x :: (C.L.drop (j + 1)).filter (keepB C.f) := by
      conv => lhs; rw [← List.take_append_drop j C.L, List.drop_eq_getElem_cons hj, List.filter_append, List.filter_cons]
      rw [hxe] at hk ⊢
      rw [if_pos hk]
    rw [hxe] at hi h1 hk ⊢
    have hnew : C.new = ((C.L.take j).filter (keepB C.f)).map (mvX C) ++ mvX C x :: ((C.L.drop (j + 1)).filter (keepB C.f)).map (mvX C) := by unfold Cx.new; rw [hsplit, List.map_append, List.map_cons]
    have hpl := flat_mv C ((C.L.take j).filter (keepB C.f))
    unfold Cx.final
    rw [hnew, flat_append, flat_cons, List.append_assoc, List.getD_eq_getElem?_getD, List.getElem?_append_right (by omega), h1, hpl]
    rw [show sumL ((C.L.take j).filter (keepB C.f)) + i - sumL ((C.L.take j).filter (keepB C.f)) = i by omega]
    cases i with
    | zero => simp [mvX, dstW]
    | succ i =>
      rw [List.cons_append, List.getElem?_cons_succ, List.append_assoc, List.getElem?_append_left (by simp [mvX, tab_len]; omega)]
      show ((tab x.2.2.length fun i => dstW C.f C.L x (i + 1))[i]?).getD 0 = _
      rw [tab_get _ (by omega)]
      rfl
  · unfold Cx.final
    rw [List.getD_eq_getElem?_getD, List.getElem?_append_right (by omega), List.getElem?_replicate]
    split <;> rfl
end
end Go.Proofs.YtklhdilbmpndkaaGreat

namespace Go.Proofs.YtklhdilbmpndkaaGreat
set_option maxRecDepth 20000
open Go.RowKit Go.Sort
set_option linter.unusedVariables false
set_option linter.unusedSimpArgs false


/-- A sliding in memory that is so far. -/
structure Run (C : Cx) (size : Nat) (base : Nat → Int) (w0 : W2) (w : World) (t : Int) (Q : Pm) : Prop where
  mem : ∃ M, Sl w0 w C M ∧ Rel C size M Q ∧ M.touches = t
  inv : Inv C size base C.final Q
  few : ∀ k, Q.aw k ≤ 65536
  cok : Cok C size base
  obk : Obk C
  small : size ≤ 65536
section
variable {C : Cx} {size : Nat} {base : Nat → Int} {Q Q0 : Pm} {w0 : W2} {w w' : World} {t : Int}
theorem Run.kept (R : Run C size base w0 w t Q) (hb : Below w.heap.size w w') : Run C size base w0 w' t Q := by
  obtain ⟨M, h1, h2⟩ := R.mem
  exact ⟨⟨M, h1.kept hb, h2⟩, R.inv, R.few, R.cok, R.obk, R.small⟩
/-- A step: what the machine's is, unless it is over. -/
def stepO (C : Cx) (Q : Pm) (j : Nat) : Pm := if Q.left = 0 then Q else Q.step C j
theorem run_step (R : Run C size base w0 w t Q) {j : Nat} (hj : j < C.n) : Calls Tryz.prog 11 #[.pointer (some ⟨C.S, 0, none⟩), .int .i64 (j : Nat)] w fun e w' => e = .returned (.int .i64 (if Q.left = 0 then 12 else 0)) ∧ ∃ t', Run C size base w0 w' t' (stepO C Q j) ∧ (t' = t ∨ t' = IntKind.i64.wrap (t + 1)) ∧ Below w0.heap.size w0.toWorld w' := by
  obtain ⟨M, h1, h2, h3⟩ := R.mem
  unfold stepO
  by_cases hl : Q.left = 0
  · refine (step_end h1 (by rw [h2.left, hl]; rfl) j hj).mono ?_
    rintro e w' ⟨he, rfl⟩
    rw [if_pos hl, if_pos hl]
    exact ⟨he, t, R, .inl rfl, h1.old⟩
  · refine (step_sim R.cok R.obk R.small h1 h2 R.inv R.few hl hj).mono ?_
    rintro e w' ⟨he, M', h4, h5, h6⟩
    rw [if_neg hl, if_neg hl]
    exact ⟨he, M'.touches, ⟨⟨M', h4, h5, rfl⟩, step_inv R.cok (fok_new R.cok) R.inv hj, fun k => Nat.le_trans (aw_step Q C j k) (R.few k), R.cok, R.obk, R.small⟩, by rw [← h3]; exact h6, h4.old⟩
theorem run_over (R : Run C size base w0 w t Q) : Calls Tryz.prog 10 #[.pointer (some ⟨C.S, 0, none⟩)] w fun e w' => e = .returned (.bool (decide (Q.left = 0))) ∧ w = w' := by
  obtain ⟨M, h1, h2, h3⟩ := R.mem
  refine (over_any h1).mono ?_
  rintro e w' ⟨he, hw⟩
  refine ⟨?_, hw⟩
  rw [he, h2.left]
  have : decide (((Q.left : Nat) : Int) = 0) = decide (Q.left = 0) := by rw [decide_eq_decide]; omega
  rw [this]
/-- InRnd a round. -/
def InRnd (C : Cx) (Q0 Q : Pm) (V : Nat → Prop) : Prop := Q.left = 0 ∨ Phi C Q < Phi C Q0 ∨ (Q = Q0 ∧ ∀ j, V j → ¬ can Q0 j)
theorem within_start (Q0 : Pm) : InRnd C Q0 Q0 fun _ => False := .inr (.inr ⟨rfl, fun _ h => h.elim⟩)
theorem within_step {V : Nat → Prop} (h : Inv C size base C.final Q) {j : Nat} (hj : j < C.n) (hw : InRnd C Q0 Q V) : InRnd C Q0 (stepO C Q j) fun k => V k ∨ k = j := by
  unfold stepO
  by_cases hl : Q.left = 0
  · rw [if_pos hl]; exact .inl hl
  · rw [if_neg hl]
    by_cases hc : can Q j
    · have h1 := phi_falls h hj hc
      rcases hw with h2 | h2 | ⟨rfl, h2⟩
      · exact absurd h2 hl
      · exact .inr (.inl (by omega))
      · exact .inr (.inl h1)
    · rw [stuck hc]
      rcases hw with h2 | h2 | ⟨rfl, h2⟩
      · exact .inl h2
      · exact .inr (.inl h2)
      · refine .inr (.inr ⟨rfl, fun k hk => ?_⟩)
        rcases hk with hk | rfl
        · exact h2 k hk
        · exact hc
theorem within_end {V : Nat → Prop} (c : Cok C size base) (h0 : Inv C size base C.final Q0) (hw : InRnd C Q0 Q V) (hV : ∀ j, j < C.n → V j) : Q.left = 0 ∨ Phi C Q < Phi C Q0 := by
  rcases hw with h2 | h2 | ⟨rfl, h2⟩
  · exact .inl h2
  · exact .inr h2
  · by_cases hl : Q.left = 0
    · exact .inl hl
    · obtain ⟨j, hj, hc⟩ := goes_on c h0 hl
      exact absurd hc (h2 j (hV j hj))
theorem phi_init (c : Cok C size base) (hn : C.n ≤ 64) (aw : Nat → Nat) (ha : ∀ k, aw k ≤ C.top) : Phi C (Pm.init C base aw) ≤ 10 * (size + 10) * (size + 10) := by
  have hK : C.K ≤ C.top := by
    rw [c.many]
    have hw := c.w1
    rcases Nat.eq_zero_or_pos C.top with h | h
    · rw [h, Nat.zero_add, Nat.div_eq_of_lt (by omega)]; exact Nat.le_refl _
    · refine Nat.le_of_lt_succ ?_
      rw [Nat.div_lt_iff_lt_mul (by omega)]
      have := Nat.mul_le_mul_left C.top hw
      rw [Nat.succ_mul]
      omega
  have h1 : sm C.K aw ≤ C.K * C.top := by rw [← sm_const]; exact sm_le fun k _ => ha k
  have h2 : C.K * C.top ≤ size * size := Nat.mul_le_mul (Nat.le_trans hK c.size) c.size
  have h3 : (sm C.n fun i => om ((Pm.init C base aw).ph i)) = C.n * 1 := sm_const C.n 1
  have h4 : 10 * (size + 10) * (size + 10) = 10 * (size * size) + 200 * size + 1000 := by
    rw [Nat.mul_add (10 * (size + 10)), Nat.mul_add 10, Nat.add_mul, Nat.mul_assoc 10 size size]
    omega
  have hs := c.size
  unfold Phi
  rw [h3, h4]
  show 3 * (C.K - 0) + 2 * C.top + sm C.K aw + C.n * 1 ≤ _
  omega
end
end Go.Proofs.YtklhdilbmpndkaaGreat

namespace Go.Proofs.YtklhdilbmpndkaaGreat
set_option maxRecDepth 20000
open Go.RowKit Go.Sort
set_option linter.unusedVariables false
set_option linter.unusedSimpArgs false


theorem tab_of (l : List Int) : l = tab l.length fun p => l.getD p 0 := by
  apply List.ext_getElem?
  intro k
  by_cases hk : k < l.length
  · rw [tab_get _ hk, List.getElem?_eq_getElem hk]; simp [hk]
  · rw [List.getElem?_eq_none (by omega), List.getElem?_eq_none (by rw [tab_len]; omega)]
section
variable {C : Cx} {w0 : W2} {w w' : World} {g gw gb : Nat} {obs : List Ob} {tail : List Int}
/-- What waits at first. -/
def Cx.aw0 (C : Cx) (k : Nat) : Nat := waitN C.f C.W C.K C.L C.L k
theorem src_at (x : Nat × Ob) (hx : x ∈ adr 0 obs) (i : Nat) (hi : i ≤ x.2.2.length) : (flat obs ++ tail).getD (x.1 + i) 0 = srcW x i := by
  obtain ⟨pre, post, h1, h2⟩ := mem_split hx
  rw [Nat.zero_add] at h2
  rw [h1, flat_append, flat_cons, List.append_assoc, List.getD_eq_getElem?_getD, List.getElem?_append_right (by omega), show x.1 + i - (flat pre).length = i by omega]
  cases i with
  | zero => rfl
  | succ i =>
    rw [List.cons_append, List.getElem?_cons_succ, List.append_assoc, List.getElem?_append_left (by omega)]
    unfold srcW
    rw [if_neg (by omega), Nat.add_sub_cancel, List.getD_eq_getElem?_getD]
theorem run_begin (St0 : St w g gw gb obs tail) (ho : C.obs = obs) (hS : Sl w0 w' C (Ms.new (flat obs ++ tail) (sgL C.f C.W C.K C.L C.L) C.top)) (hr : rightB C.f C.L = true) (hin : ∀ o ∈ obs, ∀ z ∈ o.2, InR z) (hsz : (flat obs ++ tail).length ≤ 65536) :
    Run C (flat obs ++ tail).length (fun p => (flat obs ++ tail).getD p 0) w0 w' 0 (Pm.init C (fun p => (flat obs ++ tail).getD p 0) C.aw0) := by
  have F := hS.fo
  have hL : C.L = adr 0 obs := by unfold Cx.L; rw [ho]
  have c : Cok C (flat obs ++ tail).length (fun p => (flat obs ++ tail).getD p 0) :=
    ⟨F.w1, F.many, F.top_, F.sum, by rw [← F.top_, ho, List.length_append]; omega, hS.n1, fun x hx i hi => src_at x (by rw [← hL]; exact hx) i hi⟩
  have hlen : C.L.length ≤ C.top := by
    have h1 := len_sum C.L
    have h2 := sumL_adr 0 C.obs
    have h3 := F.top_
    unfold Cx.L at h1 ⊢
    omega
  have hmost := F.most
  have haw : ∀ k, C.aw0 k ≤ C.top := fun k => Nat.le_trans (wait_le C.L) hlen
  refine ⟨⟨_, hS, ⟨tab_of _, rfl, rfl, rfl, fun i _ => ⟨rfl, rfl, rfl⟩⟩, rfl⟩, inv_init c C.aw0 fun k _ => waits_regions c k, fun k => ?_, c, ⟨fun x hx => ?_, fun x hx hk i h1 h2 => ?_, fun x hx i => ?_⟩, hsz⟩
  · show C.aw0 k ≤ 65536
    have := haw k; omega
  · obtain ⟨h1, h2, h3, h4, h5, h6⟩ := ob_facts St0 x (by rw [← hL]; exact hx)
    exact ⟨h1, h2, h3, h5⟩
  · obtain ⟨_, _, _, h4, _, _⟩ := ob_facts St0 x (by rw [← hL]; exact hx)
    unfold rightB at hr
    rw [List.all_eq_true] at hr
    have h5 := hr x hx
    rw [hk] at h5
    simp only [Bool.not_true, Bool.false_or] at h5
    unfold okX at h5
    rw [List.all_eq_true] at h5
    refine h5 _ ?_
    have hlt : i - 1 < x.2.2.length := by omega
    rw [List.getD_eq_getElem?_getD, List.getElem?_eq_getElem hlt]
    refine List.mem_of_getElem? (i := i - 1) ?_
    rw [List.getElem?_take_of_lt (by omega), List.getElem?_eq_getElem hlt]
    rfl
  · rw [List.getD_eq_getElem?_getD]
    by_cases hi : i < x.2.2.length
    · rw [List.getElem?_eq_getElem hi]
      obtain ⟨pre, post, h1, _⟩ := mem_split (show x ∈ adr 0 obs by rw [← hL]; exact hx)
      exact hin x.2 (by rw [h1]; simp) _ (List.getElem_mem hi)
    · rw [List.getElem?_eq_none (by omega)]
      show InR 0
      unfold InR; omega
theorem aw0_le {size : Nat} {base : Nat → Int} (c : Cok C size base) (k : Nat) : C.aw0 k ≤ C.top := by
  have h1 := len_sum C.L
  have h2 := sumL_adr 0 C.obs
  have h3 := c.top_
  have h4 : C.aw0 k ≤ C.L.length := wait_le C.L
  unfold Cx.L at h1 h4
  omega
end
end Go.Proofs.YtklhdilbmpndkaaGreat

namespace Go.Proofs.YtklhdilbmpndkaaGreat
set_option maxRecDepth 20000
open Go.RowKit Go.Sort
set_option linter.unusedVariables false
set_option linter.unusedSimpArgs false


set_option maxHeartbeats 1000000 in
theorem cwords_any {w : World} {base g gw : Nat} {zs : List Int} (h : Ce.At w base g gw zs none 0 []) :
    Calls Tryz.prog 33 #[.pointer (some ⟨g, 0, none⟩)] w fun e w' => e = .returned (.slice (some ⟨w.heap.size, 0, none⟩) zs.length zs.length) ∧ Lies w' w.heap.size 3 (zs.map (Value.int .i64)) ∧ Below w.heap.size w w' := by
  have hmk := make51 zs.length h.most
  have c0 : w.cell? ⟨g, 0, none⟩ = some (.slice (some ⟨gw, 0, none⟩) zs.length zs.length) := h.own.cell 0
  have c1 : (w.alloc (.cells (noughts zs.length).toArray 3)).cell? ⟨g, 0, none⟩ = some (.slice (some ⟨gw, 0, none⟩) zs.length zs.length) := (h.own.alloc _).cell 0
  obtain ⟨w2, hcp, hL, hB⟩ := run_copy51 (some ⟨gw, 0, none⟩) zs.length zs w (Row.of_lies h.words)
  clear h
  go_enter Tryz.func33, Tryz.ntmps33
  go_wp2
  go_ret
  exact ⟨rfl, hL, hB⟩

section
variable {C : Cx} {Q : Pm} {w0 : W2} {w : World} {t : Int} {obs : List Ob} {tail : List Int}
theorem new_len {size : Nat} {base : Nat → Int} (c : Cok C size base) : (flat C.new).length = C.T := by rw [c.T_sum]; exact flat_mv C _
theorem fine_new (hf : Fine C.obs) : Fine C.new := by
  intro o ho
  obtain ⟨x, hx, rfl⟩ := List.mem_map.1 ho
  obtain ⟨pre, post, h1, _⟩ := mem_split (List.mem_filter.1 hx).1
  obtain ⟨h2, h3⟩ := hf x.2 (by rw [h1]; simp)
  exact ⟨h2, (tab_len _ _).trans h3⟩
theorem ends (ho : C.obs = obs) (R : Run C (flat obs ++ tail).length (fun p => (flat obs ++ tail).getD p 0) w0 w t Q) (hl : Q.left = 0) : tab (flat obs ++ tail).length Q.cell = flat C.new ++ List.replicate (C.top - C.T) 0 ++ tail := by
  obtain ⟨h1, h2, h3⟩ := at_end R.cok R.inv hl
  have hn := new_len R.cok
  have ht : (flat obs).length = C.top := by rw [← ho]; exact R.cok.top_
  have hT : C.T ≤ C.top := by have := R.cok.fi_top C.K; rw [R.cok.sum]; exact this
  apply List.ext_getElem?
  intro k
  by_cases hk : k < (flat obs ++ tail).length
  · rw [tab_get _ hk]
    rcases Nat.lt_or_ge k C.top with h4 | h4
    · rw [h1 k h4, List.getElem?_append_left (by simp; omega)]
      unfold Cx.final
      rw [List.getD_eq_getElem?_getD, List.getElem?_eq_getElem (by simp; omega)]
      rfl
    · rw [h2 k h4 hk, List.getElem?_append_right (by simp; omega)]
      rw [List.length_append] at hk
      rw [List.getD_eq_getElem?_getD, List.getElem?_append_right (by omega)]
      have e : k - (flat C.new ++ List.replicate (C.top - C.T) 0).length = k - (flat obs).length := by simp; omega
      rw [e, List.getElem?_eq_getElem (by omega)]
      rfl
  · rw [List.getElem?_eq_none (by rw [tab_len]; omega), List.getElem?_eq_none (by rw [List.length_append] at hk; simp; omega)]

set_option maxRecDepth 100000 in
set_option maxHeartbeats 4000000 in
theorem sheap_yes (ho : C.obs = obs) (hf : Fine obs) (R : Run C (flat obs ++ tail).length (fun p => (flat obs ++ tail).getD p 0) w0 w t Q) (hl : Q.left = 0) :
    Calls Tryz.prog 12 #[.pointer (some ⟨C.S, 0, none⟩)] w fun e w' => ∃ g gw gb, e = .returned (.tuple #[.pointer (some ⟨g, 0, none⟩), .int .i64 0]) ∧ Below w.heap.size w w' ∧ HeapAt w' g gw gb (flat C.new ++ List.replicate (C.top - C.T) 0 ++ tail) C.T (noted C.new ((flat C.new ++ List.replicate (C.top - C.T) 0 ++ tail).length - C.T)) := by
  have HE := Lib.hid (ends ho R hl)
  have HO := Lib.hid (run_over R)
  have hn := new_len R.cok
  rw [hl] at HO
  obtain ⟨M, hS, hR, -⟩ := R.mem
  have hMc : M.cells = flat C.new ++ List.replicate (C.top - C.T) 0 ++ tail := hR.cells.trans HE.out
  have hA := hS.words
  rw [hMc] at hA
  obtain ⟨zs, hzs⟩ : ∃ zs, flat C.new ++ List.replicate (C.top - C.T) 0 ++ tail = zs := ⟨_, rfl⟩
  rw [hzs] at hA ⊢
  have htk : zs.take C.T = flat C.new := by rw [← hzs, List.append_assoc, List.take_append_of_le_length (by omega), List.take_of_length_le (by omega)]
  have hlen : C.T ≤ zs.length := by rw [← hzs]; simp; omega
  have HP : Hid (Parses (zs.take C.T)) := Lib.hid ⟨C.new, fine_new (by rw [ho]; exact hf), htk.symm⟩
  have hsm := R.small
  have hs1 := hA.some_
  have hs2 := hA.most
  have HTK := Lib.hid htk
  have HF := Lib.hid (fine_new (C := C) (by rw [ho]; exact hf))
  have HSL := Lib.hid hS
  have HA := Lib.hid hA
  have c1 : w.cell? ⟨C.S, 1, none⟩ = some (.pointer (some ⟨C.g1, 0, none⟩)) := hS.own.cell 1
  have c0 : w.cell? ⟨C.S, 0, none⟩ = some (.pointer (some ⟨C.b, 0, none⟩)) := hS.own.cell 0
  obtain ⟨T, hT⟩ : ∃ T, C.T = T := ⟨_, rfl⟩
  rw [hT] at hlen HP HTK ⊢
  have HCW := Lib.hid (fun V (hV : Below w.heap.size w V) => cwords_any (ce_block HA.out (hV.block _ hA.own.lt) (hV.block _ hA.words.lt)))
  have HTP := Lib.hid (fun V (hV : Below w.heap.size w V) => ftop_any ((hS.fo.kept hS.old).kept hV))
  rw [hT] at HTP
  have HOF := Lib.hid (fun V A (hr : Row V A zs) => of_yes A zs.length T zs V hr hs1 hs2 hlen HP.out)
  obtain ⟨n, hzn⟩ : ∃ n, zs.length = n := ⟨_, rfl⟩
  rw [hzn] at HCW HOF hs1 hs2 hlen ⊢
  have HZN := Lib.hid hzn
  have hd0 : decide ((0 : Nat) = 0) = true := rfl
  rw [hd0] at HO
  clear R hl hR hMc hA hS htk hn hT hzs hsm hzn hf ho HA HE
  go_enter Tryz.func12, Tryz.ntmps12
  go_wp2_with fail
  refine HO.out.mono ?_
  rintro e w2 ⟨rfl, rfl⟩
  go_upto_region 3 with fail
  go_region_with ((first | (go_at_call 33; refine (HCW.out _ (by first | exact HBb.out | exact (Below.refl _ _).drew | exact Below.refl _ _)).mono ?_; rintro e wa ⟨rfl, hLa, hba⟩; (have HBa : Hid (Below w.heap.size w wa) := Lib.hid (on (by first | exact HBb.out | exact (Below.refl _ _).drew | exact Below.refl _ _) (by first | exact HBb.out.size | exact Nat.le_refl _) hba)); (have ca1 : wa.cell? ⟨C.S, 1, none⟩ = some (.pointer (some ⟨C.g1, 0, none⟩)) := (HSL.out.kept HBa.out).own.cell 1); (have ca0 : wa.cell? ⟨C.S, 0, none⟩ = some (.pointer (some ⟨C.b, 0, none⟩)) := (HSL.out.kept HBa.out).own.cell 0); (have HLa := Lib.hid hLa); clear hLa hba) | (go_at_call 34; refine (HTP.out _ (by first | exact HBa.out | exact (Below.refl _ _).drew | exact Below.refl _ _)).mono ?_; rintro e wb ⟨rfl, hbb⟩; (have HBb : Hid (Below w.heap.size w wb) := Lib.hid (on (by first | exact HBa.out | exact (Below.refl _ _).drew | exact Below.refl _ _) (by first | exact HBa.out.size | exact Nat.le_refl _) hbb)); (have cb1 : wb.cell? ⟨C.S, 1, none⟩ = some (.pointer (some ⟨C.g1, 0, none⟩)) := (HSL.out.kept HBb.out).own.cell 1); (have cb0 : wb.cell? ⟨C.S, 0, none⟩ = some (.pointer (some ⟨C.b, 0, none⟩)) := (HSL.out.kept HBb.out).own.cell 0); (try have HLb := Lib.hid (HLa.out.kept hbb)); clear hbb) | (go_at_call 32; refine (HOF.out _ _ (Row.of_lies (by first | exact HLb.out | exact HLa.out))).mono ?_; rintro e wc ⟨g, gw, gb, obs', rfl, hbc, -, -, -, hf', hfl', hat'⟩; (have HBc : Hid (Below w.heap.size w wc) := Lib.hid (by first | exact on HBb.out HBb.out.size hbc | exact on HBa.out HBa.out.size hbc)); (have HFc := Lib.hid (And.intro hf' (And.intro hfl' hat'))); clear hbc hf' hfl' hat') | fail))
  all_goals
    go_wp2_with fail
    go_ret2
    obtain ⟨hf', hfl', hat'⟩ := HFc.out
    have e := flat_uniq hf' HF.out (hfl'.trans HTK.out)
    rw [e] at hat'
    exact ⟨g, gw, gb, rfl, HBc.out, hat'⟩
end
end Go.Proofs.YtklhdilbmpndkaaGreat
