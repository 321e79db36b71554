/- A deque and the calls of several, in memory. -/
import Derived.Test.YteaffpkmidaghaaCn
import Derived.Test.YteaffpkmidaghaaSq
namespace Go.Proofs.Yteaffpkmidaghaa
open Go.RowKit
set_option linter.unusedVariables false
set_option linter.unusedSimpArgs false

/-- A place of the row of calls: none, or a call's block and the call. -/
def cellOf (o : Option (Nat × Cl)) : Value := .pointer (o.map fun x => ⟨x.1, 0, none⟩)

/-- A deque, and calls that go on at once: 'own' places hold the owner's call, the others' follow. -/
structure Cnc (w0 w : World) (gd g gw ba : Nat) (ty : TypeId) (own : Nat) (zs : List Int) (A : Option Addr) (c : Nat) (ts : List Tc) (n t tag hi : Nat) (row : List Int) (oc : Option Cl) (cs : List (Option (Nat × Cl))) : Prop where
  dq : Dq w w0.heap.size gd g gw zs A c ts
  sh : Sh zs n t tag hi row oc
  arr : Lies w ba ty (cs.map cellOf)
  call : ∀ (i gc : Nat) (cl : Cl), cs[i]? = some (some (gc, cl)) → Lies w gc 58 (cl.cells g) ∧ w0.heap.size ≤ gc
  apart : ∀ (i j gc : Nat) (cl : Cl) (gc' : Nat) (cl' : Cl), i ≠ j → cs[i]? = some (some (gc, cl)) → cs[j]? = some (some (gc', cl')) → gc ≠ gc'
  th : ∀ (i gc : Nat) (cl : Cl), own ≤ i → cs[i]? = some (some (gc, cl)) → ThOk zs n t tag hi cl
  below : Below w0.heap.size w0 w
  lo : w0.heap.size ≤ ba
  ty_ : ty = 50 ∨ ty = 38
def Conc (w0 w : World) (gd g gw ba : Nat) (ty : TypeId) (own n t tag hi : Nat) (row : List Int) (oc : Option Cl) (cs : List (Option (Nat × Cl))) (k : Nat) : Prop :=
  ∃ zs A c ts, Cnc w0 w gd g gw ba ty own zs A c ts n t tag hi row oc cs ∧ ts.length ≤ k
/-- What a step of a call leaves. -/
def Kept (w w' : World) (gc gw : Nat) : Prop := w.heap.size ≤ w'.heap.size ∧ ∀ b ty cs, Lies w b ty cs → b ≠ gc → ty ≠ 61 → ty ≠ 70 → b ≠ gw → Lies w' b ty cs

section
variable {w0 w w' : World} {gd g gw ba : Nat} {ty : TypeId} {own n t tag hi : Nat} {row : List Int} {oc : Option Cl} {cs : List (Option (Nat × Cl))} {k : Nat} {i gc : Nat} {cl : Cl}

theorem Dn.kept_all {base : Nat} {A : Option Addr} {c : Nat} {zs zs' : List Int} {ts ts' : List Tc} (h : At w base g gw zs A c ts) (d : Dn w w' base gc g gw A zs' ts' cl) : Kept w w' gc gw :=
  ⟨by obtain ⟨_, _, _, _, e, _⟩ := d; exact e.size, fun b ty cs hl h0 h1 h2 h3 => d.lies_of h hl h0 h1 h2 h3⟩
theorem Conc.kept (h : Conc w0 w gd g gw ba ty own n t tag hi row oc cs k) (b : Below w.heap.size w w') : Conc w0 w' gd g gw ba ty own n t tag hi row oc cs k := by
  obtain ⟨zs, A, c, ts, H, hk⟩ := h
  exact ⟨zs, A, c, ts, ⟨H.dq.kept b, H.sh, H.arr.kept b, fun i gc cl e => ⟨(H.call i gc cl e).1.kept b, (H.call i gc cl e).2⟩, H.apart, H.th, on H.below H.below.size b, H.lo, H.ty_⟩, hk⟩
theorem Conc.below (h : Conc w0 w gd g gw ba ty own n t tag hi row oc cs k) : Below w0.heap.size w0 w := by
  obtain ⟨zs, A, c, ts, H, hk⟩ := h; exact H.below
theorem Conc.own_ (h : Conc w0 w gd g gw ba ty own n t tag hi row oc cs k) : Lies w gd 55 [.pointer (some ⟨g, 0, none⟩)] := by
  obtain ⟨zs, A, c, ts, H, hk⟩ := h; exact H.dq.own
theorem Conc.arr_ (h : Conc w0 w gd g gw ba ty own n t tag hi row oc cs k) : Lies w ba ty (cs.map cellOf) := by
  obtain ⟨zs, A, c, ts, H, hk⟩ := h; exact H.arr
theorem Conc.lies (h : Conc w0 w gd g gw ba ty own n t tag hi row oc cs k) (hc : cs[i]? = some (some (gc, cl))) : Lies w gc 58 (cl.cells g) := by
  obtain ⟨zs, A, c, ts, H, hk⟩ := h; exact (H.call i gc cl hc).1
theorem Conc.cell (h : Conc w0 w gd g gw ba ty own n t tag hi row oc cs k) {o : Option (Nat × Cl)} (hc : cs[i]? = some o) : w.cell? ⟨ba, i, none⟩ = some (cellOf o) := by
  rw [h.arr_.cell]; simp [hc]
theorem Conc.rlen (h : Conc w0 w gd g gw ba ty own n t tag hi row oc cs k) : t + row.length = hi := by
  obtain ⟨zs, A, c, ts, H, hk⟩ := h; exact H.sh.rlen
theorem Conc.gw_lo (h : Conc w0 w gd g gw ba ty own n t tag hi row oc cs k) : gw < w.heap.size := by
  obtain ⟨zs, A, c, ts, H, hk⟩ := h; exact H.dq.at_.words.lt
theorem set_some {cs : List (Option (Nat × Cl))} {i j : Nat} {o x : Option (Nat × Cl)} (h : (cs.set i o)[j]? = some x) : (i = j ∧ x = o) ∨ (i ≠ j ∧ cs[j]? = some x) := by
  rw [List.getElem?_set] at h
  by_cases e : i = j
  · rw [if_pos e] at h
    split at h
    · injection h with h; exact Or.inl ⟨e, h.symm⟩
    · cases h
  · rw [if_neg e] at h; exact Or.inr ⟨e, h⟩

/-- Behind a step of the call at place i. -/
theorem conc_after {zs zs' : List Int} {A : Option Addr} {c : Nat} {ts ts' : List Tc} {t' tag' hi' : Nat} {row' : List Int} {oc' : Option Cl} {cl' : Cl}
    (H : Cnc w0 w gd g gw ba ty own zs A c ts n t tag hi row oc cs) (hc : cs[i]? = some (some (gc, cl))) (D : Dn w w' w0.heap.size gc g gw A zs' ts' cl') (s : Sh zs' n t' tag' hi' row' oc') (h1 : own ≤ i → ThOk zs' n t' tag' hi' cl')
    (h2 : ∀ d, ThOk zs n t tag hi d → ThOk zs' n t' tag' hi' d) (hk : ts'.length ≤ k) : Conc w0 w' gd g gw ba ty own n t' tag' hi' row' oc' (cs.set i (some (gc, cl'))) k := by
  have L := H.call i gc cl hc
  have hlow := D.low H.dq.at_ L.2
  have hty : ty ≠ 61 ∧ ty ≠ 70 ∧ ty ≠ 3 ∧ ty ≠ 58 := by rcases H.ty_ with rfl | rfl <;> decide
  have hd := D.lies58 H.dq.at_ H.dq.own (H.dq.own.apart L.1 (by decide)) (by decide) (by decide) (by decide)
  have ha := D.lies58 H.dq.at_ H.arr (H.arr.apart L.1 hty.2.2.2) hty.1 hty.2.1 hty.2.2.1
  have hil : i < cs.length := by
    rw [List.getElem?_eq_some_iff] at hc; exact hc.1
  have hoth : ∀ (j gj : Nat) (clj : Cl), i ≠ j → cs[j]? = some (some (gj, clj)) → Lies w' gj 58 (clj.cells g) := fun j gj clj hij hj =>
    D.lies58 H.dq.at_ (H.call j gj clj hj).1 (H.apart j i gj clj gc cl (fun e => hij e.symm) hj hc) (by decide) (by decide) (by decide)
  have hself := D.lies
  obtain ⟨A', c', H', _⟩ := D
  refine ⟨zs', A', c', ts', ⟨⟨H', hd, H.dq.lo⟩, s, ?_, ?_, ?_, ?_, H.below.trans hlow, H.lo, H.ty_⟩, hk⟩
  · have : (cs.set i (some (gc, cl'))).map cellOf = cs.map cellOf := by
      rw [List.map_set]
      apply List.ext_getElem?
      intro j
      rw [List.getElem?_set]
      by_cases e : i = j
      · subst e
        have hci : cs[i] = some (gc, cl) := by rw [List.getElem?_eq_getElem hil] at hc; injection hc
        simp [hil, hci, cellOf]
      · simp [e]
    rw [this]; exact ha
  · intro j gj clj hj
    rcases set_some hj with ⟨rfl, e⟩ | ⟨hij, hj⟩
    · injection e with e; injection e with e1 e2; subst e1 e2; exact ⟨hself, L.2⟩
    · exact ⟨hoth j gj clj hij hj, (H.call j gj clj hj).2⟩
  · intro j l gj clj gl cll hjl hj hl
    rcases set_some hj with ⟨rfl, e⟩ | ⟨hij, hj'⟩
    · injection e with e; injection e with e1 e2; subst e1 e2
      rcases set_some hl with ⟨rfl, _⟩ | ⟨hil, hl'⟩
      · exact absurd rfl hjl
      · exact H.apart _ _ _ _ _ _ hjl hc hl'
    · rcases set_some hl with ⟨rfl, e⟩ | ⟨hil, hl'⟩
      · injection e with e; injection e with e1 e2; subst e1 e2; exact H.apart _ _ _ _ _ _ hjl hj' hc
      · exact H.apart _ _ _ _ _ _ hjl hj' hl'
  · intro j gj clj ho hj
    rcases set_some hj with ⟨rfl, e⟩ | ⟨hij, hj⟩
    · injection e with e; injection e with e1 e2; subst e2; exact h1 ho
    · exact h2 _ (H.th j gj clj ho hj)

theorem thief_any (h : Conc w0 w gd g gw ba ty own n t tag hi row oc cs k) (hc : cs[i]? = some (some (gc, cl))) (ho : own ≤ i) (hn : cl.nx ≠ 0) (hk : k ≤ 1000) :
    Calls Try.prog 19 #[.pointer (some ⟨gc, 0, none⟩)] w fun e w' => ∃ cl' t' row', e = .returned (.bool (decide (cl'.nx = 0))) ∧ Conc w0 w' gd g gw ba ty own n t' tag hi row' oc (cs.set i (some (gc, cl'))) (k + 1) ∧ ThOut cl' row row' ∧ Kept w w' gc gw := by
  obtain ⟨zs, A, c, ts, H, hts⟩ := h
  have hth := H.th i gc cl ho hc
  have L := H.call i gc cl hc
  obtain ⟨t', row', s', ht', hd', hout⟩ := thief_step H.sh hth hn
  refine (step_any H.dq.at_ L.1 (by omega) (th_fit H.sh hth hn)).mono ?_
  rintro e w' ⟨rfl, tc, D⟩
  exact ⟨_, t', row', rfl, conc_after H hc D s' (fun _ => ht') hd' (by simp; omega), hout, D.kept_all H.dq.at_⟩
theorem owner_any (h : Conc w0 w gd g gw ba ty own n t tag hi row (some cl) cs k) (hc : cs[i]? = some (some (gc, cl))) (ho : i < own) (hg : tag < 100000) (hk : k ≤ 1000) :
    Calls Try.prog 19 #[.pointer (some ⟨gc, 0, none⟩)] w fun e w' => ∃ cl' t' tag' hi' row', e = .returned (.bool (decide (cl'.nx = 0))) ∧ Conc w0 w' gd g gw ba ty own n t' tag' hi' row' (still cl') (cs.set i (some (gc, cl'))) (k + 1) ∧ tag' ≤ tag + 1 ∧ OwnOut cl cl' row row' ∧ Kept w w' gc gw := by
  obtain ⟨zs, A, c, ts, H, hts⟩ := h
  have L := H.call i gc cl hc
  obtain ⟨t', tag', hi', row', s', htag, hd', hout⟩ := owner_step H.sh hg
  refine (step_any H.dq.at_ L.1 (by omega) (own_fit H.sh)).mono ?_
  rintro e w' ⟨rfl, tc, D⟩
  exact ⟨_, t', tag', hi', row', rfl, conc_after H hc D s' (fun h => by omega) hd' (by simp; omega), htag, hout, D.kept_all H.dq.at_⟩

/-- A place of the row of calls is set. -/
theorem conc_put (h : Conc w0 w gd g gw ba ty own n t tag hi row oc cs k) (o : Option (Nat × Cl)) (oc' : Option Cl) (hi' : i < cs.length)
    (hs : ∀ zs, Sh zs n t tag hi row oc → Sh zs n t tag hi row oc') (ho : ∀ (gc : Nat) (cl : Cl), o = some (gc, cl) → Lies w gc 58 (cl.cells g) ∧ w0.heap.size ≤ gc ∧ (∀ (j gj : Nat) (clj : Cl), cs[j]? = some (some (gj, clj)) → gj ≠ gc) ∧ (own ≤ i → ∀ zs, Sh zs n t tag hi row oc → ThOk zs n t tag hi cl)) :
    Conc w0 (w.setCell ⟨ba, i, none⟩ (cellOf o)) gd g gw ba ty own n t tag hi row oc' (cs.set i o) k := by
  obtain ⟨zs, A, c, ts, H, hk⟩ := h
  have hty : ty ≠ 61 ∧ ty ≠ 70 ∧ ty ≠ 3 ∧ ty ≠ 58 ∧ ty ≠ 55 := by rcases H.ty_ with rfl | rfl <;> decide
  have O : Only ba w (w.setCell ⟨ba, i, none⟩ (cellOf o)) := (Only.refl ba w).set i _
  obtain ⟨n1, n2, n3⟩ := H.dq.at_.apart H.arr hty.1 hty.2.1 hty.2.2.1
  refine ⟨zs, A, c, ts, ⟨⟨H.dq.at_.only O n1 n2 n3, O.lies H.dq.own (H.dq.own.apart H.arr (fun e => hty.2.2.2.2 e.symm)), H.dq.lo⟩, hs zs H.sh, by rw [List.map_set]; exact H.arr.set i _, ?_, ?_, ?_, ?_, H.lo, H.ty_⟩, hk⟩
  · intro j gj clj hj
    rcases set_some hj with ⟨rfl, e⟩ | ⟨hij, hj⟩
    · have := ho gj clj e.symm
      exact ⟨O.lies this.1 (this.1.apart H.arr (fun e => hty.2.2.2.1 e.symm)), this.2.1⟩
    · have := H.call j gj clj hj
      exact ⟨O.lies this.1 (this.1.apart H.arr (fun e => hty.2.2.2.1 e.symm)), this.2⟩
  · intro j l gj clj gl cll hjl hj hl
    rcases set_some hj with ⟨rfl, e⟩ | ⟨hij, hj⟩
    · rcases set_some hl with ⟨rfl, _⟩ | ⟨hil, hl⟩
      · exact absurd rfl hjl
      · exact fun e' => (ho gj clj e.symm).2.2.1 l gl cll hl e'.symm
    · rcases set_some hl with ⟨rfl, e⟩ | ⟨hil, hl⟩
      · exact (ho gl cll e.symm).2.2.1 j gj clj hj
      · exact H.apart _ _ _ _ _ _ hjl hj hl
  · intro j gj clj hoj hj
    rcases set_some hj with ⟨rfl, e⟩ | ⟨hij, hj⟩
    · exact (ho gj clj e.symm).2.2.2 hoj zs H.sh
    · exact H.th j gj clj hoj hj
  · exact H.below.trans ⟨rfl, rfl, rfl, by simp, fun k hk => Below.heap_setCell w _ _ k (by have := H.lo; show k ≠ ba; omega)⟩

/-- Words, in a block of their own. -/
theorem conc_words (h : Conc w0 w gd g gw ba ty own n t tag hi row none cs k) :
    Calls Try.prog 15 #[.pointer (some ⟨gd, 0, none⟩)] w fun e w' => ∃ a, e = .returned (.slice (some a) row.length row.length) ∧ Row .i64 w' (some a) row ∧ w.heap.size ≤ a.block ∧ Below w.heap.size w w' := by
  obtain ⟨zs, A, c, ts, H, hk⟩ := h
  have q := H.sh.q
  have h1 := q.len
  have h2 := q.n2
  have h3 := q.fits
  have h4 := q.n'
  have hb : zs.getD 0 0 = ((t + row.length : Nat) : Int) := by rw [q.bot]; omega
  have ht : zs.getD 1 0 % 4096 = t := by rw [q.top]; omega
  refine (words_core H.dq.at_ H.dq.own (by omega) (t + row.length) t _ hb rfl q.topb.1 q.topb.2 ht (by omega) (by omega)).mono ?_
  rintro e w' ⟨p, rfl, hp, L, B⟩
  have eb : t + row.length + 2 - (t + 2) = row.length := by omega
  refine ⟨_, by rw [eb], ?_, ?_, B⟩
  · intro h0
    have hne : ¬ (t + 2 = t + row.length + 2) := by omega
    rw [if_neg hne]
    refine ⟨_, rfl, L.lt, fun j v hv => ?_⟩
    have hj : j < row.length := by
      have := (List.getElem?_eq_some_iff.1 hv).1
      rw [List.length_map] at this
      exact this
    have ea : (⟨p, t + 2, none⟩ : Addr).add j = ⟨p, t + 2 + j, none⟩ := by unfold Addr.add; split <;> simp_all
    rw [ea, L.cell, ← hv]
    have := q.row_ j hj
    have h5 : t + 2 + j < zs.length := by omega
    rw [show t + j + 2 = t + 2 + j by omega] at this
    simp only [List.getD, List.getElem?_eq_getElem h5, List.getElem?_eq_getElem hj, Option.getD_some] at this
    simp [h5, hj, this]
  · split <;> exact hp
end
end Go.Proofs.Yteaffpkmidaghaa
