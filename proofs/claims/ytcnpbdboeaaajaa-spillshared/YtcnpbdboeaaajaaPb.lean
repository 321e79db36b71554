/- A spill and calls that go on at once, in memory. -/
import Derived.Test.YtcnpbdboeaaajaaPa
namespace Go.Proofs.Ytcnpbdboeaaajaa
open Go.RowKit
set_option linter.unusedVariables false
set_option linter.unusedSimpArgs false

section
variable {w w' : World} {base gd g gw gc : Nat} {zs : List Int} {A : Option Addr} {c : Nat} {ts : List Tc} {cl : Cl}
theorem Ex.below {row : Option Nat} {B : Nat} (e : Ex gc g gw row w w') (hB : B ≤ w.heap.size) (h0 : B ≤ gc) (h1 : B ≤ g) (h2 : B ≤ gw) (h3 : ∀ k, row = some k → B ≤ k) : Below B w w' :=
  ⟨e.os, e.tape, e.output, e.size, fun k hk => e.block k (by omega) (by omega) (by omega) (by omega) (fun e => by have := h3 k e.symm; omega)⟩
theorem Dn.low {zs' : List Int} {ts' : List Tc} (d : Dn w w' base gc g gw A zs' ts' cl) (h : At w base g gw zs A c ts) (hg : base ≤ gc) : Below base w w' := by
  obtain ⟨A', c', h1, h2, h3, h4⟩ := d
  exact h3.below h.old hg h.lo h.lo' fun k hk => (h.row_of k hk).1
theorem Dn.lies_of {zs' : List Int} {ts' : List Tc} (d : Dn w w' base gc g gw A zs' ts' cl) (h : At w base g gw zs A c ts) {b : Nat} {t : TypeId} {cs : List Value} (hl : Lies w b t cs) (h0 : b ≠ gc) (h1 : t ≠ 64) (h2 : t ≠ 74) (h3 : b ≠ gw) : Lies w' b t cs := by
  obtain ⟨A', c', _, _, e, _⟩ := d
  exact e.lies hl h0 (hl.apart h.own h1) h3 (h.not_row hl h2)
theorem Dn.lies62 {zs' : List Int} {ts' : List Tc} (d : Dn w w' base gc g gw A zs' ts' cl) (h : At w base g gw zs A c ts) {b : Nat} {t : TypeId} {cs : List Value} (hl : Lies w b t cs) (h0 : b ≠ gc) (h1 : t ≠ 64) (h2 : t ≠ 74) (h3 : t ≠ 3) : Lies w' b t cs :=
  d.lies_of h hl h0 h1 h2 (hl.apart h.words h3)
end

/-- What a step of a call leaves, block by block. -/
def KeptB (w w' : World) (gc g gw : Nat) : Prop := w.heap.size ≤ w'.heap.size ∧ ∀ k, k < w.heap.size → k ≠ gc → k ≠ g → k ≠ gw → (∀ cs, ¬ Lies w k 74 cs) → w'.heap[k]? = w.heap[k]?
theorem KeptB.refl (w : World) (gc g gw : Nat) : KeptB w w gc g gw := ⟨Nat.le_refl _, fun _ _ _ _ _ _ => rfl⟩
theorem KeptB.trans {a b d : World} {gc g gw : Nat} (h : KeptB a b gc g gw) (k : KeptB b d gc g gw) : KeptB a d gc g gw :=
  ⟨Nat.le_trans h.1 k.1, fun i hi h0 h1 h2 h3 => by
    have e := h.2 i hi h0 h1 h2 h3
    exact (k.2 i (Nat.lt_of_lt_of_le hi h.1) h0 h1 h2 (fun cs hl => h3 cs (hl.of_block e.symm))).trans e⟩
theorem KeptB.of_below {w w' : World} {gc g gw : Nat} (b : Below w.heap.size w w') : KeptB w w' gc g gw := ⟨b.size, fun k hk _ _ _ _ => b.block k hk⟩
theorem KeptB.lies {w w' : World} {gc g gw b : Nat} {t : TypeId} {cs : List Value} (h : KeptB w w' gc g gw) (hl : Lies w b t cs) (h0 : b ≠ gc) (h1 : b ≠ g) (h2 : b ≠ gw) (h3 : t ≠ 74) : Lies w' b t cs :=
  hl.of_block (h.2 b hl.lt h0 h1 h2 (fun cs' hl' => hl.apart hl' h3 rfl))

structure Cn (w0 w : World) (gd g gw : Nat) (zs : List Int) (A : Option Addr) (c : Nat) (ts : List Tc) (n : Nat) (pile : List Int) (cs : Cs) : Prop where
  dq : Dq w w0.heap.size gd g gw zs A c ts
  sh : Sh zs n pile cs
  call : ∀ (i gc : Nat) (cl : Cl) (x : Int), cs[i]? = some (some (gc, cl, x)) → Lies w gc 62 (cl.cells g) ∧ w0.heap.size ≤ gc
  apart : ∀ (i j gc : Nat) (cl : Cl) (x : Int) (gc' : Nat) (cl' : Cl) (x' : Int), i ≠ j → cs[i]? = some (some (gc, cl, x)) → cs[j]? = some (some (gc', cl', x')) → gc ≠ gc'
  below : Below w0.heap.size w0 w
def Conc (w0 w : World) (gd g gw n : Nat) (pile : List Int) (cs : Cs) (k : Nat) : Prop := ∃ zs A c ts, Cn w0 w gd g gw zs A c ts n pile cs ∧ ts.length = k

theorem Dq.kept {w w' : World} {base gd g gw : Nat} {zs : List Int} {A : Option Addr} {c : Nat} {ts : List Tc} (h : Dq w base gd g gw zs A c ts) (b : Below w.heap.size w w') : Dq w' base gd g gw zs A c ts :=
  ⟨h.at_.kept b, h.own.kept b, h.lo⟩

section
variable {zs : List Int} {n : Nat} {pile : List Int} {cs : Cs} {i : Nat}
theorem Sh.new (p : Pl zs n pile) (h0 : zs.getD 0 0 = 0) (h : ∀ (i : Nat) (x : Option (Nat × Cl × Int)), cs[i]? = some x → x = none) : Sh zs n pile cs :=
  ⟨fun i gc c x e => (by cases h i _ e), Or.inl ⟨h0, p, fun i gc c x e => (by cases h i _ e)⟩⟩
theorem Sh.put (S : Sh zs n pile cs) (o : Option (Nat × Cl × Int)) (h : ∀ gc c x, o = some (gc, c, x) → CallOk c x ∧ (c.nx = 27 ∨ c.nx = 0)) (hold : ∀ gc c x, cs[i]? = some (some (gc, c, x)) → c.nx = 27 ∨ c.nx = 0) : Sh zs n pile (cs.set i o) := by
  refine ⟨fun j gc c x e => ?_, ?_⟩
  · rcases set_some e with ⟨_, e⟩ | ⟨_, e⟩
    · exact (h gc c x e.symm).1
    · exact S.ok j gc c x e
  · rcases S.st with ⟨h0, p, fr⟩ | ⟨h0, hh, gh, ch, xh, hc, ho, oth⟩
    · refine Or.inl ⟨h0, p, fun j gc c x e => ?_⟩
      rcases set_some e with ⟨_, e⟩ | ⟨_, e⟩
      · exact (h gc c x e.symm).2
      · exact fr j gc c x e
    · have hne : i ≠ hh := fun e => by
        subst e
        have := hold gh ch xh hc
        have := ho.nx
        omega
      refine Or.inr ⟨h0, hh, gh, ch, xh, by rw [List.getElem?_set_ne hne]; exact hc, ho, fun j gc c x hj e => ?_⟩
      rcases set_some e with ⟨_, e⟩ | ⟨_, e⟩
      · exact (h gc c x e.symm).2
      · exact oth j gc c x hj e
theorem app_some {o x : Option (Nat × Cl × Int)} (h : (cs ++ [o])[i]? = some x) : (i = cs.length ∧ x = o) ∨ cs[i]? = some x := by
  rw [List.getElem?_append] at h
  by_cases e : i < cs.length
  · rw [if_pos e] at h; exact Or.inr h
  · rw [if_neg e] at h
    have : i - cs.length = 0 := by
      have := (List.getElem?_eq_some_iff.1 h).1
      simp at this; omega
    rw [this] at h
    simp at h
    exact Or.inl ⟨by omega, h.symm⟩
theorem app_old {o x : Option (Nat × Cl × Int)} (h : cs[i]? = some x) : (cs ++ [o])[i]? = some x := by
  rw [List.getElem?_append_left (List.getElem?_eq_some_iff.1 h).1]; exact h
theorem Sh.app (S : Sh zs n pile cs) (o : Option (Nat × Cl × Int)) (h : ∀ gc c x, o = some (gc, c, x) → CallOk c x ∧ (c.nx = 27 ∨ c.nx = 0)) : Sh zs n pile (cs ++ [o]) := by
  refine ⟨fun j gc c x e => ?_, ?_⟩
  · rcases app_some e with ⟨_, e⟩ | e
    · exact (h gc c x e.symm).1
    · exact S.ok j gc c x e
  · rcases S.st with ⟨h0, p, fr⟩ | ⟨h0, hh, gh, ch, xh, hc, ho, oth⟩
    · refine Or.inl ⟨h0, p, fun j gc c x e => ?_⟩
      rcases app_some e with ⟨_, e⟩ | e
      · exact (h gc c x e.symm).2
      · exact fr j gc c x e
    · refine Or.inr ⟨h0, hh, gh, ch, xh, app_old hc, ho, fun j gc c x hj e => ?_⟩
      rcases app_some e with ⟨_, e⟩ | e
      · exact (h gc c x e.symm).2
      · exact oth j gc c x hj e
theorem Sh.pl (S : Sh zs n pile cs) (f : Free cs) : zs.getD 0 0 = 0 ∧ Pl zs n pile := by
  rcases S.st with ⟨h0, p, fr⟩ | ⟨h0, hh, gh, ch, xh, hc, ho, oth⟩
  · exact ⟨h0, p⟩
  · have := f _ _ _ _ hc
    have := ho.nx
    omega
end

section
variable {w0 w w' : World} {gd g gw n : Nat} {pile : List Int} {cs : Cs} {k : Nat} {i gc : Nat} {cl : Cl} {x : Int} {zs : List Int} {A : Option Addr} {c : Nat} {ts : List Tc}

theorem Dn.keptB {base : Nat} {zs' : List Int} {ts' : List Tc} (h : At w base g gw zs A c ts) (d : Dn w w' base gc g gw A zs' ts' cl) : KeptB w w' gc g gw := by
  obtain ⟨_, _, _, _, e, _⟩ := d
  refine ⟨e.size, fun k hk h0 h1 h2 h3 => e.block k hk h0 h1 h2 (fun e' => ?_)⟩
  obtain ⟨cs, hl⟩ := h.row_lies e'.symm
  exact h3 cs hl
theorem Cn.kept (H : Cn w0 w gd g gw zs A c ts n pile cs) (b : Below w.heap.size w w') : Cn w0 w' gd g gw zs A c ts n pile cs :=
  ⟨H.dq.kept b, H.sh, fun i gc cl x e => ⟨(H.call i gc cl x e).1.kept b, (H.call i gc cl x e).2⟩, H.apart, on H.below H.below.size b⟩
/-- A block that isn't of the spill's, or of its calls', may turn. -/
theorem Cn.only (H : Cn w0 w gd g gw zs A c ts n pile cs) {b : Nat} (O : Only b w w') (h1 : b ≠ gd) (h2 : b ≠ g) (h3 : b ≠ gw) (h5 : ∀ cs, ¬ Lies w b 74 cs) (h6 : ∀ cs, ¬ Lies w b 62 cs) (lo : w0.heap.size ≤ b) : Cn w0 w' gd g gw zs A c ts n pile cs := by
  have hrow : some b ≠ blk A := fun e => by obtain ⟨cs, hl⟩ := H.dq.at_.row_lies e.symm; exact h5 cs hl
  refine ⟨⟨H.dq.at_.only O h2 h3 hrow, O.lies H.dq.own h1.symm, H.dq.lo⟩, H.sh, fun i gc cl x e => ?_, H.apart, ?_⟩
  · have := H.call i gc cl x e
    exact ⟨O.lies this.1 (fun e' => h6 _ (e' ▸ this.1)), this.2⟩
  · exact H.below.trans ⟨O.os, O.tape, O.output, O.size, fun i hi => O.block i (Nat.lt_of_lt_of_le hi H.below.size) (by omega)⟩
theorem Conc.kept (h : Conc w0 w gd g gw n pile cs k) (b : Below w.heap.size w w') : Conc w0 w' gd g gw n pile cs k := by
  obtain ⟨zs, A, c, ts, H, hk⟩ := h; exact ⟨zs, A, c, ts, H.kept b, hk⟩
theorem Conc.below (h : Conc w0 w gd g gw n pile cs k) : Below w0.heap.size w0 w := by
  obtain ⟨zs, A, c, ts, H, hk⟩ := h; exact H.below
theorem Conc.own (h : Conc w0 w gd g gw n pile cs k) : Lies w gd 58 [.pointer (some ⟨g, 0, none⟩)] := by
  obtain ⟨zs, A, c, ts, H, hk⟩ := h; exact H.dq.own
theorem Conc.lies (h : Conc w0 w gd g gw n pile cs k) (hc : cs[i]? = some (some (gc, cl, x))) : Lies w gc 62 (cl.cells g) := by
  obtain ⟨zs, A, c, ts, H, hk⟩ := h; exact (H.call i gc cl x hc).1
theorem Conc.lo (h : Conc w0 w gd g gw n pile cs k) (hc : cs[i]? = some (some (gc, cl, x))) : w0.heap.size ≤ gc := by
  obtain ⟨zs, A, c, ts, H, hk⟩ := h; exact (H.call i gc cl x hc).2
theorem Conc.callOk (h : Conc w0 w gd g gw n pile cs k) (hc : cs[i]? = some (some (gc, cl, x))) : CallOk cl x := by
  obtain ⟨zs, A, c, ts, H, hk⟩ := h; exact H.sh.ok i gc cl x hc
theorem Conc.gw_lt (h : Conc w0 w gd g gw n pile cs k) : gw < w.heap.size := by
  obtain ⟨zs, A, c, ts, H, hk⟩ := h; exact H.dq.at_.words.lt
theorem Conc.g_lies (h : Conc w0 w gd g gw n pile cs k) : ∃ vs, Lies w g 64 vs := by
  obtain ⟨zs, A, c, ts, H, hk⟩ := h; exact ⟨_, H.dq.at_.own⟩
theorem Conc.gw_lies (h : Conc w0 w gd g gw n pile cs k) : ∃ vs, Lies w gw 3 vs := by
  obtain ⟨zs, A, c, ts, H, hk⟩ := h; exact ⟨_, H.dq.at_.words⟩
theorem Conc.only (h : Conc w0 w gd g gw n pile cs k) {b : Nat} (O : Only b w w') (h1 : b ≠ gd) (h2 : b ≠ g) (h3 : b ≠ gw) (h5 : ∀ cs, ¬ Lies w b 74 cs) (h6 : ∀ cs, ¬ Lies w b 62 cs) (lo : w0.heap.size ≤ b) : Conc w0 w' gd g gw n pile cs k := by
  obtain ⟨zs, A, c, ts, H, hk⟩ := h; exact ⟨zs, A, c, ts, H.only O h1 h2 h3 h5 h6 lo, hk⟩
/-- The same, for a block of cells of another type. -/
theorem Conc.only_lies (h : Conc w0 w gd g gw n pile cs k) {b : Nat} {ty : TypeId} {vs : List Value} (O : Only b w w') (L : Lies w b ty vs) (n1 : ty ≠ 58) (n2 : ty ≠ 64) (n3 : ty ≠ 74) (n4 : ty ≠ 62) (h3 : b ≠ gw) (lo : w0.heap.size ≤ b) : Conc w0 w' gd g gw n pile cs k := by
  have g1 := h.g_lies
  obtain ⟨vg, Lg⟩ := g1
  exact h.only O (L.apart h.own n1) (L.apart Lg n2) h3 (fun cs hl => L.apart hl n3 rfl) (fun cs hl => L.apart hl n4 rfl) lo
theorem Conc.free_pl (h : Conc w0 w gd g gw n pile cs k) (f : Free cs) : ∃ zs, Pl zs n pile := by
  obtain ⟨zs, A, c, ts, H, hk⟩ := h; exact ⟨zs, (H.sh.pl f).2⟩
theorem Conc.live (h : Conc w0 w gd g gw n pile cs k) (h0 : tot cs ≠ 0) : ∃ j, Live cs j := by
  obtain ⟨zs, A, c, ts, H, hk⟩ := h; exact H.sh.live h0
theorem Conc.far {r B : Nat} (h : Conc w0 w gd g gw n pile cs k) (ht : tot cs + r ≤ B ∨ tot cs = 0) : Far cs r B 0 := by
  obtain ⟨zs, A, c, ts, H, hk⟩ := h; exact Far.start H.sh ht

theorem Cn.put (H : Cn w0 w gd g gw zs A c ts n pile cs) (o : Option (Nat × Cl × Int)) (h : ∀ gc cl x, o = some (gc, cl, x) → CallOk cl x ∧ (cl.nx = 27 ∨ cl.nx = 0) ∧ Lies w gc 62 (cl.cells g) ∧ w0.heap.size ≤ gc ∧ (∀ (j gj : Nat) (clj : Cl) (xj : Int), cs[j]? = some (some (gj, clj, xj)) → gj ≠ gc))
    (hold : ∀ gc cl x, cs[i]? = some (some (gc, cl, x)) → cl.nx = 27 ∨ cl.nx = 0) : Cn w0 w gd g gw zs A c ts n pile (cs.set i o) := by
  refine ⟨H.dq, H.sh.put o (fun gc cl x e => ⟨(h gc cl x e).1, (h gc cl x e).2.1⟩) hold, fun j gj clj xj hj => ?_, fun j l gj clj xj gl cll xl hjl hj hl => ?_, H.below⟩
  · rcases set_some hj with ⟨_, e⟩ | ⟨_, hj⟩
    · have := h gj clj xj e.symm; exact ⟨this.2.2.1, this.2.2.2.1⟩
    · exact H.call j gj clj xj hj
  · rcases set_some hj with ⟨rfl, e⟩ | ⟨_, hj⟩
    · rcases set_some hl with ⟨rfl, _⟩ | ⟨_, hl⟩
      · exact absurd rfl hjl
      · exact fun e' => (h gj clj xj e.symm).2.2.2.2 l gl cll xl hl e'.symm
    · rcases set_some hl with ⟨rfl, e⟩ | ⟨_, hl⟩
      · exact (h gl cll xl e.symm).2.2.2.2 j gj clj xj hj
      · exact H.apart _ _ _ _ _ _ _ _ hjl hj hl
theorem Cn.app (H : Cn w0 w gd g gw zs A c ts n pile cs) (hk : CallOk cl x) (hn : cl.nx = 27 ∨ cl.nx = 0) (hl : Lies w gc 62 (cl.cells g)) (lo : w0.heap.size ≤ gc) (ha : ∀ (j gj : Nat) (clj : Cl) (xj : Int), cs[j]? = some (some (gj, clj, xj)) → gj ≠ gc) : Cn w0 w gd g gw zs A c ts n pile (cs ++ [some (gc, cl, x)]) := by
  refine ⟨H.dq, H.sh.app _ (fun gc' cl' x' e => by injection e with e; injection e with e1 e2; injection e2 with e2 e3; subst e1 e2 e3; exact ⟨hk, hn⟩), fun j gj clj xj hj => ?_, fun j l gj clj xj gl cll xl hjl hj hl' => ?_, H.below⟩
  · rcases app_some hj with ⟨_, e⟩ | hj
    · injection e with e; injection e with e1 e2; injection e2 with e2 e3; subst e1 e2 e3; exact ⟨hl, lo⟩
    · exact H.call j gj clj xj hj
  · rcases app_some hj with ⟨hj0, e⟩ | hj
    · injection e with e; injection e with e1 e2; rw [e1]
      rcases app_some hl' with ⟨hl0, _⟩ | hl'
      · exact absurd (hj0.trans hl0.symm) hjl
      · exact fun e' => ha l gl cll xl hl' e'.symm
    · rcases app_some hl' with ⟨_, e⟩ | hl'
      · injection e with e; injection e with e1 e2
        rw [e1]; exact ha j gj clj xj hj
      · exact H.apart _ _ _ _ _ _ _ _ hjl hj hl'
theorem Conc.fresh (h : Conc w0 w gd g gw n pile cs k) : ∀ (j gj : Nat) (clj : Cl) (xj : Int), cs[j]? = some (some (gj, clj, xj)) → gj ≠ w.heap.size := fun j gj clj xj hj => by have := (h.lies hj).lt; omega
/-- A call is begun, as one more. -/
theorem Conc.app (h : Conc w0 w gd g gw n pile cs k) (L : Lies w' w.heap.size 62 (cl.cells g)) (b : Below w.heap.size w w') (hk : CallOk cl x) (hn : cl.nx = 27) : Conc w0 w' gd g gw n pile (cs ++ [some (w.heap.size, cl, x)]) k := by
  have f := h.fresh
  obtain ⟨zs, A, c, ts, H, hts⟩ := h
  exact ⟨zs, A, c, ts, (H.kept b).app hk (Or.inl hn) L H.below.size f, hts⟩
/-- A call is begun, in a place that is free. -/
theorem Conc.into (h : Conc w0 w gd g gw n pile cs k) (hi : cs[i]? = some none) (L : Lies w' w.heap.size 62 (cl.cells g)) (b : Below w.heap.size w w') (hk : CallOk cl x) (hn : cl.nx = 27) : Conc w0 w' gd g gw n pile (cs.set i (some (w.heap.size, cl, x))) k := by
  have f := h.fresh
  obtain ⟨zs, A, c, ts, H, hts⟩ := h
  refine ⟨zs, A, c, ts, (H.kept b).put _ (fun gc' cl' x' e => ?_) (fun gc cl x e => by rw [hi] at e; cases e), hts⟩
  injection e with e; injection e with e1 e2; injection e2 with e2 e3; subst e1 e2 e3
  exact ⟨hk, Or.inl hn, L, H.below.size, f⟩
/-- A call that is done is let go. -/
theorem Conc.drop (h : Conc w0 w gd g gw n pile cs k) (hi : cs[i]? = some (some (gc, cl, x))) (hn : cl.nx = 0) : Conc w0 w gd g gw n pile (cs.set i none) k := by
  obtain ⟨zs, A, c, ts, H, hts⟩ := h
  refine ⟨zs, A, c, ts, H.put none (fun gc' cl' x' e => (by cases e)) (fun gc' cl' x' e => ?_), hts⟩
  rw [hi] at e
  injection e with e; injection e with e; injection e with e1 e2; injection e2 with e2 e3; subst e1 e2 e3
  exact Or.inr hn
theorem Conc.nil (h : Conc w0 w gd g gw n pile cs k) (f : Free cs) : Conc w0 w gd g gw n pile [] k := by
  obtain ⟨zs, A, c, ts, H, hts⟩ := h
  have p := H.sh.pl f
  exact ⟨zs, A, c, ts, ⟨H.dq, Sh.new p.2 p.1 (fun i x e => by simp at e), fun i gc cl x e => by simp at e, fun i j gc cl x gc' cl' x' _ e => by simp at e, H.below⟩, hts⟩

theorem step_cn (H : Cn w0 w gd g gw zs A c ts n pile cs) (hc : cs[i]? = some (some (gc, cl, x))) (hn : cl.nx ≠ 0) (hk : ts.length ≤ 30000) :
    Calls Try.prog 16 #[.pointer (some ⟨gc, 0, none⟩)] w fun e w' => ∃ cl' zs' pile' A' c' t, e = .returned (.bool (decide (cl'.nx = 0))) ∧ Cn w0 w' gd g gw zs' A' c' (ts ++ [t]) n pile' (cs.set i (some (gc, cl', x))) ∧
      Moves cs i cl cl' x n pile pile' ∧ cl'.mv = cl.mv ∧ (¬ Live cs i → zs' = zs) ∧ KeptB w w' gc g gw := by
  have L := H.call i gc cl x hc
  obtain ⟨ft, hmv, pile', S', M, hz⟩ := sh_step H.sh hc hn
  refine (step_any H.dq.at_ L.1 hk ft).mono ?_
  rintro e w' ⟨rfl, t, D⟩
  have hlow := D.low H.dq.at_ L.2
  have hd := D.lies62 H.dq.at_ H.dq.own (H.dq.own.apart L.1 (by decide)) (by decide) (by decide) (by decide)
  have hoth : ∀ (j gj : Nat) (clj : Cl) (xj : Int), i ≠ j → cs[j]? = some (some (gj, clj, xj)) → Lies w' gj 62 (clj.cells g) := fun j gj clj xj hij hj =>
    D.lies62 H.dq.at_ (H.call j gj clj xj hj).1 (H.apart j i gj clj xj gc cl x (fun e => hij e.symm) hj hc) (by decide) (by decide) (by decide)
  have hself := D.lies
  have hkB := D.keptB H.dq.at_
  obtain ⟨A', c', H', _⟩ := D
  refine ⟨_, _, pile', A', c', t, rfl, ⟨⟨H', hd, H.dq.lo⟩, S', ?_, ?_, H.below.trans hlow⟩, M, hmv, hz, hkB⟩
  · intro j gj clj xj hj
    rcases set_some hj with ⟨rfl, e⟩ | ⟨hij, hj⟩
    · injection e with e; injection e with e1 e2; injection e2 with e2 e3; subst e1 e2 e3; exact ⟨hself, L.2⟩
    · exact ⟨hoth j gj clj xj hij hj, (H.call j gj clj xj hj).2⟩
  · intro j l gj clj xj gl cll xl hjl hj hl
    rcases set_some hj with ⟨rfl, e⟩ | ⟨hij, hj'⟩
    · injection e with e; injection e with e1 e2; subst e1
      rcases set_some hl with ⟨rfl, _⟩ | ⟨hil, hl'⟩
      · exact absurd rfl hjl
      · exact H.apart _ _ _ _ _ _ _ _ hjl hc hl'
    · rcases set_some hl with ⟨rfl, e⟩ | ⟨hil, hl'⟩
      · injection e with e; injection e with e1 e2; subst e1; exact H.apart _ _ _ _ _ _ _ _ hjl hj' hc
      · exact H.apart _ _ _ _ _ _ _ _ hjl hj' hl'

theorem step_conc (h : Conc w0 w gd g gw n pile cs k) (hc : cs[i]? = some (some (gc, cl, x))) (hn : cl.nx ≠ 0) (hk : k ≤ 30000) :
    Calls Try.prog 16 #[.pointer (some ⟨gc, 0, none⟩)] w fun e w' => ∃ cl' pile', e = .returned (.bool (decide (cl'.nx = 0))) ∧ Conc w0 w' gd g gw n pile' (cs.set i (some (gc, cl', x))) (k + 1) ∧ Moves cs i cl cl' x n pile pile' ∧ cl'.mv = cl.mv ∧ KeptB w w' gc g gw := by
  obtain ⟨zs, A, c, ts, H, rfl⟩ := h
  refine (step_cn H hc hn hk).mono ?_
  rintro e w' ⟨cl', zs', pile', A', c', t, rfl, H', M, hmv, _, K⟩
  exact ⟨cl', pile', rfl, ⟨zs', A', c', ts ++ [t], H', by simp⟩, M, hmv, K⟩
/-- Words, in a block of their own. -/
theorem conc_words (h : Conc w0 w gd g gw n pile cs k) (f : Free cs) :
    Calls Try.prog 14 #[.pointer (some ⟨gd, 0, none⟩)] w fun e w' => ∃ a, e = .returned (.slice (some a) pile.length pile.length) ∧ Row .i64 w' (some a) pile ∧ w.heap.size ≤ a.block ∧ Below w.heap.size w w' := by
  obtain ⟨zs, A, c, ts, H, hk⟩ := h
  have p := (H.sh.pl f).2
  have h1 := p.len
  have h2 := p.n1
  have h3 := p.fits
  refine (dwords_any H.dq.at_ H.dq.own (by omega) pile.length p.many (by omega)).mono ?_
  rintro e w' ⟨a, rfl, R, hl, ha, B⟩
  rw [p.row_of] at R
  exact ⟨a, rfl, R, ha, B⟩
end

/-- A new spill. -/
theorem conc_new (z : Int) (n : Nat) (hz : z = n) (w0 w : World) (B : Below w0.heap.size w0 w) (h1 : 1 ≤ n) (h2 : n ≤ 65534) :
    Calls Try.prog 10 #[.int .i64 z] w fun e w' => ∃ gd g gw, e = .returned (.tuple #[.pointer (some ⟨gd, 0, none⟩), .int .i64 0]) ∧ Conc w0 w' gd g gw n [] [] 0 ∧ Below w.heap.size w w' := by
  refine (dnew_yes z n hz w w0.heap.size B.size h1 h2).mono ?_
  rintro e w' ⟨gd, g, gw, rfl, B', H⟩
  exact ⟨gd, g, gw, rfl, ⟨_, _, _, _, ⟨H, Sh.new (Pl.new n h1 h2) (by simp [List.getD]) (fun i x e => by simp at e), fun i gc cl x e => by simp at e, fun i j gc cl x gc' cl' x' _ e => by simp at e, on B B.size B'⟩, rfl⟩, B'⟩
theorem ok_put (k x : Int) (h0 : 0 ≤ k) (h1 : k < 64) : CallOk ⟨k, 27, 25, 0, x, 0⟩ x := ⟨h0, h1, Or.inl rfl, fun _ => ⟨rfl, rfl, fun _ => rfl⟩⟩
theorem ok_take (k x : Int) (h0 : 0 ≤ k) (h1 : k < 64) : CallOk ⟨k, 27, 26, 0, 0, 0⟩ x := ⟨h0, h1, Or.inr rfl, fun _ => ⟨rfl, rfl, fun h => by cases h⟩⟩
theorem nil28 (gc : Nat) (W : World) : (binOp .eql 28 (.pointer (some ⟨gc, 0, none⟩)) (.pointer none)).run Try.prog W = .ok (.bool false) W := by kernel_rfl
theorem nil24 (gc : Nat) (W : World) : (binOp .eql 24 (.pointer (some ⟨gc, 0, none⟩)) (.pointer none)).run Try.prog W = .ok (.bool false) W := by kernel_rfl

section
variable {w0 w w' : World} {gd g gw n : Nat} {pile : List Int} {cs : Cs} {k : Nat} {i gc : Nat} {cl : Cl} {x : Int}
set_option maxHeartbeats 1000000 in
/-- A call that gets on, all of it. -/
theorem done_conc (h : Conc w0 w gd g gw n pile cs k) (hc : cs[i]? = some (some (gc, cl, x))) (hl : Live cs i) (hk : k + 5 ≤ 30000) :
    Calls Try.prog 12 #[.pointer (some ⟨gc, 0, none⟩)] w fun e w' => ∃ cl' pile' k', e = .returned (.tuple #[.int .i64 cl'.word, .int .i64 cl'.err]) ∧ Conc w0 w' gd g gw n pile' (cs.set i (some (gc, cl', x))) k' ∧ k' ≤ k + 5 ∧ cl'.nx = 0 ∧ Out cl.mv x cl' n pile pile' ∧ KeptB w w' gc g gw := by
  have n1 := nil28
  have hn : cl.nx ≠ 0 := by
    obtain ⟨g2, c2, x2, h2, h3, _⟩ := hl
    rw [hc] at h2; injection h2 with h2; injection h2 with h2; injection h2 with _ h2; injection h2 with h2 _; rw [h2]; exact h3
  have hlen : i < cs.length := hl.lt
  have HH := Lib.hid h
  have HL := Lib.hid hl
  have HC := Lib.hid hc
  have HN := Lib.hid hn
  have HLen := Lib.hid hlen
  have HK := Lib.hid hk
  clear h hl hc hn hlen hk
  go_enter Try.func12, Try.ntmps12
  go_wp2
  go_loopw [4] (fun v wr => ∃ (j : Nat) (cl1 : Cl), v = .int .i64 j ∧ rank cl1.nx + j ≤ 5 ∧ cl1.nx ≠ 0 ∧ cl1.mv = cl.mv ∧ Live (cs.set i (some (gc, cl1, x))) i ∧ Conc w0 wr gd g gw n pile (cs.set i (some (gc, cl1, x))) (k + j) ∧ KeptB w wr gc g gw) (fun v _ => 9 - (intOf v).toNat)
  case atStart => exact ⟨0, cl, rfl, rank_le _, HN.out, rfl, by rw [set_same_some HC.out]; exact HL.out, by rw [set_same_some HC.out]; exact HH.out, KeptB.refl _ _ _ _⟩
  case round =>
    obtain ⟨j, cl1, rfl, hr, hn1, hmv1, hl1, C1, K1⟩ := hrel
    have hg := List.getElem?_set_self (a := some (gc, cl1, x)) HLen.out
    have S := Lib.hid (step_conc C1 hg hn1 (by have := HK.out; omega))
    have HL1 := Lib.hid hl1
    have HK1 := Lib.hid K1
    have HM1 := Lib.hid hmv1
    have HN1 := Lib.hid hn1
    have HR := Lib.hid hr
    have hj : (j : Int) < 9 := by omega
    clear C1 hg hl1 K1 hmv1 hn1 hr
    go_wp2_with fail
    refine S.out.mono ?_
    rintro e w2 ⟨cl2, pile2, rfl, C2, M2, hmv2, K2⟩
    have HC2 := Lib.hid C2
    have HM2 := Lib.hid M2
    have HV2 := Lib.hid hmv2
    have HK2 := Lib.hid (HK1.out.trans K2)
    clear C2 M2 hmv2 K2 S
    rw [List.set_set] at HC2
    have hg2 := Lib.hid (List.getElem?_set_self (a := some (gc, cl2, x)) HLen.out)
    by_cases hz : cl2.nx = 0
    · rw [decide_eq_true hz]
      go_wp2_with fail
      refine (result_yes (HC2.out.lies hg2.out) hz).mono ?_
      rintro e w3 ⟨rfl, B3⟩
      have HB3 := Lib.hid B3
      clear B3
      go_wp2
      go_ret2
      have hO : Out cl1.mv x cl2 n pile pile2 := by
        rcases HM2.out with ⟨h, _⟩ | ⟨_, h, _⟩ | ⟨_, _, h, _⟩
        · exact absurd HL1.out h
        · exact absurd hz h
        · exact h
      rw [HM1.out] at hO
      exact ⟨cl2, pile2, k + j + 1, rfl, HC2.out.kept HB3.out, by have := HR.out; have : 0 < rank cl1.nx := (by rcases HM2.out with ⟨h, _⟩ | ⟨_, _, _, _, h⟩ | ⟨_, _, _, h, _⟩ <;> first | exact absurd HL1.out h | omega); omega, hz, hO, HK2.out.trans (KeptB.of_below HB3.out)⟩
    · rw [decide_eq_false hz]
      go_wp2
      have hO : cl2.nx ≠ 27 ∧ pile2 = pile ∧ rank cl2.nx < rank cl1.nx := by
        rcases HM2.out with ⟨h, _⟩ | ⟨_, _, h1, h2, h3⟩ | ⟨_, h, _⟩
        · exact absurd HL1.out h
        · exact ⟨h1, h2, by omega⟩
        · exact absurd h hz
      obtain ⟨o1, rfl, o3⟩ := hO
      exact ⟨⟨j + 1, cl2, by go_num, by have := HR.out; omega, hz, HV2.out.trans HM1.out, ⟨gc, cl2, x, hg2.out, hz, fun h => absurd h o1⟩, HC2.out, HK2.out⟩, by simp [intOf]; omega⟩

theorem free_one (hn : cl.nx = 27 ∨ cl.nx = 0) : Free [some (gc, cl, x)] := by
  intro i gc' cl' x' e
  have h0 : i = 0 := by
    have := (List.getElem?_eq_some_iff.1 e).1
    simp at this; exact this
  subst h0
  simp at e
  obtain ⟨_, rfl, _⟩ := e
  exact hn
/-- Calls one behind the other. -/
theorem seq_put (h : Conc w0 w gd g gw n pile [] k) (who x : Int) (h0 : 0 ≤ who) (h1 : who < 64) : Calls Try.prog 11 #[.pointer (some ⟨gd, 0, none⟩), .int .i64 who, .int .i64 x] w fun e w' =>
    ∃ gc, e = .returned (.tuple #[.pointer (some ⟨gc, 0, none⟩), .int .i64 0]) ∧ Conc w0 w' gd g gw n pile [some (gc, ⟨who, 27, 25, 0, x, 0⟩, x)] k ∧ Below w.heap.size w w' :=
  (put_yes h.own who x h0 h1).mono fun e w' ⟨he, L, B⟩ => ⟨_, he, h.app L B (ok_put who x h0 h1) rfl, B⟩
theorem seq_take (h : Conc w0 w gd g gw n pile [] k) (who : Int) (h0 : 0 ≤ who) (h1 : who < 64) : Calls Try.prog 13 #[.pointer (some ⟨gd, 0, none⟩), .int .i64 who] w fun e w' =>
    ∃ gc, e = .returned (.tuple #[.pointer (some ⟨gc, 0, none⟩), .int .i64 0]) ∧ Conc w0 w' gd g gw n pile [some (gc, ⟨who, 27, 26, 0, 0, 0⟩, 0)] k ∧ Below w.heap.size w w' :=
  (take_yes h.own who h0 h1).mono fun e w' ⟨he, L, B⟩ => ⟨_, he, h.app L B (ok_take who 0 h0 h1) rfl, B⟩
theorem seq_done (h : Conc w0 w gd g gw n pile [some (gc, cl, x)] k) (hn : cl.nx = 27) (hk : k + 5 ≤ 30000) :
    Calls Try.prog 12 #[.pointer (some ⟨gc, 0, none⟩)] w fun e w' => ∃ cl' pile' k', e = .returned (.tuple #[.int .i64 cl'.word, .int .i64 cl'.err]) ∧ Conc w0 w' gd g gw n pile' [] k' ∧ k' ≤ k + 5 ∧ Out cl.mv x cl' n pile pile' ∧ KeptB w w' gc g gw := by
  refine (done_conc h (i := 0) rfl ⟨gc, cl, x, rfl, by omega, fun _ => free_one (Or.inl hn)⟩ hk).mono ?_
  rintro e w' ⟨cl', pile', k', rfl, C, hk', hz, O, K⟩
  exact ⟨cl', pile', k', rfl, C.nil (free_one (Or.inr hz)), hk', O, K⟩
end
end Go.Proofs.Ytcnpbdboeaaajaa
