/- DequeThieves: what holds on the way. -/
import Derived.Test.YteaffpkmidaghaaCo
namespace Go.Proofs.Yteaffpkmidaghaa
open Go.RowKit
set_option linter.unusedVariables false
set_option linter.unusedSimpArgs false

def rowT (j : Nat) : List Int := (List.range j).map fun i : Nat => 10 + (i : Int)
theorem rowT_len (j : Nat) : (rowT j).length = j := by simp [rowT]
theorem rowT_succ (j : Nat) : rowT (j + 1) = rowT j ++ [10 + (j : Int)] := by simp [rowT, List.range_succ]
/-- What nobody got. -/
def rest (t N : Nat) : List Int := (rowT N).drop t
theorem rest_len (t N : Nat) : (rest t N).length = N - t := by simp [rest, rowT_len]
theorem rest_head (t N : Nat) (h : t < N) : rest t N = (10 + (t : Int)) :: rest (t + 1) N := by
  unfold rest
  rw [List.drop_eq_getElem_cons (by rw [rowT_len]; exact h)]
  simp [rowT]
theorem rest_at (t N m : Nat) (h : m < N - t) : (rest t N)[m]'(by rw [rest_len]; exact h) = 10 + ((t + m : Nat) : Int) := by
  simp [rest, rowT]
theorem Row.far {k : IntKind} {w : World} {ad : Addr} {zs : List Int} (h : Row k w (some ad) zs) {b : Nat} (hb : ad.block ≠ b) (i : Nat) (u : Value) : Row k (w.setCell ⟨b, i, none⟩ u) (some ad) zs := fun h0 => by
  obtain ⟨ad', e, hl, hc⟩ := h h0
  injection e with e
  subst e
  refine ⟨ad, rfl, by simpa using hl, fun j v hv => ?_⟩
  rw [← hc j v hv]
  exact World.cell?_of_block (a := ad.add j) (Below.heap_setCell w _ _ _ (by rw [block_add]; exact hb))
/-- How often each was got, when the first t were. -/
def gots (t N : Nat) : List Int := (List.range N).map fun i : Nat => if i < t then 1 else 0
theorem gots_len (t N : Nat) : (gots t N).length = N := by simp [gots]
theorem gots_at (t N i : Nat) (h : i < N) : (gots t N)[i]? = some (if i < t then 1 else 0) := by simp [gots, h]
theorem gots_set (t N : Nat) (h : t < N) : (gots t N).set t 1 = gots (t + 1) N := by
  apply List.ext_getElem?
  intro i
  rw [List.getElem?_set]
  by_cases hi : i < N
  · rw [gots_at _ _ _ hi, gots_at _ _ _ hi]
    by_cases e : t = i
    · subst e; simp [gots_len, h]
    · have : (i < t) = (i < t + 1) := by apply propext; constructor <;> omega
      simp [e, this]
  · have h1 : (gots t N)[i]? = none := by rw [List.getElem?_eq_none_iff, gots_len]; omega
    have h2 : (gots (t + 1) N)[i]? = none := by rw [List.getElem?_eq_none_iff, gots_len]; omega
    have : t ≠ i := by omega
    simp [h1, h2, this]
theorem gots_zero (N : Nat) : (gots 0 N).map (Value.int .i64) = noughts N := by
  simp [gots, noughts, List.map_const']

/-- In the middle of it. -/
structure Th (w0 w : World) (gd g gw ba bg N t k : Nat) (cs : List (Option (Nat × Cl))) : Prop where
  conc : Conc w0 w gd g gw ba 50 0 40 t 0 N (rest t N) none cs k
  clen : cs.length = 6
  live : ∀ (i gc : Nat) (cl : Cl), cs[i]? = some (some (gc, cl)) → cl.nx ≠ 0
  got : Lies w bg 3 ((gots t N).map (Value.int .i64))
  ne : bg ≠ gw
  lo : w0.heap.size ≤ bg

theorem Sq.conc {w0 w : World} {gd g gw n t tag k ba : Nat} {row : List Int} {ty : TypeId} {own : Nat} {cs : List (Option (Nat × Cl))} (h : Sq w0 w gd g gw n t tag row k) (ha : Lies w ba ty (cs.map cellOf)) (hn : ∀ (i : Nat) (x : Option (Nat × Cl)), cs[i]? = some x → x = none) (lo : w0.heap.size ≤ ba) (ty_ : ty = 50 ∨ ty = 38) :
    Conc w0 w gd g gw ba ty own n t tag (t + row.length) row none cs k := by
  obtain ⟨A, c, zs, ts, H, q, hk, B⟩ := h
  refine ⟨zs, A, c, ts, ⟨H, q.sh, ha, ?_, ?_, ?_, B, lo, ty_⟩, hk⟩
  · intro i gc cl e; cases hn i _ e
  · intro i j gc cl gc' cl' _ e; cases hn i _ e
  · intro i gc cl _ e; cases hn i _ e

section
variable {w0 w w' w2 : World} {gd g gw ba bg N t k : Nat} {cs : List (Option (Nat × Cl))} {kk gc : Nat} {cl cl' : Cl}
theorem Conc.more {w0 w : World} {gd g gw ba : Nat} {ty : TypeId} {own n t tag hi : Nat} {row : List Int} {oc : Option Cl} {cs : List (Option (Nat × Cl))} {k k' : Nat} (h : Conc w0 w gd g gw ba ty own n t tag hi row oc cs k) (hk : k ≤ k') : Conc w0 w gd g gw ba ty own n t tag hi row oc cs k' := by
  obtain ⟨zs, A, c, ts, H, h1⟩ := h
  exact ⟨zs, A, c, ts, H, by omega⟩
theorem Th.kept (h : Th w0 w gd g gw ba bg N t k cs) (b : Below w.heap.size w w') : Th w0 w' gd g gw ba bg N t k cs :=
  ⟨h.conc.kept b, h.clen, h.live, h.got.kept b, h.ne, h.lo⟩
theorem Th.more {k' : Nat} (h : Th w0 w gd g gw ba bg N t k cs) (hk : k ≤ k') : Th w0 w gd g gw ba bg N t k' cs :=
  ⟨h.conc.more hk, h.clen, h.live, h.got, h.ne, h.lo⟩
/-- A thief's new call. -/
theorem Th.begin (h : Th w0 w gd g gw ba bg N t k cs) (hk : kk < 6) (hw : cl = ⟨1 + (kk : Int), 27, 0, 0, 0, 0⟩) (L : Lies w' w.heap.size 58 (cl.cells g)) (B : Below w.heap.size w w') :
    Th w0 (w'.setCell ⟨ba, kk, none⟩ (.pointer (some ⟨w.heap.size, 0, none⟩))) gd g gw ba bg N t k (cs.set kk (some (w.heap.size, cl))) := by
  have h' := h.kept B
  have hcl := h.clen
  refine ⟨conc_put h'.conc (some (w.heap.size, cl)) none (by omega) (fun _ s => s) ?_, by simpa using hcl, ?_, h'.got.far (p := ⟨ba, kk, none⟩) ?_ _, h.ne, h.lo⟩
  · intro gc' cl' e
    injection e with e; injection e with e1 e2; subst e1 e2
    refine ⟨L, h.conc.below.size, fun j gj clj hj => ?_, fun _ zs s => Or.inr ⟨?_, ?_, ?_, Or.inl ⟨?_, ?_, ?_⟩⟩⟩
    · have := (h.conc.lies hj).lt; omega
    all_goals rw [hw]
    · show (0 : Int) ≤ 1 + (kk : Int); omega
    · show 1 + (kk : Int) < 64; omega
  · intro i gi cli hi
    rcases set_some hi with ⟨_, e⟩ | ⟨_, hi'⟩
    · injection e with e; injection e with e1 e2; subst e2; rw [hw]; show (27 : Nat) ≠ 0; decide
    · exact h.live i gi cli hi'
  · exact h'.got.apart h'.conc.arr_ (by decide)

/-- Behind a step that ended a thief's call: what it got isn't counted yet. -/
structure Mid (w0 w : World) (gd g gw ba bg N t t0 k : Nat) (cs : List (Option (Nat × Cl))) : Prop where
  conc : Conc w0 w gd g gw ba 50 0 40 t 0 N (rest t N) none cs k
  clen : cs.length = 6
  got : Lies w bg 3 ((gots t0 N).map (Value.int .i64))
  ne : bg ≠ gw
  lo : w0.heap.size ≤ bg
theorem Mid.kept {t0 : Nat} (h : Mid w0 w gd g gw ba bg N t t0 k cs) (b : Below w.heap.size w w') : Mid w0 w' gd g gw ba bg N t t0 k cs :=
  ⟨h.conc.kept b, h.clen, h.got.kept b, h.ne, h.lo⟩

theorem th_step (h : Th w0 w gd g gw ba bg N t k cs) (hc : cs[kk]? = some (some (gc, cl))) (hk : k ≤ 1000) (htN : t ≤ N) :
    Calls Try.prog 19 #[.pointer (some ⟨gc, 0, none⟩)] w fun e w' => ∃ cl', (e = .returned (.bool false) ∧ Th w0 w' gd g gw ba bg N t (k + 1) (cs.set kk (some (gc, cl')))) ∨
      (e = .returned (.bool true) ∧ cl'.nx = 0 ∧ ((cl'.err = 0 ∧ cl'.word = 10 + (t : Int) ∧ t < N ∧ Mid w0 w' gd g gw ba bg N (t + 1) t (k + 1) (cs.set kk (some (gc, cl')))) ∨ ((cl'.err = 7 ∨ cl'.err = 8) ∧ Mid w0 w' gd g gw ba bg N t t (k + 1) (cs.set kk (some (gc, cl')))))) := by
  refine (thief_any h.conc hc (Nat.zero_le _) (h.live _ _ _ hc) hk).mono ?_
  rintro e w' ⟨cl', t', row', rfl, H', out, K⟩
  have hg := K.2 bg 3 _ h.got (h.got.apart (h.conc.lies hc) (by decide)) (by decide) (by decide) h.ne
  have hl1 := h.conc.rlen
  have hl2 := H'.rlen
  rw [rest_len] at hl1
  refine ⟨cl', ?_⟩
  rcases out with ⟨h0, rfl⟩ | ⟨h0, he, hr⟩ | ⟨h0, he, hw, rfl⟩
  · rw [rest_len] at hl2
    have ht : t' = t := by omega
    subst ht
    rw [decide_eq_false h0]
    refine Or.inl ⟨rfl, H', by simpa using h.clen, ?_, hg, h.ne, h.lo⟩
    intro i gi cli hi
    rcases set_some hi with ⟨_, e⟩ | ⟨_, hi'⟩
    · injection e with e; injection e with e1 e2; subst e2; exact h0
    · exact h.live i gi cli hi'
  · have htN' : t < N := by
      have : (rest t N).length = row'.length + 1 := by rw [hr]; simp
      rw [rest_len] at this; omega
    have hr2 := rest_head t N htN'
    rw [hr] at hr2
    injection hr2 with e1 e2
    subst e2
    rw [rest_len] at hl2
    have ht : t' = t + 1 := by omega
    subst ht
    rw [decide_eq_true h0]
    exact Or.inr ⟨rfl, h0, Or.inl ⟨he, e1, htN', H', by simpa using h.clen, hg, h.ne, h.lo⟩⟩
  · rw [rest_len] at hl2
    have ht : t' = t := by omega
    subst ht
    rw [decide_eq_true h0]
    exact Or.inr ⟨rfl, h0, Or.inr ⟨he, H', by simpa using h.clen, hg, h.ne, h.lo⟩⟩

theorem Mid.drop {t0 : Nat} (h : Mid w0 w gd g gw ba bg N t t0 k (cs.set kk (some (gc, cl)))) (hk : kk < 6) : Mid w0 (w.setCell ⟨ba, kk, none⟩ (.pointer none)) gd g gw ba bg N t t0 k (cs.set kk none) := by
  have hcl := h.clen
  have := conc_put (i := kk) h.conc none none (by omega) (fun _ s => s) (fun gc cl e => by cases e)
  rw [List.set_set] at this
  exact ⟨this, by simpa using hcl, h.got.far (p := ⟨ba, kk, none⟩) (h.got.apart h.conc.arr_ (by decide)) _, h.ne, h.lo⟩
theorem Mid.over (h : Mid w0 w gd g gw ba bg N t t k (cs.set kk none)) (lv : ∀ (i gc : Nat) (cl : Cl), cs[i]? = some (some (gc, cl)) → cl.nx ≠ 0) : Th w0 w gd g gw ba bg N t k (cs.set kk none) := by
  refine ⟨h.conc, h.clen, fun i gi cli hi => ?_, h.got, h.ne, h.lo⟩
  rcases set_some hi with ⟨_, e⟩ | ⟨_, hi'⟩
  · cases e
  · exact lv i gi cli hi'
theorem Conc.far {ty : TypeId} {own n tag hi : Nat} {row : List Int} {oc : Option Cl} (h : Conc w0 w gd g gw ba ty own n t tag hi row oc cs k) {b : Nat} {xs : List Value} (hb : Lies w b 3 xs) (hne : b ≠ gw) (lo : w0.heap.size ≤ b) (i : Nat) (u : Value) : Conc w0 (w.setCell ⟨b, i, none⟩ u) gd g gw ba ty own n t tag hi row oc cs k := by
  obtain ⟨zs, A, c, ts, H, hk⟩ := h
  have O : Only b w (w.setCell ⟨b, i, none⟩ u) := (Only.refl b w).set i _
  have hty : ty ≠ 3 := by rcases H.ty_ with rfl | rfl <;> decide
  refine ⟨zs, A, c, ts, ⟨⟨H.dq.at_.only O (hb.apart H.dq.at_.own (by decide)) hne (H.dq.at_.not_row hb (by decide)), O.lies H.dq.own (H.dq.own.apart hb (by decide)), H.dq.lo⟩, H.sh, O.lies H.arr (H.arr.apart hb hty), fun i gc cl e => ?_, H.apart, H.th, ?_, H.lo, H.ty_⟩, hk⟩
  · have := H.call i gc cl e
    exact ⟨O.lies this.1 (this.1.apart hb (by decide)), this.2⟩
  · exact H.below.trans ⟨rfl, rfl, rfl, by simp, fun k hk => Below.heap_setCell w _ _ k (by show k ≠ b; omega)⟩
theorem Mid.count (h : Mid w0 w gd g gw ba bg N (t + 1) t k (cs.set kk none)) (ht : t < N) (lv : ∀ (i gc : Nat) (cl : Cl), cs[i]? = some (some (gc, cl)) → cl.nx ≠ 0) : Th w0 (w.setCell ⟨bg, t, none⟩ (.int .i64 1)) gd g gw ba bg N (t + 1) k (cs.set kk none) := by
  refine ⟨h.conc.far h.got h.ne h.lo _ _, h.clen, fun i gi cli hi => ?_, ?_, h.ne, h.lo⟩
  · rcases set_some hi with ⟨_, e⟩ | ⟨_, hi'⟩
    · cases e
    · exact lv i gi cli hi'
  · have := h.got.set t (.int .i64 1)
    rw [← gots_set t N ht, ← set_map]
    exact this
end

end Go.Proofs.Yteaffpkmidaghaa
