/- Steps of append for the reference's lists. -/
import Derived.Test.YtibfhpbklnpknaaCells
namespace Go.Proofs.Ytibfhpbklnpknaa
open Go.RowKit
set_option linter.unusedVariables false
set_option linter.unusedSimpArgs false

theorem info_53 : ∃ i z, Try.prog.info? 42 = some i ∧ i.zero = some z ∧ i.size = 5 ∧ i.bytes = 56 ∧ z.cells.size = 5 := ⟨_, _, rfl, rfl, rfl, rfl, rfl⟩

/-- append onto a slice of words that is not nil and that the call owns. -/
theorem step_ints2 {ops : Array Oper} {o : Oper} {a : Act} {w : World} {K : Act → World → Prop} {Q : Exit → Act → World → Prop} {E : Prop} (hgd : o.guard = none) (s x : Operand)
    (ho : o.op = .call { callee := .builtin .append, args := #[s, x], argTypes := #[37, 37] })
    (base b n cap : Nat) (xs : List Int) (hs : a.eval s = .slice (some ⟨b, 0, none⟩) n cap) (hown : w.ownsRow base 3 1 (.slice (some ⟨b, 0, none⟩) n cap) n (xs.map (Value.int .i64)))
    (ad : Addr) (m c : Nat) (ys : List Int) (hx : a.eval x = .slice (some ad) m c) (hm : ys.length = m) (hr : Row w (some ad) ys) (hb : n + m ≤ 100000) (hbase : base ≤ w.heap.size)
    (h : ∀ g cap' w', w'.ownsRow base 3 1 (.slice (some ⟨g, 0, none⟩) (n + m) cap') (n + m) ((xs ++ ys).map (Value.int .i64)) → w.grownBy w' (some b) → K (a.put o.dst (.slice (some ⟨g, 0, none⟩) (n + m) cap')) w') :
    if Region.wanted o (yielded ops a.tmps) = true then Oper.wp Try.prog o a w K Q else E := by
  have hw : Region.wanted o (yielded ops a.tmps) = true := by simp [Region.wanted, hgd]
  rw [if_pos hw]
  obtain ⟨i, hi, hz, hsz, hby⟩ := info_3
  obtain ⟨v', w', hrn, h2, h3, h4, _⟩ := run_append_own_at (P := Try.prog) w base 37 o.type 3 i (.int .i64 0) 1 8 Try.underlying37 hi hz hsz hby rfl (by decide) _ n (xs.map (Value.int .i64)) hown ad m c (ys.map (Value.int .i64)) (by simp [hm])
    (fun j u hu => by
      have hj : 0 < ys.length := by
        have := (List.getElem?_eq_some_iff.1 hu).1
        simp at this; omega
      obtain ⟨ad', e, _, hc⟩ := hr hj
      injection e with e
      subst e
      exact hc j u hu) (fun u hu => by simp at hu; obtain ⟨_, _, rfl⟩ := hu; rfl) (by unfold maxLen; omega) (by omega) hbase
  obtain ⟨g, cap', rfl⟩ : ∃ g cap', v' = .slice (some ⟨g, 0, none⟩) (n + m) cap' := by
    rcases h2.2 with ⟨e, _⟩ | ⟨g, cap', _, e, _⟩
    · have := h4.1 e
      simp at this
    · exact ⟨g, cap', e⟩
  unfold Oper.wp execOp
  simp only [ho, resolve, invoke, builtin, Sem.run_bind, Sem.run_pure, Result.andThen_ok, List.map_toArray, List.map_cons, List.map_nil, hs, hx, hrn]
  exact h g cap' w' (by simpa using h2) h3

/-- append of one object onto a slice of objects that the call owns. -/
theorem step_obj {ops : Array Oper} {o : Oper} {a : Act} {w : World} {K : Act → World → Prop} {Q : Exit → Act → World → Prop} {E : Prop} (hgd : o.guard = none) (s x : Operand)
    (ho : o.op = .call { callee := .builtin .append, args := #[s, x], argTypes := #[34, 34] })
    (base : Nat) (v : Value) (n : Nat) (xs : List Value) (hs : a.eval s = v) (hown : w.ownsRow base 42 5 v n xs)
    (B : Nat) (m c : Nat) (cs : Array Value) (fr : Nat × Nat) (t : TypeId) (hx : a.eval x = .slice (some ⟨B, 0, none⟩) m c) (hB : w.heap[B]? = some (.cells cs t fr)) (hl : cs.toList.length = m * 5) (h1 : ∀ u ∈ cs.toList, u.oneCell' = true) (hb : n + m ≤ 100000) (hbase : base ≤ w.heap.size)
    (h : ∀ v' w', w'.ownsRow base 42 5 v' (n + m) (xs ++ cs.toList) → w.grownBy w' v.ownBlock → K (a.put o.dst v') w') :
    if Region.wanted o (yielded ops a.tmps) = true then Oper.wp Try.prog o a w K Q else E := by
  have hw : Region.wanted o (yielded ops a.tmps) = true := by simp [Region.wanted, hgd]
  rw [if_pos hw]
  obtain ⟨i, z, hi, hz, hsz, hby, hzs⟩ := info_53
  obtain ⟨v', w', hrn, h2, h3, _, _⟩ := run_append_own_at (P := Try.prog) w base 34 o.type 42 i z 5 56 Try.underlying34 hi hz hsz hby hzs (by decide) v n xs hown ⟨B, 0, none⟩ m c cs.toList hl
    (World.news_of_block hB) h1 (by unfold maxLen; omega) (by omega) hbase
  unfold Oper.wp execOp
  simp only [ho, resolve, invoke, builtin, Sem.run_bind, Sem.run_pure, Result.andThen_ok, List.map_toArray, List.map_cons, List.map_nil, hs, hx, hrn]
  exact h v' w' h2 h3

theorem owns_any {w w' : World} {base n sz : Nat} {t : TypeId} {v : Value} {xs : List Value} (h : w.ownsRow base t sz v n xs) (hb : Below w.heap.size w w') : w'.ownsRow base t sz v n xs := by
  refine ⟨h.1, h.2.imp id ?_⟩
  rintro ⟨g, cap, cur, h1, h2, h3, h4⟩
  exact ⟨g, cap, cur, h1, h2, (hb.block g (Array.getElem?_eq_some_iff.1 h3).1).trans h3, h4⟩

/-- These are the cells of those objects, each of whose words lie in a row of the call's own. -/
def CellsO (w : World) (base : Nat) : Nat → List Ob → List Value → Prop
  | _, [], xs => xs = []
  | a, o :: l, xs => ∃ b c ys, xs = thing a o (some ⟨b, 0, none⟩) c ++ ys ∧ w.ownsRow base 3 1 (.slice (some ⟨b, 0, none⟩) o.2.length c) o.2.length (o.2.map (Value.int .i64)) ∧ CellsO w base (a + 1 + o.2.length) l ys

theorem CellsO.cells {w : World} {base : Nat} : ∀ {a : Nat} {obs : List Ob} {xs : List Value}, CellsO w base a obs xs → Cells w a obs xs
  | _, [], xs, h => h
  | a, o :: l, xs, h => by
    obtain ⟨b, c, ys, e, ho, h2⟩ := h
    obtain ⟨A, c', e', hr⟩ := owns_row ho
    injection e' with e1 e2 e3
    subst e1
    exact ⟨⟨b, 0, none⟩, c, ys, e, hr, h2.cells⟩

theorem CellsO.of {w w' : World} {base : Nat} (hk : ∀ b n c zs, w.ownsRow base 3 1 (.slice (some ⟨b, 0, none⟩) n c) n zs → w'.ownsRow base 3 1 (.slice (some ⟨b, 0, none⟩) n c) n zs) : ∀ {a : Nat} {obs : List Ob} {xs : List Value}, CellsO w base a obs xs → CellsO w' base a obs xs
  | _, [], xs, h => h
  | a, o :: l, xs, h => by
    obtain ⟨b, c, ys, e, ho, h2⟩ := h
    exact ⟨b, c, ys, e, hk _ _ _ _ ho, CellsO.of hk h2⟩

theorem CellsO.kept {w w' : World} {base : Nat} (hb : Below w.heap.size w w') {a : Nat} {obs : List Ob} {xs : List Value} (h : CellsO w base a obs xs) : CellsO w' base a obs xs :=
  h.of fun _ _ _ _ ho => owns_any ho hb

/-- A row of another type stays where a row of the call's own grows. -/
theorem owns_apart {w w' : World} {base base' n n' sz sz' : Nat} {t t' : TypeId} {v v' : Value} {xs ys : List Value} (h : w.ownsRow base t sz v n xs) (h' : w.ownsRow base' t' sz' v' n' ys) (ht : t ≠ t') (hg : w.grownBy w' v'.ownBlock) : w'.ownsRow base t sz v n xs := by
  refine ⟨h.1, h.2.imp id ?_⟩
  rintro ⟨g, cap, cur, h1, h2, h3, h4⟩
  refine ⟨g, cap, cur, h1, h2, (hg.block g (Array.getElem?_eq_some_iff.1 h3).1 (fun e => ?_)).trans h3, h4⟩
  obtain ⟨_, ⟨rfl, _⟩ | ⟨g', cap', cur', rfl, _, h6, _⟩⟩ := h'
  · simp [Value.ownBlock] at e
  · simp [Value.ownBlock] at e
    subst e
    rw [h6] at h3
    injection h3 with h3
    injection h3 with _ h7
    exact ht h7.symm

theorem CellsO.grown {w w' : World} {base base' n : Nat} {v : Value} {ys : List Value} (h' : w.ownsRow base' 42 5 v n ys) (hg : w.grownBy w' v.ownBlock) {a : Nat} {obs : List Ob} {xs : List Value} (h : CellsO w base a obs xs) : CellsO w' base a obs xs :=
  h.of fun _ _ _ _ ho => owns_apart ho h' (by decide) hg

theorem owns_far {w : World} {base n sz : Nat} {t : TypeId} {v : Value} {xs : List Value} {b : Nat} {t' : TypeId} {cs : List Value} (h : w.ownsRow base t sz v n xs) (hl : Lies w b t' cs) (ht : t ≠ t') (i : Nat) (u : Value) : (w.setCell ⟨b, i, none⟩ u).ownsRow base t sz v n xs := by
  refine ⟨h.1, h.2.imp id ?_⟩
  rintro ⟨g, cap, cur, h1, h2, h3, h4⟩
  refine ⟨g, cap, cur, h1, h2, (Below.heap_setCell _ _ _ _ (fun e => ?_)).trans h3, h4⟩
  have e' : g = b := e
  subst e'
  unfold Lies at hl
  rw [hl] at h3
  injection h3 with h3
  injection h3 with _ h7
  exact ht h7.symm

theorem CellsO.far {w : World} {base b : Nat} {t' : TypeId} {cs : List Value} (hl : Lies w b t' cs) (ht : (3 : TypeId) ≠ t') (i : Nat) (u : Value) {a : Nat} {obs : List Ob} {xs : List Value} (h : CellsO w base a obs xs) : CellsO (w.setCell ⟨b, i, none⟩ u) base a obs xs :=
  h.of fun _ _ _ _ ho => owns_far ho hl ht i u

theorem CellsO.append {w : World} {base : Nat} : ∀ {a : Nat} {obs more : List Ob} {xs ys : List Value}, CellsO w base a obs xs → CellsO w base (a + (flat obs).length) more ys → CellsO w base a (obs ++ more) (xs ++ ys)
  | a, [], more, xs, ys, h, k => by
    have : xs = [] := h
    subst this
    simpa [flat_nil] using k
  | a, o :: l, more, xs, ys, h, k => by
    obtain ⟨b, c, zs, rfl, hr, h2⟩ := h
    refine ⟨b, c, zs ++ ys, by simp, hr, h2.append ?_⟩
    rw [flat_cons] at k
    have e : a + (o.1 :: (o.2 ++ flat l)).length = a + 1 + o.2.length + (flat l).length := by simp; omega
    rw [← e]
    exact k
end Go.Proofs.Ytibfhpbklnpknaa
