/- Steps of the reference's Place, Split and Write on lists of objects. -/
import Derived.Test.YtibfhpbklnpknaaROf1
import Derived.Test.YtibfhpbklnpknaaGc
import Derived.Deep.RegionHeld
namespace Go.Proofs.Ytibfhpbklnpknaa
open Go.RowKit
set_option linter.unusedVariables false
set_option linter.unusedSimpArgs false

/-- The world at hand gets a name. -/
theorem named {K : Act → World → Prop} {a : Act} {w : World} (h : ∀ w', w' = w → K a w') : K a w := h w rfl

theorem own_new53 {B : Nat} (w : World) (hb : B ≤ w.heap.size) : (w.alloc (.cells #[] 42)).ownsRow B 42 5 (.slice (some ⟨w.heap.size, 0, none⟩) 0 0) 0 [] := by
  have := World.ownsRow_lit (base := B) (e := 42) (size := 5) w #[] 0 hb (by unfold maxLen; omega) rfl
  exact this

theorem owns_base {w : World} {base base' n sz : Nat} {t : TypeId} {v : Value} {xs : List Value} (h : w.ownsRow base t sz v n xs) (hb : base' ≤ base) : w.ownsRow base' t sz v n xs := by
  refine ⟨h.1, h.2.imp id ?_⟩
  rintro ⟨g, cap, cur, h1, h2, h3⟩
  exact ⟨g, cap, cur, h1, Nat.le_trans hb h2, h3⟩
theorem owns_under {w w' : World} {N base n sz : Nat} {t : TypeId} {v : Value} {xs : List Value} (h : w.ownsRow base t sz v n xs) (hb : Below w.heap.size w w') : w'.ownsRow base t sz v n xs := owns_any h hb

/-- append of a list of objects onto a new one. -/
theorem step_list {ops : Array Oper} {o : Oper} {a : Act} {w : World} {K : Act → World → Prop} {Q : Exit → Act → World → Prop} {E : Prop} (hgd : o.guard = none) (s x : Operand)
    (ho : o.op = .call { callee := .builtin .append, args := #[s, x], argTypes := #[34, 34] })
    (base b cap : Nat) (hs : a.eval s = .slice (some ⟨b, 0, none⟩) 0 cap) (hown : w.ownsRow base 42 5 (.slice (some ⟨b, 0, none⟩) 0 cap) 0 [])
    (base2 : Nat) (A : Option Addr) (n c : Nat) (xs : List Value) (hx : a.eval x = .slice A n c) (hown2 : w.ownsRow base2 42 5 (.slice A n c) n xs) (h1 : ∀ u ∈ xs, u.oneCell' = true) (hb : n ≤ 100000) (hbase : base ≤ w.heap.size)
    (h : ∀ g cap' w', w'.ownsRow base 42 5 (.slice (some ⟨g, 0, none⟩) n cap') n xs → w.grownBy w' (some b) → K (a.put o.dst (.slice (some ⟨g, 0, none⟩) n cap')) w') :
    if Region.wanted o (yielded ops a.tmps) = true then Oper.wp Try.prog o a w K Q else E := by
  have hw : Region.wanted o (yielded ops a.tmps) = true := by simp [Region.wanted, hgd]
  rw [if_pos hw]
  obtain ⟨i, z, hi, hz, hsz, hby, hzs⟩ := info_53
  have hl := hown2.1
  rcases hown2.2 with ⟨e, h0⟩ | ⟨g, cap2, cur, e, hg, hheap, q1, q2, q3, q4⟩
  · injection e with e1 e2 e3
    subst e1 e2 e3
    have hxs : xs = [] := by apply List.eq_nil_of_length_eq_zero; omega
    subst hxs
    have hrn := run_append_owned_none (P := Try.prog) (w := w) base 34 o.type 42 i 5 Try.underlying34 hi _ 0 [] hown
    unfold Oper.wp execOp
    simp only [ho, resolve, invoke, builtin, Sem.run_bind, Sem.run_pure, Result.andThen_ok, List.map_toArray, List.map_cons, List.map_nil, hs, hx, hrn]
    exact h b cap w hown ⟨rfl, rfl, rfl, Nat.le_refl _, fun _ _ _ => rfl⟩
  · injection e with e1 _ e3
    subst e1 e3
    obtain ⟨v', w', hrn, h2, h3, h4, _⟩ := run_append_own_at (P := Try.prog) w base 34 o.type 42 i z 5 56 Try.underlying34 hi hz hsz hby hzs (by decide) _ 0 [] hown ⟨g, 0, none⟩ n c xs hl
      (fun j u hu => by
        refine World.news_of_block hheap j u ?_
        rw [← q4, List.getElem?_take] at hu
        split at hu
        · exact hu
        · cases hu) h1 (by unfold maxLen; omega) (by omega) hbase
    rw [Nat.zero_add, List.nil_append] at h2
    obtain ⟨g', cap', rfl⟩ : ∃ g' cap', v' = .slice (some ⟨g', 0, none⟩) n cap' := by
      rcases h2.2 with ⟨e, _⟩ | ⟨g', cap', _, e, _⟩
      · have := h4.1 e
        simp at this
      · exact ⟨g', cap', e⟩
    unfold Oper.wp execOp
    simp only [ho, resolve, invoke, builtin, Sem.run_bind, Sem.run_pure, Result.andThen_ok, List.map_toArray, List.map_cons, List.map_nil, hs, hx, hrn]
    exact h g' cap' w' h2 h3

/-- append of one object, which lies in a block of its own, onto a list of the call's own. -/
theorem step_one {ops : Array Oper} {o : Oper} {a : Act} {w : World} {K : Act → World → Prop} {Q : Exit → Act → World → Prop} {E : Prop} (hgd : o.guard = none) (s x : Operand)
    (ho : o.op = .call { callee := .builtin .append, args := #[s, x], argTypes := #[34, 34] })
    (base g n cap : Nat) (xs : List Value) (hs : a.eval s = .slice (some ⟨g, 0, none⟩) n cap) (hown : w.ownsRow base 42 5 (.slice (some ⟨g, 0, none⟩) n cap) n xs)
    (B c : Nat) (cs : List Value) (hx : a.eval x = .slice (some ⟨B, 0, none⟩) 1 c) (hB : Lies w B 42 cs) (hl : cs.length = 5) (h1 : ∀ u ∈ cs, u.oneCell' = true) (hb : n ≤ 70000) (hbase : base ≤ w.heap.size)
    (h : ∀ g' cap' w', w'.ownsRow base 42 5 (.slice (some ⟨g', 0, none⟩) (n + 1) cap') (n + 1) (xs ++ cs) → w.grownBy w' (some g) → K (a.put o.dst (.slice (some ⟨g', 0, none⟩) (n + 1) cap')) w') :
    if Region.wanted o (yielded ops a.tmps) = true then Oper.wp Try.prog o a w K Q else E := by
  refine step_obj hgd s x ho base _ n xs hs hown B 1 c cs.toArray (0, 0) 42 hx hB (by simp [hl]) (by simpa using h1) (by omega) hbase ?_
  intro v' w' hv hg
  rcases hv.2 with ⟨_, h0⟩ | ⟨g', cap', _, e, _⟩
  · omega
  · subst e
    simp only [List.toList_toArray] at hv
    exact h g' cap' w' hv hg

theorem lies_grown' {w w' : World} {b g : Nat} {t : TypeId} {cs : List Value} (hl : Lies w b t cs) (hne : b ≠ g) (hg : w.grownBy w' (some g)) : Lies w' b t cs :=
  hl.of_block (hg.block b hl.lt (fun e => hne (by injection e)))
theorem below_row {U0 w w' : World} {N g : Nat} (h : Below N U0 w) (hN : N ≤ w.heap.size) (hg : w.grownBy w' (some g)) (hgN : N ≤ g) : Below N U0 w' := h.grown hg hN (fun k e => by injection e with e; omega)
end Go.Proofs.Ytibfhpbklnpknaa
