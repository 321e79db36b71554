/- A region that draws its order: operations that only read, a call, and a store of the call's first answer, the second one dropped: walked once. -/
import Derived.Test.YtklhdilbmpndkaaBwM
import Derived.StillTail
import Derived.StillTactics
namespace Go.Proofs.Ytklhdilbmpndkaa
set_option maxRecDepth 20000
open Go.RowKit
set_option linter.unusedVariables false
set_option linter.unusedSimpArgs false

/-- A post that is reached where nothing stops. -/
def Norm (Q : Exit → Act → World → Prop) : Exit → Act → World → Prop
  | .normal, a, w => Q .normal a w
  | _, _, _ => False
theorem Norm.normal {Q : Exit → Act → World → Prop} {a : Act} {w : World} (h : Q .normal a w) : Norm Q .normal a w := h
theorem Norm.imp {Q : Exit → Act → World → Prop} : ∀ (e : Exit) (a : Act) (w : World), Norm Q e a w → Q e a w := fun e a w h => by
  cases e <;> first | exact h | exact (h : False).elim

section
variable {P : Program} {ops : Array Oper} {md : Region.Mode} {w : World}

/-- Behind the head, each operation waits for one that is not ahead of the tail. -/
def treeB (md : Region.Mode) (ops : Array Oper) (n : Nat) : Bool :=
  (List.range ops.size).all fun t => decide (t ≤ n) || (List.range t).any fun u => decide (n ≤ u) && Region.waitsFor md ops t u

theorem tree_waits {n : Nat} {listed : Array Bool} (hs : Region.sinkB md ops n = true) (hc : treeB md ops n = true) (hn : n < ops.size) (inv : HeadInv md ops n listed) :
    ∀ (d i : Nat), n - i = d → i < n → listed.getD i true = false → ∀ t, n ≤ t → t ∉ Region.ready md ops listed := by
  intro d
  induction d using Nat.strongRecOn with
  | _ d ih =>
    intro i hd hi hun t ht hr
    obtain ⟨_, ot, hot, hall⟩ := mem_ready.1 hr
    have htlt : t < ops.size := (Array.getElem?_eq_some_iff.1 hot).1
    by_cases htn : t = n
    · subst htn
      have h1 := List.all_eq_true.1 hs i (List.mem_range.2 hi)
      obtain ⟨j, hj, hj2⟩ := List.any_eq_true.1 h1
      simp only [Bool.and_eq_true, decide_eq_true_eq] at hj2
      obtain ⟨oj, hoj, e, he, hb, hon⟩ := Region.waitsFor_spec hj2.2
      have hjle : j ≤ t := by have := List.mem_range.1 hj; omega
      by_cases hjt : j = t
      · subst hjt
        have : oj = ot := Option.some.inj (hoj.symm.trans hot)
        subst this
        have h2 := hall e he hb
        rw [hon, getD_both hun] at h2
        cases h2
      · cases hl : listed.getD j false with
        | true =>
          have h2 := inv.closed j oj hoj hl e he hb
          rw [hon, getD_both hun] at h2
          cases h2
        | false =>
          have hjs : j < listed.size := by rw [inv.size]; omega
          exact ih (t - j) (by omega) j rfl (by omega) (getD_in hjs hl) t (Nat.le_refl _) hr
    · have h1 := List.all_eq_true.1 hc t (List.mem_range.2 htlt)
      simp only [Bool.or_eq_true, decide_eq_true_eq] at h1
      rcases h1 with h1 | h1
      · omega
      · obtain ⟨u, hu, hu2⟩ := List.any_eq_true.1 h1
        simp only [Bool.and_eq_true, decide_eq_true_eq] at hu2
        have hut := List.mem_range.1 hu
        obtain ⟨o', ho', e, he, hb, hon⟩ := Region.waitsFor_spec hu2.2
        have : o' = ot := Option.some.inj (ho'.symm.trans hot)
        subst this
        have h2 := hall e he hb
        rw [hon, getD_both (inv.tail u hu2.1 (by omega))] at h2
        cases h2

theorem anyL_first {n i : Nat} {oi : Oper} {v : Value} {L : Array Bool → Act → Prop} (hi : ops[i]? = some oi) (hsel : ∀ (j : Nat) (o : Oper) cs b, ops[j]? = some o → o.op ≠ .select cs b)
    (hs : Region.sinkB md ops n = true) (hc : treeB md ops n = true) (hn : n < ops.size) (hin : i < n)
    (hdone : ∀ listed a, L listed a → ∀ j ∈ Region.ready md ops listed, n ≤ j) :
    ∀ (f : Nat) (listed : Array Bool) (a : Act), HeadInv md ops n listed →
      (∀ j oj, ops[j]? = some oj → j ≠ i → listed.getD j true = false → (∀ e ∈ oj.after, Region.binds md e = true → e.on ≠ i) → oi.apart ops oj = true) →
      i ∈ Region.ready md ops listed → YieldsAt P ops w oi v a →
      wpAnyL P md ops w n L f (listed.setIfInBounds i true) (a.put oi.dst v) → wpAnyL P md ops w n L (f + 1) listed a := by
  intro f
  induction f with
  | zero =>
    intro listed a inv _ hr hy H
    have hun := (mem_ready.1 hr).1
    refine ⟨fun h => (by rw [h] at hr; cases hr), fun j hj => ?_⟩
    have hjn : j < n := by
      rcases Nat.lt_or_ge j n with h | h
      · exact h
      · exact absurd hj (tree_waits hs hc hn inv _ i rfl hin hun j h)
    refine ⟨hjn, ?_⟩
    by_cases hji : j = i
    · subst hji; exact hy.stOp hi H
    · have := hdone _ _ H j (ready_mono hj hji)
      omega
  | succ f ih =>
    intro listed a inv hfree hr hy H
    have hun := (mem_ready.1 hr).1
    refine ⟨fun h => (by rw [h] at hr; cases hr), fun j hj => ?_⟩
    have hjn : j < n := by
      rcases Nat.lt_or_ge j n with h | h
      · exact h
      · exact absurd hj (tree_waits hs hc hn inv _ i rfl hin hun j h)
    refine ⟨hjn, ?_⟩
    by_cases hji : j = i
    · subst hji; exact hy.stOp hi H
    · have h1 := (H.2 j (ready_mono hj hji)).2
      obtain ⟨hjun, oj, hoj, hall⟩ := mem_ready.1 hj
      have hnot : ∀ e ∈ oj.after, Region.binds md e = true → e.on ≠ i := fun e he hb heq => by
        have h1 := hall e he hb
        rw [heq, getD_both hun] at h1
        cases h1
      have h2 := stOp_put hoj (hfree j oj hoj hji hjun hnot) (fun cs b => hsel i oi cs b hi) (fun cs b => hsel j oj cs b hoj) hy h1
      have hfree' : ∀ k ok, ops[k]? = some ok → k ≠ i → (listed.setIfInBounds j true).getD k true = false →
          (∀ e ∈ ok.after, Region.binds md e = true → e.on ≠ i) → oi.apart ops ok = true := fun k ok hk hki hun hno => by
        refine hfree k ok hk hki ?_ hno
        by_cases hjk : j = k
        · subst hjk; exact hjun
        · rw [getD_set_ne true hjk] at hun; exact hun
      refine stOp_mono (fun a' h3 => ih (listed.setIfInBounds j true) a' (inv.set hj hjn) hfree' (ready_mono hr (Ne.symm hji)) h3.1 ?_) h2
      rw [Array.setIfInBounds_comm _ _ hji]
      exact h3.2

/-- So many are listed. -/
def listedTo (m n : Nat) : Array Bool := (List.range n).foldl (fun l i => l.setIfInBounds i true) (Array.replicate m false)
theorem listedTo_succ (m n : Nat) : listedTo m (n + 1) = (listedTo m n).setIfInBounds n true := by
  unfold listedTo
  rw [List.range_succ, List.foldl_append]
  rfl
def lexH (md : Region.Mode) (ops : Array Oper) : Nat → Nat → Array Bool → Bool
  | 0, _, _ => true
  | f + 1, k, listed => (Region.ready md ops listed).contains k && Region.free md ops listed k && lexH md ops f (k + 1) (listed.setIfInBounds k true)

theorem anyL_lex {n : Nat} {Lq : Act → Prop} (hsel : Region.noSelect ops = true) (hs : Region.sinkB md ops n = true) (hc : treeB md ops n = true) (hn : n < ops.size) (hd : ∀ j ∈ Region.ready md ops (listedTo ops.size n), n ≤ j) :
    ∀ (l : List Oper) (k : Nat) (a : Act), (∀ j, j < l.length → l[j]? = ops[k + j]?) → k + l.length = n → HeadInv md ops n (listedTo ops.size k) →
    lexH md ops l.length k (listedTo ops.size k) = true → wpStill P ops w Lq l a →
    wpAnyL P md ops w n (fun listed' a' => listed' = listedTo ops.size n ∧ Lq a') l.length (listedTo ops.size k) a
  | [], k, a, _, hk, _, hB, h => by
    have : k = n := by simpa using hk
    subst this
    exact ⟨rfl, h⟩
  | o :: l, k, a, hl, hk, inv, hB, h => by
    have h0 : ops[k]? = some o := by simpa using (hl 0 (by simp)).symm
    simp only [List.length_cons, lexH, Bool.and_eq_true] at hB
    obtain ⟨⟨hr, hf⟩, hB'⟩ := hB
    have hkn : k < n := by simp only [List.length_cons] at hk; omega
    have hr' : k ∈ Region.ready md ops (listedTo ops.size k) := by simpa using hr
    have hst : stOp P ops w k (wpStill P ops w Lq l) a := by unfold stOp; simp only [h0]; exact h
    obtain ⟨v, hy, hK⟩ := yieldsAt_of_stOp h0 hst
    refine anyL_first h0 (Region.noSelect_spec hsel) hs hc hn hkn (fun listed' a' hL => by rw [hL.1]; exact hd) l.length _ a inv (Region.free_spec h0 hf) hr' hy ?_
    rw [← listedTo_succ]
    rw [← listedTo_succ] at hB'
    refine anyL_lex hsel hs hc hn hd l (k + 1) _ (fun j hj => by have := hl (j + 1) (by simp; omega); simpa [Nat.add_assoc, Nat.add_comm 1 j] using this) (by simp only [List.length_cons] at hk; omega) ?_ hB' hK
    rw [listedTo_succ]; exact inv.set hr' hkn

theorem any_only {Q : Exit → Act → World → Prop} {listed : Array Bool} {i g : Nat} {a : Act} (hr : Region.ready md ops listed = [i]) (h : wpOp P ops Q i (wpAny P md ops Q g (listed.setIfInBounds i true)) a w) : wpAny P md ops Q (g + 1) listed a w :=
  ⟨fun h1 => (by rw [hr] at h1; cases h1), fun j hj => by
    rw [hr] at hj
    have : j = i := by simpa using hj
    subst this; exact h⟩
theorem op_of_list {Q : Exit → Act → World → Prop} {i : Nat} {o : Oper} {l : List Oper} {a : Act} (h0 : ops[i]? = some o) (h : wpList P ops Q (o :: l) a w) : wpOp P ops Q i (wpList P ops Q l) a w := by
  unfold wpOp; simp only [h0]; exact h

theorem yields_extract {Q : Exit → Act → World → Prop} {K : Act → World → Prop} {o : Oper} {a : Act} {x : Operand} {j : Nat} (ho : o.op = .extract x j) (hg : o.guard = none) (h : o.wp P a w K Q) : ∃ v, Yields P ops o v a ∧ K (a.put o.dst v) w := by
  have hw : Region.wanted o (yielded ops a.tmps) = true := by simp [Region.wanted, hg]
  unfold Oper.wp at h
  unfold Yields
  have e : execOp a.eval o = (do let v ← Instr.extract (a.eval x) j; pure (Next.value v)) := by
    obtain ⟨_, op, _, _, _, _⟩ := o
    simp only at ho
    subst ho
    rfl
  rw [e] at h
  cases hx : a.eval x with
  | tuple vs =>
    cases hv : vs[j]? with
    | some u =>
      have hr : ∀ w : World, (do let v ← Instr.extract (.tuple vs) j; pure (Next.value v) : Sem Next).run P w = .ok (.value u) w := fun w => by simp [Instr.extract, hv]
      refine ⟨u, .inl ⟨hw, fun w => by rw [e, hx]; exact hr w⟩, ?_⟩
      rw [hx, hr w] at h
      exact h
    | none =>
      rw [hx] at h
      simp [Instr.extract, hv, stuck, Oper.upon] at h
  | _ =>
    rw [hx] at h
    simp [Instr.extract, stuck, Oper.upon] at h

def swap34 {α : Type} : List α → List α
  | [a, b, c, d, e] => [a, b, d, c, e]
  | l => l
def isExtract (o : Option Oper) : Bool := match o with
  | some o => (match o.op with | .extract _ _ => true | _ => false) && o.guard.isNone
  | none => false
def callStB (ops : Array Oper) (n : Nat) : Bool :=
  Region.noSelect ops && decide (n + 5 = ops.size) && Region.sinkB .any ops n && treeB .any ops n && lexH .any ops n 0 (Array.replicate ops.size false) &&
  decide (Region.ready .any ops (listedTo ops.size n) = [n]) && decide (Region.ready .any ops (listedTo ops.size (n + 1)) = [n + 1]) &&
  (Region.ready .any ops (listedTo ops.size (n + 2))).contains (n + 3) && Region.free .any ops (listedTo ops.size (n + 2)) (n + 3) && isExtract ops[n + 3]? &&
  decide (Region.ready .any ops ((listedTo ops.size (n + 2)).setIfInBounds (n + 3) true) = [n + 2]) &&
  decide (Region.ready .any ops (((listedTo ops.size (n + 2)).setIfInBounds (n + 3) true).setIfInBounds (n + 2) true) = [n + 4]) &&
  decide (Region.ready .any ops ((((listedTo ops.size (n + 2)).setIfInBounds (n + 3) true).setIfInBounds (n + 2) true).setIfInBounds (n + 4) true) = [])

theorem list_five {α : Type} {l : List α} (h : l.length = 5) : ∃ a b c d e, l = [a, b, c, d, e] := by
  match l, h with
  | [a, b, c, d, e], _ => exact ⟨a, b, c, d, e, rfl⟩
theorem any_tail {Q : Exit → Act → World → Prop} {l : List Oper} (n : Nat) (hB : callStB l.toArray n = true) (hQ : ∀ e a w, e ≠ .normal → ¬ Q e a w) {a : Act} {w : World} (h : wpList P l.toArray Q (swap34 (l.drop n)) a w) :
    wpAny P .any l.toArray Q 5 (listedTo l.toArray.size n) a w := by
  simp only [callStB, Bool.and_eq_true, decide_eq_true_eq] at hB
  obtain ⟨⟨⟨⟨⟨⟨⟨⟨⟨⟨⟨⟨hsel, hsz⟩, -⟩, -⟩, -⟩, r0⟩, r1⟩, r2⟩, rf⟩, rx⟩, r3⟩, r4⟩, r5⟩ := hB
  have hlen : (l.drop n).length = 5 := by simp at hsz ⊢; omega
  obtain ⟨o0, o1, o2, o3, o4, hd⟩ := list_five hlen
  have at_ : ∀ j, l.toArray[n + j]? = [o0, o1, o2, o3, o4][j]? := fun j => by rw [← hd]; simp [List.getElem?_drop]
  have h0 := at_ 0
  have h1 := at_ 1
  have h2 := at_ 2
  have h3 := at_ 3
  have h4 := at_ 4
  simp only [List.getElem?_cons_zero, List.getElem?_cons_succ, Nat.add_zero] at h0 h1 h2 h3 h4
  rw [hd] at h
  have h : wpList P l.toArray Q [o0, o1, o3, o2, o4] a w := h
  rw [h3] at rx
  have hx : ∃ x j, o3.op = .extract x j := by
    unfold isExtract at rx
    simp only [Bool.and_eq_true] at rx
    cases ho : o3.op with
    | extract x j => exact ⟨x, j, rfl⟩
    | _ => rw [ho] at rx; simp at rx
  have hg : o3.guard = none := by
    unfold isExtract at rx
    simp only [Bool.and_eq_true] at rx
    simpa using rx.2
  obtain ⟨x, j, hx⟩ := hx
  refine any_only r0 (wpOp_mono (fun a1 w1 k1 => ?_) (op_of_list h0 h))
  rw [← listedTo_succ]
  refine any_only r1 (wpOp_mono (fun a2 w2 k2 => ?_) (op_of_list h1 k1))
  rw [← listedTo_succ]
  have hw : Region.wanted o3 (yielded l.toArray a2.tmps) = true := by simp [Region.wanted, hg]
  unfold wpList at k2
  rw [if_pos hw] at k2
  rcases k2 with k2 | ⟨_, a', w', k2⟩
  · obtain ⟨v, hy, k3⟩ := yields_extract hx hg k2
    refine wpAny_first h3 (Region.noSelect_spec hsel) (fun c a w hc => (hQ _ _ _ (by simp) hc).elim) 2 _ a2 w2 (Region.free_spec h3 rf) (by simpa using r2) hy ?_
    refine any_only r3 (wpOp_mono (fun a3 w3 k4 => ?_) (op_of_list h2 k3))
    refine any_only r4 (wpOp_mono (fun a4 w4 k5 => ?_) (op_of_list h4 k4))
    exact ⟨r5, k5⟩
  · exact (hQ _ _ _ (by simp) k2).elim
end

theorem wp_region_call_store {P : Program} {id : Nat} {Q : Exit → Act → World → Prop} {a : Act} {w : World} {l : List Oper} (n : Nat) (hm : P.follows .mixedOrders = true) (hB : callStB l.toArray n = true)
    (h : wpStill P l.toArray { w with drawn := w.drawn + 1 } (fun a' => wpList P l.toArray (Norm Q) (swap34 (l.drop n)) a' { w with drawn := w.drawn + 1 }) (l.take n) a) : (Code.region id l.toArray true).wp P Q a w := by
  refine Code.wp_mono Norm.imp ?_
  have hB0 := hB
  simp only [callStB, Bool.and_eq_true, decide_eq_true_eq] at hB
  obtain ⟨⟨⟨⟨⟨⟨⟨⟨⟨⟨⟨⟨hsel, hsz⟩, hs⟩, hc⟩, hl⟩, r0⟩, -⟩, -⟩, -⟩, -⟩, -⟩, -⟩, -⟩ := hB
  have hn' : n < l.length := by simp at hsz; omega
  have htl : (l.take n).length = n := by simp; omega
  have inv0 : HeadInv .any l.toArray n (listedTo l.toArray.size 0) :=
    ⟨by simp [listedTo], fun j oj _ hl => (by rw [show listedTo l.toArray.size 0 = Array.replicate l.toArray.size false from rfl, getD_replicate_false] at hl; cases hl), fun t _ ht => getD_in (by simpa [listedTo] using ht) (getD_replicate_false _ _)⟩
  have hd2 : ∀ j ∈ Region.ready .any l.toArray (listedTo l.toArray.size n), n ≤ j := fun j hj => by
    rw [r0] at hj
    have : j = n := by simpa using hj
    omega
  have H := anyL_lex (P := P) (md := .any) (w := { w with drawn := w.drawn + 1 }) hsel hs hc (by simpa using hn') hd2 (l.take n) 0 a (fun j hj => by
    have hj' : j < n := by rw [htl] at hj; exact hj
    simp [hj']) (by simpa using htl) inv0 (by rw [htl]; exact hl) h
  refine wp_region_any hm ?_
  have := wpAny_of_head (Q' := Norm Q) (g := 5) (fun listed a' hL => by
    rw [hL.1]
    exact any_tail n hB0 (fun e a w he hq => by cases e <;> first | exact he rfl | exact hq) hL.2) _ _ _ H
  rw [htl, hsz] at this
  exact this
end Go.Proofs.Ytklhdilbmpndkaa
