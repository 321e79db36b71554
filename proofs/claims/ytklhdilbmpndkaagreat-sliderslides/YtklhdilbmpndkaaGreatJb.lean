/- What Build keeps while it writes. A region that draws its order: operations that only read, a call, and a store of the call's first answer, the second one dropped: walked once. A round of Build's loop that writes. -/
import Derived.Test.YtklhdilbmpndkaaGreatJa
import Derived.StillTail
import Derived.StillTactics
namespace Go.Proofs.YtklhdilbmpndkaaGreat
set_option maxRecDepth 20000
open Go.RowKit
set_option linter.unusedVariables false
set_option linter.unusedSimpArgs false

/-- As Bu, without a word on whose blocks are whose. -/
structure Bw (w W : World) (g gw gb bm base Z : Nat) (obs : List Ob) (tail : List Int) (obr : List Ob) (A : Option Addr) (n c : Nat) (xs : List Value) (B : Option Addr) (cap : Nat) (ats : List Int) : Prop where
  st : St W g gw gb obs tail
  clean : Clean obs
  len : (flat obs ++ tail).length = Z
  box : Lies W bm 34 [.int .i64 (Z : Int), .slice A n c]
  own : Owned W base A n c obr xs
  count : obr.length = n
  old : Below w.heap.size w W
  room : base ≤ W.heap.size
  row : Rv W base B cap ats
  lo : w.heap.size ≤ g ∧ w.heap.size ≤ gw ∧ w.heap.size ≤ gb
  hi : g < base ∧ gw < base ∧ gb < base
  bm_ : base ≤ bm

section
variable {w W W' : World} {g gw gb bm base Z n c cap : Nat} {obs obr : List Ob} {tail : List Int} {A B : Option Addr} {xs : List Value} {ats : List Int}
theorem Bu.bw (h : Bu w W g gw gb bm base Z obs tail obr A n c xs B cap ats) : Bw w W g gw gb bm base Z obs tail obr A n c xs B cap ats :=
  ⟨h.st, h.clean, h.len, h.box, h.own, h.count, h.old, h.room, h.row, h.lo, h.hi, h.bm_⟩
theorem Bw.kept (h : Bw w W g gw gb bm base Z obs tail obr A n c xs B cap ats) (hb : Below W.heap.size W W') : Bw w W' g gw gb bm base Z obs tail obr A n c xs B cap ats :=
  ⟨h.st.kept hb, h.clean, h.len, h.box.below hb h.box.lt, h.own.kept hb, h.count, on h.old h.old.size hb, Nat.le_trans h.room hb.size, h.row.below hb, h.lo, h.hi, h.bm_⟩
theorem Bw.alloc (h : Bw w W g gw gb bm base Z obs tail obr A n c xs B cap ats) (o : Obj) : Bw w (W.alloc o) g gw gb bm base Z obs tail obr A n c xs B cap ats := h.kept (below_one W o)
theorem Bw.drew (h : Bw w W g gw gb bm base Z obs tail obr A n c xs B cap ats) : Bw w W.drew g gw gb bm base Z obs tail obr A n c xs B cap ats := h.kept ((Below.refl _ W).drew)
theorem Bw.heap (h : Bw w W g gw gb bm base Z obs tail obr A n c xs B cap ats) {obs2 : List Ob} {tail2 : List Int} (S : St W' g gw gb obs2 tail2) (E : Else g gw gb W W') (C : Clean obs2) (hl : (flat obs2 ++ tail2).length = Z) :
    Bw w W' g gw gb bm base Z obs2 tail2 obr A n c xs B cap ats := by
  obtain ⟨h1, h2, h3⟩ := h.hi
  obtain ⟨l1, l2, l3⟩ := h.lo
  have hb := h.bm_
  exact ⟨S, C, hl, E.lies h.box (by omega) (by omega) (by omega), h.own.else3 E h1 h2 h3, h.count, h.old.trans (E.below h.old.size l1 l2 l3), Nat.le_trans h.room E.size, h.row.off fun b hb hlt => E.block b hlt (by omega) (by omega) (by omega), h.lo, h.hi, h.bm_⟩
theorem Bw.ref (h : Bw w W g gw gb bm base Z obs tail obr A n c xs B cap ats) {w2 : World} {A' : Option Addr} {n' c' : Nat} {obr' : List Ob} {xs' : List Value} (hb : Below W.heap.size W w2) (O : Owned w2 base A' n' c' obr' xs') (hn : obr'.length = n') :
    Bw w ((w2.setCell ⟨bm, 0, none⟩ (.int .i64 (Z : Int))).setCell ⟨bm, 1, none⟩ (.slice A' n' c')) g gw gb bm base Z obs tail obr' A' n' c' xs' B cap ats := by
  have K := h.kept hb
  obtain ⟨h1, h2, h3⟩ := h.hi
  obtain ⟨l1, l2, l3⟩ := h.lo
  have hbm := h.bm_
  have hw : w.heap.size ≤ bm := by omega
  refine ⟨K.st.put2 (by omega) (by omega) (by omega) _ _, h.clean, h.len, lies_put2 K.box, O.put2 K.box _ _, hn, (K.old.setCell (p := ⟨bm, 0, none⟩) hw _).setCell (p := ⟨bm, 1, none⟩) hw _, by simpa using K.room, ?_, h.lo, h.hi, h.bm_⟩
  refine (K.row.kept fun b cs hb hl => ?_)
  have hne : b ≠ bm := hl.apart K.box (by decide)
  exact (hl.far (p := ⟨bm, 0, none⟩) hne _).far (p := ⟨bm, 1, none⟩) hne _
end

/-- Between two writes: the heads are those, and the nodes' addresses lead to objects. -/
def Wr (w W : World) (g gw gb bm base Z : Nat) (tail : List Int) (B : Option Addr) (cap : Nat) (ats : List Int) (hd : List Int) : Prop :=
  ∃ (obs : List Ob) (A : Option Addr) (n c : Nat) (xs : List Value), Bw w W g gw gb bm base Z obs tail obs A n c xs B cap ats ∧ obs.map Prod.fst = hd ∧ ∀ a ∈ ats, Live obs a ∧ 0 ≤ a ∧ a ≤ 65536
theorem Wr.kept {w W W' : World} {g gw gb bm base Z cap : Nat} {tail ats hd : List Int} {B : Option Addr} (h : Wr w W g gw gb bm base Z tail B cap ats hd) (hb : Below W.heap.size W W') : Wr w W' g gw gb bm base Z tail B cap ats hd := by
  obtain ⟨obs, A, n, c, xs, T, h1, h2⟩ := h
  exact ⟨obs, A, n, c, xs, T.kept hb, h1, h2⟩
theorem rw_any {w W : World} {g gw gb bm base Z n c cap : Nat} {obs : List Ob} {tail : List Int} {A B : Option Addr} {xs : List Value} {ats : List Int} {obr : List Ob} (h : Bw w W g gw gb bm base Z obs tail obr A n c xs B cap ats) (hf : Fine obr) (hZ : (flat obr).length ≤ 65536) (a f v : Int) (hv : InR v) :
    Calls Tryz.prog 44 #[.agg #[.int .i64 (Z : Int), .slice A n c], .int .i64 a, .int .i64 f, .int .i64 v] W (WritePost W base Z (writeF obr a f v)) :=
  rwrite_any Z A n c obr hf h.own h.room h.count hZ a f v hv
theorem Bw.wrote {w W3 w4 : World} {g gw gb bm base Z n c cap n' c' : Nat} {obs : List Ob} {tail : List Int} {A B A' : Option Addr} {xs xs' : List Value} {ats hd : List Int} {a f v : Int} (T : Bw w W3 g gw gb bm base Z (writeF obs a f v).2 tail obs A n c xs B cap ats) (hb : Below W3.heap.size W3 w4)
    (O : Owned w4 base A' n' c' (writeF obs a f v).2 xs') (hn : (writeF obs a f v).2.length = n') (hh : obs.map Prod.fst = hd) (hl : ∀ a ∈ ats, Live obs a ∧ 0 ≤ a ∧ a ≤ 65536) :
    Wr w ((w4.setCell ⟨bm, 0, none⟩ (.int .i64 (Z : Int))).setCell ⟨bm, 1, none⟩ (.slice A' n' c')) g gw gb bm base Z tail B cap ats hd :=
  ⟨_, _, _, _, _, T.ref hb O hn, by rw [write_heads, hh], fun b hb => ⟨write_live (hl b hb).1, (hl b hb).2⟩⟩
end Go.Proofs.YtklhdilbmpndkaaGreat

namespace Go.Proofs.YtklhdilbmpndkaaGreat
set_option maxRecDepth 20000
open Go.RowKit
set_option linter.unusedVariables false
set_option linter.unusedSimpArgs false

/-- A post that is reached where nothing stops. -/
def Norm (Q : Exit → Act → World → Prop) : Exit → Act → World → Prop
  | .normal, a, w => Q .normal a w
  | _, _, _ => False
theorem Norm.normal {Q : Exit → Act → World → Prop} {a : Act} {w : World} (h : Q .normal a w) : Norm Q .normal a w := h
theorem Norm.imp {Q : Exit → Act → World → Prop} : ∀ (e : Exit) (a : Act) (w : World), Norm Q e a w → Q e a w := fun e a w h => by
  cases e <;> first | exact h | exact (h : False).elim

section
variable {P : Program} {ops : Array Oper} {md : Region.Mode} {w : World}

/-- Behind the head, each operation waits for one that is not ahead of the tail. -/
def treeB (md : Region.Mode) (ops : Array Oper) (n : Nat) : Bool :=
  (List.range ops.size).all fun t => decide (t ≤ n) || (List.range t).any fun u => decide (n ≤ u) && Region.waitsFor md ops t u

theorem tree_waits {n : Nat} {listed : Array Bool} (hs : Region.sinkB md ops n = true) (hc : treeB md ops n = true) (hn : n < ops.size) (inv : HeadInv md ops n listed) :
    ∀ (d i : Nat), n - i = d → i < n → listed.getD i true = false → ∀ t, n ≤ t → t ∉ Region.ready md ops listed := by
  intro d
  induction d using Nat.strongRecOn with
  | _ d ih =>
    intro i hd hi hun t ht hr
    obtain ⟨_, ot, hot, hall⟩ := mem_ready.1 hr
    have htlt : t < ops.size := (Array.getElem?_eq_some_iff.1 hot).1
    by_cases htn : t = n
    · subst htn
      have h1 := List.all_eq_true.1 hs i (List.mem_range.2 hi)
      obtain ⟨j, hj, hj2⟩ := List.any_eq_true.1 h1
      simp only [Bool.and_eq_true, decide_eq_true_eq] at hj2
      obtain ⟨oj, hoj, e, he, hb, hon⟩ := Region.waitsFor_spec hj2.2
      have hjle : j ≤ t := by have := List.mem_range.1 hj; omega
      by_cases hjt : j = t
      · subst hjt
        have : oj = ot := Option.some.inj (hoj.symm.trans hot)
        subst this
        have h2 := hall e he hb
        rw [hon, getD_both hun] at h2
        cases h2
      · cases hl : listed.getD j false with
        | true =>
          have h2 := inv.closed j oj hoj hl e he hb
          rw [hon, getD_both hun] at h2
          cases h2
        | false =>
          have hjs : j < listed.size := by rw [inv.size]; omega
          exact ih (t - j) (by omega) j rfl (by omega) (getD_in hjs hl) t (Nat.le_refl _) hr
    · have h1 := List.all_eq_true.1 hc t (List.mem_range.2 htlt)
      simp only [Bool.or_eq_true, decide_eq_true_eq] at h1
      rcases h1 with h1 | h1
      · omega
      · obtain ⟨u, hu, hu2⟩ := List.any_eq_true.1 h1
        simp only [Bool.and_eq_true, decide_eq_true_eq] at hu2
        have hut := List.mem_range.1 hu
        obtain ⟨o', ho', e, he, hb, hon⟩ := Region.waitsFor_spec hu2.2
        have : o' = ot := Option.some.inj (ho'.symm.trans hot)
        subst this
        have h2 := hall e he hb
        rw [hon, getD_both (inv.tail u hu2.1 (by omega))] at h2
        cases h2

theorem anyL_first {n i : Nat} {oi : Oper} {v : Value} {L : Array Bool → Act → Prop} (hi : ops[i]? = some oi) (hsel : ∀ (j : Nat) (o : Oper) cs b, ops[j]? = some o → o.op ≠ .select cs b)
    (hs : Region.sinkB md ops n = true) (hc : treeB md ops n = true) (hn : n < ops.size) (hin : i < n)
    (hdone : ∀ listed a, L listed a → ∀ j ∈ Region.ready md ops listed, n ≤ j) :
    ∀ (f : Nat) (listed : Array Bool) (a : Act), HeadInv md ops n listed →
      (∀ j oj, ops[j]? = some oj → j ≠ i → listed.getD j true = false → (∀ e ∈ oj.after, Region.binds md e = true → e.on ≠ i) → oi.apart ops oj = true) →
      i ∈ Region.ready md ops listed → YieldsAt P ops w oi v a →
      wpAnyL P md ops w n L f (listed.setIfInBounds i true) (a.put oi.dst v) → wpAnyL P md ops w n L (f + 1) listed a := by
  intro f
  induction f with
  | zero =>
    intro listed a inv _ hr hy H
    have hun := (mem_ready.1 hr).1
    refine ⟨fun h => (by rw [h] at hr; cases hr), fun j hj => ?_⟩
    have hjn : j < n := by
      rcases Nat.lt_or_ge j n with h | h
      · exact h
      · exact absurd hj (tree_waits hs hc hn inv _ i rfl hin hun j h)
    refine ⟨hjn, ?_⟩
    by_cases hji : j = i
    · subst hji; exact hy.stOp hi H
    · have := hdone _ _ H j (ready_mono hj hji)
      omega
  | succ f ih =>
    intro listed a inv hfree hr hy H
    have hun := (mem_ready.1 hr).1
    refine ⟨fun h => (by rw [h] at hr; cases hr), fun j hj => ?_⟩
    have hjn : j < n := by
      rcases Nat.lt_or_ge j n with h | h
      · exact h
      · exact absurd hj (tree_waits hs hc hn inv _ i rfl hin hun j h)
    refine ⟨hjn, ?_⟩
    by_cases hji : j = i
    · subst hji; exact hy.stOp hi H
    · have h1 := (H.2 j (ready_mono hj hji)).2
      obtain ⟨hjun, oj, hoj, hall⟩ := mem_ready.1 hj
      have hnot : ∀ e ∈ oj.after, Region.binds md e = true → e.on ≠ i := fun e he hb heq => by
        have h1 := hall e he hb
        rw [heq, getD_both hun] at h1
        cases h1
      have h2 := stOp_put hoj (hfree j oj hoj hji hjun hnot) (fun cs b => hsel i oi cs b hi) (fun cs b => hsel j oj cs b hoj) hy h1
      have hfree' : ∀ k ok, ops[k]? = some ok → k ≠ i → (listed.setIfInBounds j true).getD k true = false →
          (∀ e ∈ ok.after, Region.binds md e = true → e.on ≠ i) → oi.apart ops ok = true := fun k ok hk hki hun hno => by
        refine hfree k ok hk hki ?_ hno
        by_cases hjk : j = k
        · subst hjk; exact hjun
        · rw [getD_set_ne true hjk] at hun; exact hun
      refine stOp_mono (fun a' h3 => ih (listed.setIfInBounds j true) a' (inv.set hj hjn) hfree' (ready_mono hr (Ne.symm hji)) h3.1 ?_) h2
      rw [Array.setIfInBounds_comm _ _ hji]
      exact h3.2

/-- So many are listed. -/
def listedTo (m n : Nat) : Array Bool := (List.range n).foldl (fun l i => l.setIfInBounds i true) (Array.replicate m false)
theorem listedTo_succ (m n : Nat) : listedTo m (n + 1) = (listedTo m n).setIfInBounds n true := by
  unfold listedTo
  rw [List.range_succ, List.foldl_append]
  rfl
def lexH (md : Region.Mode) (ops : Array Oper) : Nat → Nat → Array Bool → Bool
  | 0, _, _ => true
  | f + 1, k, listed => (Region.ready md ops listed).contains k && Region.free md ops listed k && lexH md ops f (k + 1) (listed.setIfInBounds k true)

theorem anyL_lex {n : Nat} {Lq : Act → Prop} (hsel : Region.noSelect ops = true) (hs : Region.sinkB md ops n = true) (hc : treeB md ops n = true) (hn : n < ops.size) (hd : ∀ j ∈ Region.ready md ops (listedTo ops.size n), n ≤ j) :
    ∀ (l : List Oper) (k : Nat) (a : Act), (∀ j, j < l.length → l[j]? = ops[k + j]?) → k + l.length = n → HeadInv md ops n (listedTo ops.size k) →
    lexH md ops l.length k (listedTo ops.size k) = true → wpStill P ops w Lq l a →
    wpAnyL P md ops w n (fun listed' a' => listed' = listedTo ops.size n ∧ Lq a') l.length (listedTo ops.size k) a
  | [], k, a, _, hk, _, hB, h => by
    have : k = n := by simpa using hk
    subst this
    exact ⟨rfl, h⟩
  | o :: l, k, a, hl, hk, inv, hB, h => by
    have h0 : ops[k]? = some o := by simpa using (hl 0 (by simp)).symm
    simp only [List.length_cons, lexH, Bool.and_eq_true] at hB
    obtain ⟨⟨hr, hf⟩, hB'⟩ := hB
    have hkn : k < n := by simp only [List.length_cons] at hk; omega
    have hr' : k ∈ Region.ready md ops (listedTo ops.size k) := by simpa using hr
    have hst : stOp P ops w k (wpStill P ops w Lq l) a := by unfold stOp; simp only [h0]; exact h
    obtain ⟨v, hy, hK⟩ := yieldsAt_of_stOp h0 hst
    refine anyL_first h0 (Region.noSelect_spec hsel) hs hc hn hkn (fun listed' a' hL => by rw [hL.1]; exact hd) l.length _ a inv (Region.free_spec h0 hf) hr' hy ?_
    rw [← listedTo_succ]
    rw [← listedTo_succ] at hB'
    refine anyL_lex hsel hs hc hn hd l (k + 1) _ (fun j hj => by have := hl (j + 1) (by simp; omega); simpa [Nat.add_assoc, Nat.add_comm 1 j] using this) (by simp only [List.length_cons] at hk; omega) ?_ hB' hK
    rw [listedTo_succ]; exact inv.set hr' hkn

theorem any_only {Q : Exit → Act → World → Prop} {listed : Array Bool} {i g : Nat} {a : Act} (hr : Region.ready md ops listed = [i]) (h : wpOp P ops Q i (wpAny P md ops Q g (listed.setIfInBounds i true)) a w) : wpAny P md ops Q (g + 1) listed a w :=
  ⟨fun h1 => (by rw [hr] at h1; cases h1), fun j hj => by
    rw [hr] at hj
    have : j = i := by simpa using hj
    subst this; exact h⟩
theorem op_of_list {Q : Exit → Act → World → Prop} {i : Nat} {o : Oper} {l : List Oper} {a : Act} (h0 : ops[i]? = some o) (h : wpList P ops Q (o :: l) a w) : wpOp P ops Q i (wpList P ops Q l) a w := by
  unfold wpOp; simp only [h0]; exact h

theorem yields_extract {Q : Exit → Act → World → Prop} {K : Act → World → Prop} {o : Oper} {a : Act} {x : Operand} {j : Nat} (ho : o.op = .extract x j) (hg : o.guard = none) (h : o.wp P a w K Q) : ∃ v, Yields P ops o v a ∧ K (a.put o.dst v) w := by
  have hw : Region.wanted o (yielded ops a.tmps) = true := by simp [Region.wanted, hg]
  unfold Oper.wp at h
  unfold Yields
  have e : execOp a.eval o = (do let v ← Instr.extract (a.eval x) j; pure (Next.value v)) := by
    obtain ⟨_, op, _, _, _, _⟩ := o
    simp only at ho
    subst ho
    rfl
  rw [e] at h
  cases hx : a.eval x with
  | tuple vs =>
    cases hv : vs[j]? with
    | some u =>
      have hr : ∀ w : World, (do let v ← Instr.extract (.tuple vs) j; pure (Next.value v) : Sem Next).run P w = .ok (.value u) w := fun w => by simp [Instr.extract, hv]
      refine ⟨u, .inl ⟨hw, fun w => by rw [e, hx]; exact hr w⟩, ?_⟩
      rw [hx, hr w] at h
      exact h
    | none =>
      rw [hx] at h
      simp [Instr.extract, hv, stuck, Oper.upon] at h
  | _ =>
    rw [hx] at h
    simp [Instr.extract, stuck, Oper.upon] at h

def swap34 {α : Type} : List α → List α
  | [a, b, c, d, e] => [a, b, d, c, e]
  | l => l
def isExtract (o : Option Oper) : Bool := match o with
  | some o => (match o.op with | .extract _ _ => true | _ => false) && o.guard.isNone
  | none => false
def callStB (ops : Array Oper) (n : Nat) : Bool :=
  Region.noSelect ops && decide (n + 5 = ops.size) && Region.sinkB .any ops n && treeB .any ops n && lexH .any ops n 0 (Array.replicate ops.size false) &&
  decide (Region.ready .any ops (listedTo ops.size n) = [n]) && decide (Region.ready .any ops (listedTo ops.size (n + 1)) = [n + 1]) &&
  (Region.ready .any ops (listedTo ops.size (n + 2))).contains (n + 3) && Region.free .any ops (listedTo ops.size (n + 2)) (n + 3) && isExtract ops[n + 3]? &&
  decide (Region.ready .any ops ((listedTo ops.size (n + 2)).setIfInBounds (n + 3) true) = [n + 2]) &&
  decide (Region.ready .any ops (((listedTo ops.size (n + 2)).setIfInBounds (n + 3) true).setIfInBounds (n + 2) true) = [n + 4]) &&
  decide (Region.ready .any ops ((((listedTo ops.size (n + 2)).setIfInBounds (n + 3) true).setIfInBounds (n + 2) true).setIfInBounds (n + 4) true) = [])

theorem list_five {α : Type} {l : List α} (h : l.length = 5) : ∃ a b c d e, l = [a, b, c, d, e] := by
  match l, h with
  | [a, b, c, d, e], _ => exact ⟨a, b, c, d, e, rfl⟩
theorem any_tail {Q : Exit → Act → World → Prop} {l : List Oper} (n : Nat) (hB : callStB l.toArray n = true) (hQ : ∀ e a w, e ≠ .normal → ¬ Q e a w) {a : Act} {w : World} (h : wpList P l.toArray Q (swap34 (l.drop n)) a w) :
    wpAny P .any l.toArray Q 5 (listedTo l.toArray.size n) a w := by
  simp only [callStB, Bool.and_eq_true, decide_eq_true_eq] at hB
  obtain ⟨⟨⟨⟨⟨⟨⟨⟨⟨⟨⟨⟨hsel, hsz⟩, -⟩, -⟩, -⟩, r0⟩, r1⟩, r2⟩, rf⟩, rx⟩, r3⟩, r4⟩, r5⟩ := hB
  have hlen : (l.drop n).length = 5 := by simp at hsz ⊢; omega
  obtain ⟨o0, o1, o2, o3, o4, hd⟩ := list_five hlen
  have at_ : ∀ j, l.toArray[n + j]? = [o0, o1, o2, o3, o4][j]? := fun j => by rw [← hd]; simp [List.getElem?_drop]
  have h0 := at_ 0
  have h1 := at_ 1
  have h2 := at_ 2
  have h3 := at_ 3
  have h4 := at_ 4
  simp only [List.getElem?_cons_zero, List.getElem?_cons_succ, Nat.add_zero] at h0 h1 h2 h3 h4
  rw [hd] at h
  have h : wpList P l.toArray Q [o0, o1, o3, o2, o4] a w := h
  rw [h3] at rx
  have hx : ∃ x j, o3.op = .extract x j := by
    unfold isExtract at rx
    simp only [Bool.and_eq_true] at rx
    cases ho : o3.op with
    | extract x j => exact ⟨x, j, rfl⟩
    | _ => rw [ho] at rx; simp at rx
  have hg : o3.guard = none := by
    unfold isExtract at rx
    simp only [Bool.and_eq_true] at rx
    simpa using rx.2
  obtain ⟨x, j, hx⟩ := hx
  refine any_only r0 (wpOp_mono (fun a1 w1 k1 => ?_) (op_of_list h0 h))
  rw [← listedTo_succ]
  refine any_only r1 (wpOp_mono (fun a2 w2 k2 => ?_) (op_of_list h1 k1))
  rw [← listedTo_succ]
  have hw : Region.wanted o3 (yielded l.toArray a2.tmps) = true := by simp [Region.wanted, hg]
  unfold wpList at k2
  rw [if_pos hw] at k2
  rcases k2 with k2 | ⟨_, a', w', k2⟩
  · obtain ⟨v, hy, k3⟩ := yields_extract hx hg k2
    refine wpAny_first h3 (Region.noSelect_spec hsel) (fun c a w hc => (hQ _ _ _ (by simp) hc).elim) 2 _ a2 w2 (Region.free_spec h3 rf) (by simpa using r2) hy ?_
    refine any_only r3 (wpOp_mono (fun a3 w3 k4 => ?_) (op_of_list h2 k3))
    refine any_only r4 (wpOp_mono (fun a4 w4 k5 => ?_) (op_of_list h4 k4))
    exact ⟨r5, k5⟩
  · exact (hQ _ _ _ (by simp) k2).elim
end

theorem wp_region_call_store {P : Program} {id : Nat} {Q : Exit → Act → World → Prop} {a : Act} {w : World} {l : List Oper} (n : Nat) (hm : P.follows .mixedOrders = true) (hB : callStB l.toArray n = true)
    (h : wpStill P l.toArray { w with drawn := w.drawn + 1 } (fun a' => wpList P l.toArray (Norm Q) (swap34 (l.drop n)) a' { w with drawn := w.drawn + 1 }) (l.take n) a) : (Code.region id l.toArray true).wp P Q a w := by
  refine Code.wp_mono Norm.imp ?_
  have hB0 := hB
  simp only [callStB, Bool.and_eq_true, decide_eq_true_eq] at hB
  obtain ⟨⟨⟨⟨⟨⟨⟨⟨⟨⟨⟨⟨hsel, hsz⟩, hs⟩, hc⟩, hl⟩, r0⟩, -⟩, -⟩, -⟩, -⟩, -⟩, -⟩, -⟩ := hB
  have hn' : n < l.length := by simp at hsz; omega
  have htl : (l.take n).length = n := by simp; omega
  have inv0 : HeadInv .any l.toArray n (listedTo l.toArray.size 0) :=
    ⟨by simp [listedTo], fun j oj _ hl => (by rw [show listedTo l.toArray.size 0 = Array.replicate l.toArray.size false from rfl, getD_replicate_false] at hl; cases hl), fun t _ ht => getD_in (by simpa [listedTo] using ht) (getD_replicate_false _ _)⟩
  have hd2 : ∀ j ∈ Region.ready .any l.toArray (listedTo l.toArray.size n), n ≤ j := fun j hj => by
    rw [r0] at hj
    have : j = n := by simpa using hj
    omega
  have H := anyL_lex (P := P) (md := .any) (w := { w with drawn := w.drawn + 1 }) hsel hs hc (by simpa using hn') hd2 (l.take n) 0 a (fun j hj => by
    have hj' : j < n := by rw [htl] at hj; exact hj
    simp [hj']) (by simpa using htl) inv0 (by rw [htl]; exact hl) h
  refine wp_region_any hm ?_
  have := wpAny_of_head (Q' := Norm Q) (g := 5) (fun listed a' hL => by
    rw [hL.1]
    exact any_tail n hB0 (fun e a w he hq => by cases e <;> first | exact he rfl | exact hq) hL.2) _ _ _ H
  rw [htl, hsz] at this
  exact this
end Go.Proofs.YtklhdilbmpndkaaGreat

namespace Go.Proofs.YtklhdilbmpndkaaGreat
set_option maxRecDepth 20000
open Go.RowKit
set_option linter.unusedVariables false
set_option linter.unusedSimpArgs false

set_option maxRecDepth 1000000 in
set_option maxHeartbeats 1000000 in
theorem bwrite_round {K0 : Act → World → Prop} {Q0 : Exit → Act → World → Prop} (w wz : World) (g gw gb bm base Z k cap nn cN el ec : Nat) (ad : Addr) (tail : List Int) (B E : Option Addr) (ats hd : List Int) (d : Nd)
    (hf : d.fit) (hel : d.edges.length = el) (hel2 : el ≤ 10) (hkn : k < nn) (hnn : nn ≤ 14) (hk : ats.length = nn) (hZ : Z ≤ 1000)
    (PP : Wr w wz g gw gb bm base Z tail B cap ats hd) (hE : Mk.Row .u8 w E d.edges)
    (c0 : wz.cell? (ad.add (k * 3)) = some (.int .u8 d.kind)) (c1 : wz.cell? ⟨(ad.add (k * 3)).block, (ad.add (k * 3)).off + 1, none⟩ = some (.slice E el ec)) (c2 : wz.cell? ⟨(ad.add (k * 3)).block, (ad.add (k * 3)).off + 2, none⟩ = some (.int .u8 d.more))
    (x0 x1 x2 x3 x4 x5 x6 x7 x8 x9 x11 x14 x15 x16 x17 x18 x19 x20 x21 x22 x23 x24 x25 x26 x27 x28 x29 x30 x31 x32 x33 x34 x35 x36 x37 x38 x39 x40 x41 x42 x43 x44 x45 x46 x47 x48 x49 x50 x51 x52 x53 x54 x55 x56 x57 x58 x59 x60 x61 x62 x63 x64 x65 x66 x67 x68 x69 x70 x71 x72 x73 x74 x75 x76 x77 x78 x79 x80 x81 x82 x83 x84 x85 x86 x87 x88 x89 x90 x91 x92 x93 x94 x95 x96 x97 x98 x99 x100 x101 x102 x103 x104 x105 x106 x107 x108 x109 x110 x111 x112 x113 x114 x115 x116 x117 x121 x122 x123 x124 x125 x126 x127 x128 x129 x130 x131 x132 x133 x134 x135 x136 x137 x138 x139 x140 x141 x142 x143 x144 x145 x146 x147 x148 x149 x150 x151 x152 x153 x154 x155 x156 x157 x158 x159 x160 x161 x162 x163 x164 x165 x166 x167 x168 x169 x170 x171 x172 x173 x174 x175 x176 x177 x178 x179 x180 x181 x182 x183 x184 x185 x186 x187 x188 x189 x190 x191 x192 x193 x194 x195 x196 x197 x198 x199 x200 x201 x202 x203 x204 x205 x206 x207 x208 x209 x210 x211 x212 x213 x214 x215 : Value)
    (hK : ∀ (v20 v21 v22 v23 v24 v120 v121 v122 v123 v124 v125 v126 v127 v128 v129 v130 v131 v132 v133 v134 v135 v136 v137 v138 v139 v140 v141 v142 v143 v144 v145 v146 v147 v148 v149 v150 v151 v152 v153 v154 v155 v156 v157 v158 v159 v160 v161 v162 v163 v164 v165 v166 v167 v168 v169 v170 v171 v172 v173 v174 v175 v176 v177 v178 v179 v180 v181 v182 v183 v184 v185 v186 v187 v188 v189 v190 v191 v192 v193 v194 v195 v196 v197 v198 : Value) (w'' : World), v120 = .int .i64 ((k + 1 : Nat) : Int) → Wr w w'' g gw gb bm base Z tail B cap ats hd → K0 ⟨#[x0, x1, x2, x3, x4, x5, x6, x7, x8, x9, .pointer (some ⟨g, 0, none⟩), x11, .pointer (some ⟨bm, 0, none⟩), .slice B nn cap, x14, x15, x16, x17, x18, x19, v20, v21, v22, v23, v24, x25, x26, x27, x28, x29, x30, x31, x32, x33, x34, x35, x36, x37, x38, x39, x40, x41, x42, x43, x44, x45, x46, x47, x48, x49, x50, x51, x52, x53, x54, x55, x56, x57, x58, x59, x60, x61, x62, x63, x64, x65, x66, x67, x68, x69, x70, x71, x72, x73, x74, x75, x76, x77, x78, x79, x80, x81, x82, x83, x84, x85, x86, x87, x88, x89, x90, x91, x92, x93, x94, x95, x96, x97, x98, x99, x100, x101, x102, x103, x104, x105, x106, x107, x108, x109, x110, x111, x112, x113, x114, x115, x116, x117, .slice (some ad) nn cN, .int .i64 (nn : Int), v120, v121, v122, v123, v124, v125, v126, v127, v128, v129, v130, v131, v132, v133, v134, v135, v136, v137, v138, v139, v140, v141, v142, v143, v144, v145, v146, v147, v148, v149, v150, v151, v152, v153, v154, v155, v156, v157, v158, v159, v160, v161, v162, v163, v164, v165, v166, v167, v168, v169, v170, v171, v172, v173, v174, v175, v176, v177, v178, v179, v180, v181, v182, v183, v184, v185, v186, v187, v188, v189, v190, v191, v192, v193, v194, v195, v196, v197, v198, x199, x200, x201, x202, x203, x204, x205, x206, x207, x208, x209, x210, x211, x212, x213, x214, x215], []⟩ w'') :
    Code.wp Tryz.prog (bloop 2) (Exit.then K0 Q0) ⟨#[x0, x1, x2, x3, x4, x5, x6, x7, x8, x9, .pointer (some ⟨g, 0, none⟩), x11, .pointer (some ⟨bm, 0, none⟩), .slice B nn cap, x14, x15, x16, x17, x18, x19, x20, x21, x22, x23, x24, x25, x26, x27, x28, x29, x30, x31, x32, x33, x34, x35, x36, x37, x38, x39, x40, x41, x42, x43, x44, x45, x46, x47, x48, x49, x50, x51, x52, x53, x54, x55, x56, x57, x58, x59, x60, x61, x62, x63, x64, x65, x66, x67, x68, x69, x70, x71, x72, x73, x74, x75, x76, x77, x78, x79, x80, x81, x82, x83, x84, x85, x86, x87, x88, x89, x90, x91, x92, x93, x94, x95, x96, x97, x98, x99, x100, x101, x102, x103, x104, x105, x106, x107, x108, x109, x110, x111, x112, x113, x114, x115, x116, x117, .slice (some ad) nn cN, .int .i64 (nn : Int), .int .i64 (k : Int), x121, x122, x123, x124, x125, x126, x127, x128, x129, x130, x131, x132, x133, x134, x135, x136, x137, x138, x139, x140, x141, x142, x143, x144, x145, x146, x147, x148, x149, x150, x151, x152, x153, x154, x155, x156, x157, x158, x159, x160, x161, x162, x163, x164, x165, x166, x167, x168, x169, x170, x171, x172, x173, x174, x175, x176, x177, x178, x179, x180, x181, x182, x183, x184, x185, x186, x187, x188, x189, x190, x191, x192, x193, x194, x195, x196, x197, x198, x199, x200, x201, x202, x203, x204, x205, x206, x207, x208, x209, x210, x211, x212, x213, x214, x215], []⟩ wz := by
  obtain ⟨kd, eds, mr⟩ := d
  obtain ⟨⟨hk0, hk1⟩, ⟨hm0, hm1⟩, hes⟩ := hf
  simp only [] at hel hE hes hk0 hk1 hm0 hm1 c0 c1 c2
  have HHel := Lib.hid hel
  have HE := Lib.hid hE
  have HES := Lib.hid hes
  have HP := Lib.hid PP
  have HK := Lib.hid hK
  have Hna := Lib.hid hk
  have j0 : (0 : Int) ≤ (k : Int) := by omega
  have j1 : (k : Int) < (nn : Int) := by omega
  have jk : k < nn := by omega
  obtain ⟨X, hX⟩ : ∃ X : Obj, X = .cells #[.int .u8 kd, .slice E el ec, .int .u8 mr] 59 := ⟨_, rfl⟩
  have LX : Lies (wz.alloc X) wz.heap.size 59 [.int .u8 kd, .slice E el ec, .int .u8 mr] := by rw [hX]; exact Lies.new wz 59 [_, _, _]
  have HX := Lib.hid (HP.out.kept (below_one wz X))
  have y1 : (wz.alloc X).cell? ⟨wz.heap.size, 1, none⟩ = some (.slice E el ec) := LX.cell 1
  have HLX := Lib.hid LX
  have HXX := Lib.hid hX
  have hbX : wz.heap.size ≠ bm := by
    obtain ⟨obs, A, n, c, xs, T, -, -⟩ := PP
    have := T.box.lt; omega
  have hgX : wz.heap.size ≠ g ∧ wz.heap.size ≠ gw ∧ wz.heap.size ≠ gb := by
    obtain ⟨obs, A, n, c, xs, T, -, -⟩ := PP
    have h1 := T.st.lies.own.lt
    have h2 := T.st.lies.words.lt
    have h3 := T.st.lies.begins.lt
    exact ⟨by omega, by omega, by omega⟩
  obtain ⟨adb, rfl⟩ : ∃ adb, B = some adb := by
    obtain ⟨obs, A, n, c, xs, T, -, -⟩ := PP
    obtain ⟨adb, e, -⟩ := T.row.row.at_ (show k < ats.length by rw [hk]; exact jk)
    exact ⟨adb, e⟩
  clear LX HP PP hK hX hel hE hes hk
  conv => arg 2; whnf
  go_wp2
  rw [← HXX.out]
  go_loopw [128] (fun i wr => ∃ j : Nat, j ≤ el ∧ i = .int .i64 j ∧ Wr w wr g gw gb bm base Z tail (some adb) cap ats hd ∧ Lies wr wz.heap.size 59 [.int .u8 kd, .slice E el ec, .int .u8 mr]) (fun i _ => el - (intOf i).toNat)
  case atStart => exact ⟨0, Nat.zero_le _, rfl, HX.out, HLX.out⟩
  case round =>
    obtain ⟨j, hj, rfl, hWr, LXj⟩ := hrel
    have i0 : (0 : Int) ≤ (j : Int) := by omega
    by_cases hlt : j < el
    · have i1 : (j : Int) < (el : Int) := by omega
      have hOld : Below w.heap.size w wr := by obtain ⟨_, _, _, _, _, T, _⟩ := hWr; exact T.old
      obtain ⟨ade, rfl, ce⟩ := (HE.out.kept hOld).at_ (show j < eds.length by rw [HHel.out]; exact hlt)
      obtain ⟨e, he⟩ : ∃ e, eds[j]'(by rw [HHel.out]; exact hlt) = e := ⟨_, rfl⟩
      have HE0 : Hid (0 ≤ e ∧ e ≤ 255) := Lib.hid (by rw [← he]; exact HES.out _ (List.getElem_mem _))
      rw [he] at ce
      clear he hOld
      obtain ⟨obs, A, n, c, xs, T, hh, hlv⟩ := hWr
      obtain ⟨adb1, e1, catk⟩ := T.row.row.at_ (show k < ats.length by rw [Hna.out]; exact jk)
      injection e1 with e1
      subst e1
      obtain ⟨ak, hak⟩ : ∃ ak, ats.getD k 0 = ak := ⟨_, rfl⟩
      rw [hak] at catk
      have HLV := Lib.hid hlv
      have HH := Lib.hid hh
      have HT := Lib.hid T
      have HIN := Lib.hid (show InR (placeV ats e) from (by have := place_fits (fun a ha => (HLV.out a ha).2) HE0.out.1; unfold InR; omega))
      obtain ⟨vv, hvv⟩ : ∃ vv, (placeV ats e) = vv := ⟨_, rfl⟩
      have HVV := Lib.hid hvv
      rw [hvv] at HIN
      have HC := Lib.hid (show Calls Tryz.prog 43 #[.slice (some adb) nn cap, .int .u8 e] wr.drew (fun e1 w' => e1 = .returned (.int .i64 (placeV ats e)) ∧ w' = wr.drew) from (ref_any (w := wr.drew) (some adb) nn cap ats e Hna.out (HT.out.drew.row.row) HE0.out.1 HE0.out.2 (by omega) (fun a ha => (HLV.out a ha).2)).mono fun e w' h => ⟨h.1, h.2.symm⟩)
      clear T hlv hh hak hvv
      go_upto_region 28 with fail
      skip
      go_still_tail 9, (by kernel_rfl)
      still_call HC.out
      repeat still_step
      refine wpStill_nil ?_
      change wpList _ _ _ _ _ wr.drew
      have HT2 := Lib.hid HT.out.drew
      try rw [HVV.out]
      go_wp2_with fail
      try rw [HVV.out]
      refine (write_st HT2.out.st ak ((j : Int)) vv HIN.out.1 HIN.out.2).mono ?_
      rintro e3 w3 ⟨rfl, S3, E3⟩
      have HFINE := Lib.hid HT.out.st.fine
      have hlen3 : (flat (writeF obs ak ((j : Int)) vv).2 ++ tail).length = Z := by
        have h1 := write_len (obs := obs) (a := ak) (f := ((j : Int))) (v := vv)
        have h2 := HT.out.len
        simp only [List.length_append] at h2 ⊢
        omega
      have hZ6 : (flat obs).length ≤ 65536 := by
        have h2 := HT.out.len
        simp only [List.length_append] at h2
        omega
      have H3 := Lib.hid (HT2.out.heap S3 E3 (clean_write HT2.out.clean HIN.out) hlen3)
      have LX3 := E3.lies (show Lies wr.drew wz.heap.size 59 [.int .u8 kd, .slice (some ade) el ec, .int .u8 mr] from LXj.drew) hgX.1 hgX.2.1 hgX.2.2
      have m0 : w3.cell? ⟨bm, 0, none⟩ = some (.int .i64 (Z : Int)) := H3.out.box.cell 0
      have m1 : w3.cell? ⟨bm, 1, none⟩ = some (.slice A n c) := H3.out.box.cell 1
      have y1 : w3.cell? ⟨wz.heap.size, 1, none⟩ = some (.slice (some ade) el ec) := LX3.cell 1
      have catk : w3.cell? (adb.add k) = some (.int .i64 ak) := by
        obtain ⟨adb2, e2, c2⟩ := H3.out.row.row.at_ (show k < ats.length by rw [Hna.out]; exact jk)
        injection e2 with e2
        subst e2
        have c1 : wr.cell? (adb.add k) = some (.int .i64 ak) := by assumption
        obtain ⟨adb3, e3, c3⟩ := HT.out.row.row.at_ (show k < ats.length by rw [Hna.out]; exact jk)
        injection e3 with e3
        subst e3
        rw [c1] at c3
        rw [c2, ← c3]
      have HLX3 := Lib.hid LX3
      have HC := Lib.hid (show Calls Tryz.prog 43 #[.slice (some adb) nn cap, .int .u8 e] w3.drew (fun e1 w' => e1 = .returned (.int .i64 (placeV ats e)) ∧ w' = w3.drew) from (ref_any (w := w3.drew) (some adb) nn cap ats e Hna.out (H3.out.drew.row.row) HE0.out.1 HE0.out.2 (by omega) (fun a ha => (HLV.out a ha).2)).mono fun e w' h => ⟨h.1, h.2.symm⟩)
      clear S3 E3 hlen3 LX3 HT2 LXj
      go_upto_region 29 with fail
      refine wp_region_call_store 9 (by kernel_rfl) (by decide +kernel) ?_
      simp only [List.take_succ_cons, List.take_zero, List.drop_succ_cons, List.drop_zero, swap34]
      repeat still_step
      still_call HC.out
      repeat still_step
      refine wpStill_nil ?_
      change wpList _ _ _ _ _ w3.drew
      try rw [HVV.out]
      have H4 := Lib.hid H3.out.drew
      have bm4 := H4.out.box
      have r0 : w3.drew.cell? ⟨bm, 0, none⟩ = some (.int .i64 (Z : Int)) := bm4.cell 0
      go_wp2_with fail
      try rw [HVV.out]
      refine (rw_any H4.out HFINE.out hZ6 ak ((j : Int)) vv HIN.out).mono ?_
      rintro e4 w4 ⟨⟨A4, n4, c4, xs4, rfl, hn4, O4⟩, hb4⟩
      have H5 := Lib.hid (H4.out.wrote hb4 O4 hn4 HH.out HLV.out)
      have LX5 := Lib.hid ((((show Lies w3.drew wz.heap.size 59 [.int .u8 kd, .slice (some ade) el ec, .int .u8 mr] from HLX3.out.drew).below hb4 HLX3.out.lt).far (p := ⟨bm, 0, none⟩) hbX (.int .i64 (Z : Int))).far (p := ⟨bm, 1, none⟩) hbX (.slice A4 n4 c4))
      have bm4 := (H4.out.kept hb4).box
      have r0 : w4.cell? ⟨bm, 0, none⟩ = some (.int .i64 (Z : Int)) := bm4.cell 0
      have r1 : w4.cell? ⟨bm, 1, none⟩ = some (.slice A n c) := bm4.cell 1
      have r2 := bm4.frozen 0
      have r3 := bm4.frozen 1
      have r4 := bm4.lt
      clear O4 hb4 bm4 hn4 H3 H4 HT HLX3 m0 m1 catk
      go_wp2
      refine Norm.normal ?_
      go_wp2
      exact ⟨⟨j + 1, by omega, by go_num, H5.out, LX5.out⟩, by simp [intOf]; omega⟩
    · obtain rfl : j = el := by omega
      have y1 : wr.cell? ⟨wz.heap.size, 1, none⟩ = some (.slice E j ec) := LXj.cell 1
      have y2 : wr.cell? ⟨wz.heap.size, 2, none⟩ = some (.int .u8 mr) := LXj.cell 2
      obtain ⟨q, hq⟩ : ∃ q : Nat, mr % 4 = (q : Int) := ⟨(mr % 4).toNat, by omega⟩
      have hq3 : q ≤ 3 := by omega
      have HWr := Lib.hid hWr
      have HLXj := Lib.hid LXj
      clear hWr LXj HX HLX
      go_wp2
      have HQ := Lib.hid hq
      clear hq
      go_loopw [161] (fun i wr => ∃ j2 : Nat, j2 ≤ q ∧ i = .int .i64 j2 ∧ Wr w wr g gw gb bm base Z tail (some adb) cap ats hd ∧ Lies wr wz.heap.size 59 [.int .u8 kd, .slice E j ec, .int .u8 mr]) (fun i _ => q - (intOf i).toNat)
      case atStart => exact ⟨0, Nat.zero_le _, rfl, HWr.out, HLXj.out⟩
      case round =>
        obtain ⟨j2, hj2, rfl, hWr, LXj⟩ := hrel
        have i0 : (0 : Int) ≤ (j2 : Int) := by omega
        by_cases hlt : j2 < q
        · have i1 : (j2 : Int) < (q : Int) := by omega
          have y1 : wr.cell? ⟨wz.heap.size, 1, none⟩ = some (.slice E j ec) := LXj.cell 1
          obtain ⟨obs, A, n, c, xs, T, hh, hlv⟩ := hWr
          obtain ⟨adb1, e1, catk⟩ := T.row.row.at_ (show k < ats.length by rw [Hna.out]; exact jk)
          injection e1 with e1
          subst e1
          obtain ⟨ak, hak⟩ : ∃ ak, ats.getD k 0 = ak := ⟨_, rfl⟩
          rw [hak] at catk
          have HLV := Lib.hid hlv
          have HH := Lib.hid hh
          have HT := Lib.hid T
          have HIN := Lib.hid (show InR (100 * (k : Int) + (j2 : Int)) from (by unfold InR; omega))
          obtain ⟨vv, hvv⟩ : ∃ vv, (100 * (k : Int) + (j2 : Int)) = vv := ⟨_, rfl⟩
          have HVV := Lib.hid hvv
          rw [hvv] at HIN
          clear T hlv hh hak hvv
          go_upto_region 34 with fail
          skip
          go_still_tail 14, (by kernel_rfl)
          change wpList _ _ _ _ _ wr.drew
          have HT2 := Lib.hid HT.out.drew
          try rw [HVV.out]
          go_wp2_with fail
          try rw [HVV.out]
          refine (write_st HT2.out.st ak ((j : Int) + (j2 : Int)) vv HIN.out.1 HIN.out.2).mono ?_
          rintro e3 w3 ⟨rfl, S3, E3⟩
          have HFINE := Lib.hid HT.out.st.fine
          have hlen3 : (flat (writeF obs ak ((j : Int) + (j2 : Int)) vv).2 ++ tail).length = Z := by
            have h1 := write_len (obs := obs) (a := ak) (f := ((j : Int) + (j2 : Int))) (v := vv)
            have h2 := HT.out.len
            simp only [List.length_append] at h2 ⊢
            omega
          have hZ6 : (flat obs).length ≤ 65536 := by
            have h2 := HT.out.len
            simp only [List.length_append] at h2
            omega
          have H3 := Lib.hid (HT2.out.heap S3 E3 (clean_write HT2.out.clean HIN.out) hlen3)
          have LX3 := E3.lies (show Lies wr.drew wz.heap.size 59 [.int .u8 kd, .slice E j ec, .int .u8 mr] from LXj.drew) hgX.1 hgX.2.1 hgX.2.2
          have m0 : w3.cell? ⟨bm, 0, none⟩ = some (.int .i64 (Z : Int)) := H3.out.box.cell 0
          have m1 : w3.cell? ⟨bm, 1, none⟩ = some (.slice A n c) := H3.out.box.cell 1
          have y1 : w3.cell? ⟨wz.heap.size, 1, none⟩ = some (.slice E j ec) := LX3.cell 1
          have catk : w3.cell? (adb.add k) = some (.int .i64 ak) := by
            obtain ⟨adb2, e2, c2⟩ := H3.out.row.row.at_ (show k < ats.length by rw [Hna.out]; exact jk)
            injection e2 with e2
            subst e2
            have c1 : wr.cell? (adb.add k) = some (.int .i64 ak) := by assumption
            obtain ⟨adb3, e3, c3⟩ := HT.out.row.row.at_ (show k < ats.length by rw [Hna.out]; exact jk)
            injection e3 with e3
            subst e3
            rw [c1] at c3
            rw [c2, ← c3]
          have HLX3 := Lib.hid LX3
          clear S3 E3 hlen3 LX3 HT2 LXj
          go_upto_region 35 with fail
          refine wp_region_call_store 14 (by kernel_rfl) (by decide +kernel) ?_
          simp only [List.take_succ_cons, List.take_zero, List.drop_succ_cons, List.drop_zero, swap34]
          repeat still_step
          refine wpStill_nil ?_
          change wpList _ _ _ _ _ w3.drew
          try rw [HVV.out]
          have H4 := Lib.hid H3.out.drew
          have bm4 := H4.out.box
          have r0 : w3.drew.cell? ⟨bm, 0, none⟩ = some (.int .i64 (Z : Int)) := bm4.cell 0
          go_wp2_with fail
          try rw [HVV.out]
          refine (rw_any H4.out HFINE.out hZ6 ak ((j : Int) + (j2 : Int)) vv HIN.out).mono ?_
          rintro e4 w4 ⟨⟨A4, n4, c4, xs4, rfl, hn4, O4⟩, hb4⟩
          have H5 := Lib.hid (H4.out.wrote hb4 O4 hn4 HH.out HLV.out)
          have LX5 := Lib.hid ((((show Lies w3.drew wz.heap.size 59 [.int .u8 kd, .slice E j ec, .int .u8 mr] from HLX3.out.drew).below hb4 HLX3.out.lt).far (p := ⟨bm, 0, none⟩) hbX (.int .i64 (Z : Int))).far (p := ⟨bm, 1, none⟩) hbX (.slice A4 n4 c4))
          have bm4 := (H4.out.kept hb4).box
          have r0 : w4.cell? ⟨bm, 0, none⟩ = some (.int .i64 (Z : Int)) := bm4.cell 0
          have r1 : w4.cell? ⟨bm, 1, none⟩ = some (.slice A n c) := bm4.cell 1
          have r2 := bm4.frozen 0
          have r3 := bm4.frozen 1
          have r4 := bm4.lt
          clear O4 hb4 bm4 hn4 H3 H4 HT HLX3 m0 m1 catk
          go_wp2
          refine Norm.normal ?_
          go_wp2
          exact ⟨⟨j2 + 1, by omega, by go_num, H5.out, LX5.out⟩, by simp [intOf]; omega⟩
        · obtain rfl : j2 = q := by omega
          have HWr2 := Lib.hid hWr
          clear hWr LXj y1 y2 HWr HLXj
          go_wp2
          refine HK.out _ _ _ _ _ _ _ _ _ _ _ _ _ _ _ _ _ _ _ _ _ _ _ _ _ _ _ _ _ _ _ _ _ _ _ _ _ _ _ _ _ _ _ _ _ _ _ _ _ _ _ _ _ _ _ _ _ _ _ _ _ _ _ _ _ _ _ _ _ _ _ _ _ _ _ _ _ _ _ _ _ _ _ _ _ ?_ HWr2.out
          go_num
end Go.Proofs.YtklhdilbmpndkaaGreat
