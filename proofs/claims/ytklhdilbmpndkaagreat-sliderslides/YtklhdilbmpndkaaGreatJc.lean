/- A region that draws its order, whose last operation turns what is old, and whose other operations only read, or lay blocks: walked once; also inside a round of a range over a function. How the iterator goes through a heap's objects in a range over it, with their addresses; what it does not keep. -/
import Derived.Test.YtklhdilbmpndkaaGreatGd
import Derived.StillTail
import Derived.Test.YtklhdilbmpndkaaGreatHb
import Derived.Test.YtklhdilbmpndkaaGreatSeq
namespace Go.Proofs.YtklhdilbmpndkaaGreat
set_option maxRecDepth 20000
open Go.RowKit Go.Sort
set_option linter.unusedVariables false
set_option linter.unusedSimpArgs false

section
variable {F : Fence} {n : Nat} {P : Program} {ops : Array Oper} {md : Region.Mode} {C : World → Prop}

/-- Whatever order is picked from here on, up to where the tail is left. -/
def anyQL (F : Fence) (n : Nat) (P : Program) (md : Region.Mode) (ops : Array Oper) (C : World → Prop) (N : Nat) (L : Array Bool → Act → Prop) : Nat → Array Bool → Act → Prop
  | 0, listed, a => L listed a
  | f + 1, listed, a => Region.ready md ops listed ≠ [] ∧ ∀ i ∈ Region.ready md ops listed, i < N ∧ qOpIn F n P ops C i (anyQL F n P md ops C N L f (listed.setIfInBounds i true)) a

theorem anyIn_of_head {N g : Nat} {L : Array Bool → Act → Prop} {Q' : Exit → Act → World → Prop} (hro : F.round = none) (hL : ∀ listed a w, C w → L listed a → wpAnyIn F n P md ops Q' g listed a w) :
    ∀ (f : Nat) (listed : Array Bool) (a : Act) (w : World), C w → anyQL F n P md ops C N L f listed a → wpAnyIn F n P md ops Q' (f + g) listed a w
  | 0, listed, a, w, hw, h => by rw [Nat.zero_add]; exact hL _ _ _ hw h
  | f + 1, listed, a, w, hw, h => by
    rw [show f + 1 + g = (f + g) + 1 by omega]
    exact ⟨fun h0 => absurd h0 h.1, fun i hi => wpOpIn_of_qOpIn hro hw (fun a' w' hw' h' => anyIn_of_head hro hL f _ a' w' hw' h') (h.2 i hi).2⟩

theorem anyQL_first {N i : Nat} {oi : Oper} {v : Value} {L : Array Bool → Act → Prop} (hi : ops[i]? = some oi) (hsel : ∀ (j : Nat) (o : Oper) cs b, ops[j]? = some o → o.op ≠ .select cs b)
    (hs : Region.sinkB md ops N = true) (hc : Region.chainB md ops N = true) (hn : N < ops.size) (hin : i < N)
    (hdone : ∀ listed a, L listed a → ∀ j ∈ Region.ready md ops listed, N ≤ j) :
    ∀ (f : Nat) (listed : Array Bool) (a : Act), HeadInv md ops N listed →
      (∀ j oj, ops[j]? = some oj → j ≠ i → listed.getD j true = false → (∀ e ∈ oj.after, Region.binds md e = true → e.on ≠ i) → oi.apart ops oj = true) →
      i ∈ Region.ready md ops listed → YieldsQuiet F n P ops C oi v a →
      anyQL F n P md ops C N L f (listed.setIfInBounds i true) (a.put oi.dst v) → anyQL F n P md ops C N L (f + 1) listed a := by
  intro f
  induction f with
  | zero =>
    intro listed a inv _ hr hy H
    have hun := (mem_ready.1 hr).1
    refine ⟨fun h => (by rw [h] at hr; cases hr), fun j hj => ?_⟩
    have hjn : j < N := by
      rcases Nat.lt_or_ge j N with h | h
      · exact h
      · exact absurd hj (tail_waits hs hc hn inv _ i rfl hin hun j h)
    refine ⟨hjn, ?_⟩
    by_cases hji : j = i
    · subst hji; exact hy.qOpIn hi H
    · have := hdone _ _ H j (ready_mono hj hji)
      omega
  | succ f ih =>
    intro listed a inv hfree hr hy H
    have hun := (mem_ready.1 hr).1
    refine ⟨fun h => (by rw [h] at hr; cases hr), fun j hj => ?_⟩
    have hjn : j < N := by
      rcases Nat.lt_or_ge j N with h | h
      · exact h
      · exact absurd hj (tail_waits hs hc hn inv _ i rfl hin hun j h)
    refine ⟨hjn, ?_⟩
    by_cases hji : j = i
    · subst hji; exact hy.qOpIn hi H
    · have h1 := (H.2 j (ready_mono hj hji)).2
      obtain ⟨hjun, oj, hoj, hall⟩ := mem_ready.1 hj
      have hnot : ∀ e ∈ oj.after, Region.binds md e = true → e.on ≠ i := fun e he hb heq => by
        have h1 := hall e he hb
        rw [heq, getD_both hun] at h1
        cases h1
      have h2 := qOpIn_put hoj (hfree j oj hoj hji hjun hnot) (fun cs b => hsel i oi cs b hi) (fun cs b => hsel j oj cs b hoj) hy h1
      have hfree' : ∀ k ok, ops[k]? = some ok → k ≠ i → (listed.setIfInBounds j true).getD k true = false →
          (∀ e ∈ ok.after, Region.binds md e = true → e.on ≠ i) → oi.apart ops ok = true := fun k ok hk hki hun hno => by
        refine hfree k ok hk hki ?_ hno
        by_cases hjk : j = k
        · subst hjk; exact hjun
        · rw [getD_set_ne true hjk] at hun; exact hun
      refine qOpIn_mono (fun a' h3 => ih (listed.setIfInBounds j true) a' (inv.set hj hjn) hfree' (ready_mono hr (Ne.symm hji)) h3.1 ?_) h2
      rw [Array.setIfInBounds_comm _ _ hji]
      exact h3.2

theorem anyQL_lex {N g : Nat} {Lq : Act → Prop} (hsel : Region.noSelect ops = true) (hs : Region.sinkB md ops N = true) (hc : Region.chainB md ops N = true) (hn : N < ops.size) :
    ∀ (l : List Oper) (k : Nat) (listed : Array Bool) (a : Act), (∀ j, j < l.length → l[j]? = ops[k + j]?) → k + l.length = N → HeadInv md ops N listed →
    Region.lexHead md ops g l.length k listed = true → wpQuietIn F n P ops C Lq l a →
    anyQL F n P md ops C N (fun listed' a' => Region.seqB md ops g N listed' = true ∧ Lq a') l.length listed a
  | [], k, listed, a, _, hk, _, hB, h => by
    have : k = N := by simpa using hk
    subst this
    exact ⟨by simpa [Region.lexHead] using hB, h⟩
  | o :: l, k, listed, a, hl, hk, inv, hB, h => by
    have h0 : ops[k]? = some o := by simpa using (hl 0 (by simp)).symm
    simp only [List.length_cons, Region.lexHead, Bool.and_eq_true] at hB
    obtain ⟨⟨hr, hf⟩, hB'⟩ := hB
    have hkn : k < N := by simp only [List.length_cons] at hk; omega
    have hr' : k ∈ Region.ready md ops listed := by simpa using hr
    have hst : qOpIn F n P ops C k (wpQuietIn F n P ops C Lq l) a := by unfold qOpIn; simp only [h0]; exact h
    obtain ⟨v, hy, hK⟩ := yieldsQuiet_of_qOpIn h0 hst
    exact anyQL_first h0 (Region.noSelect_spec hsel) hs hc hn hkn (fun listed' a' hL => seqB_ready hL.1) l.length listed a inv (Region.free_spec h0 hf) hr' hy
      (anyQL_lex hsel hs hc hn l (k + 1) _ _ (fun j hj => by have := hl (j + 1) (by simp; omega); simpa [Nat.add_assoc, Nat.add_comm 1 j] using this) (by simp only [List.length_cons] at hk; omega) (inv.set hr' hkn) hB' hK)

theorem anyIn_of_seq {Q' : Exit → Act → World → Prop} : ∀ (l : List Oper) (k : Nat) (listed : Array Bool) (a : Act) (w : World), (∀ j, l[j]? = ops[k + j]?) →
    Region.seqB md ops l.length k listed = true → wpListIn F n P ops Q' l a w → wpAnyIn F n P md ops Q' l.length listed a w
  | [], _, _, _, _, _, hB, h => ⟨by simpa [Region.seqB] using hB, h⟩
  | o :: l, k, listed, a, w, hl, hB, h => by
    have h0 : ops[k]? = some o := by simpa using (hl 0).symm
    simp only [List.length_cons, Region.seqB, Bool.and_eq_true, decide_eq_true_eq] at hB
    obtain ⟨hr, hB'⟩ := hB
    refine ⟨fun h1 => (by rw [hr] at h1; cases h1), fun i hi => ?_⟩
    rw [hr] at hi
    have hik : i = k := by simpa using hi
    subst hik
    have hw : wpOpIn F n P ops Q' i (wpListIn F n P ops Q' l) a w := by unfold wpOpIn; simp only [h0]; exact h
    exact wpOpIn_mono (fun a' w' h' => anyIn_of_seq l (i + 1) _ a' w' (fun j => by have := hl (j + 1); simpa [Nat.add_assoc, Nat.add_comm 1 j] using this) hB' h') hw

/-- The class of worlds in which a quiet call leaves a world. -/
def Grown (w : World) : World → Prop := fun w' => ∃ p : Regrown, w' = grow (redrawn w p.d) p.os

theorem anyIn_tail {Q : Exit → Act → World → Prop} {a : Act} {w1 : World} {l : List Oper} (k : Nat) (hro : F.round = none) (hw1 : C w1) (hB : Region.lexTailB .any l.toArray k = true)
    (h : wpQuietIn F n P l.toArray C (fun a' => ∀ w', C w' → wpListIn F n P l.toArray Q (l.drop k) a' w') (l.take k) a) : wpAnyIn F n P .any l.toArray Q l.toArray.size (Array.replicate l.toArray.size false) a w1 := by
  simp only [Region.lexTailB, Bool.and_eq_true, decide_eq_true_eq] at hB
  obtain ⟨⟨⟨⟨hsel, hn⟩, hs⟩, hc⟩, hlex⟩ := hB
  have hn' : k < l.length := by simpa using hn
  have htl : (l.take k).length = k := by simp; omega
  have hdl : (l.drop k).length = l.toArray.size - k := by simp
  have inv0 : HeadInv .any l.toArray k (Array.replicate l.toArray.size false) :=
    ⟨by simp, fun j oj _ hl => (by rw [getD_replicate_false] at hl; cases hl), fun t _ ht => getD_in (by simpa using ht) (getD_replicate_false _ _)⟩
  have H := anyQL_lex (F := F) (n := n) (P := P) (C := C) (md := .any) (g := l.toArray.size - k) hsel hs hc hn (l.take k) 0 _ a (fun j hj => by
    have hj' : j < k := by rw [htl] at hj; exact hj
    simp [hj']) (by simpa using htl) inv0 (by rw [htl]; exact hlex) h
  have := anyIn_of_head (Q' := Q) (g := l.toArray.size - k) hro (fun listed a' w' hw' hL => by
    have := anyIn_of_seq (F := F) (n := n) (P := P) (md := .any) (Q' := Q) (l.drop k) k listed a' w' (fun j => by simp [List.getElem?_drop]) (by rw [hdl]; exact hL.1) (hL.2 w' hw')
    rwa [hdl] at this) _ _ _ w1 hw1 H
  rw [htl, show k + (l.toArray.size - k) = l.toArray.size by omega] at this
  exact this
end

theorem quiet_tail_round {n : Nat} {P : Program} {id : Nat} {Q : Exit → Act → World → Prop} {a : Act} {w : World} {l : List Oper} (k r : Nat) (hm : P.follows .mixedOrders = true) (hB : Region.lexTailB .any l.toArray k = true) (hd : noDefers l = true)
    (h : wpQuietIn Fence.wide n P l.toArray (fun w' => ∃ p : Regrown, w' = grow (redrawn w p.d) p.os) (fun a' => ∀ w', (∃ p : Regrown, w' = grow (redrawn w p.d) p.os) → wpListIn Fence.wide n P l.toArray Q (l.drop k) a' w') (l.take k) a) : (Code.region id l.toArray true).wpIn (Fence.wide.inRound r) n P Q a w :=
  wpIn_region_any hm (any_round rfl (fun i o hi c => noDefers_spec hd hi c) _ _ _ _ (anyIn_tail (C := fun w' => ∃ p : Regrown, w' = grow (redrawn w p.d) p.os) k rfl ⟨⟨w.drawn + 1, #[]⟩, by rw [grow_empty]; rfl⟩ hB h))
theorem quiet_tail {n : Nat} {P : Program} {id : Nat} {Q : Exit → Act → World → Prop} {a : Act} {w : World} {l : List Oper} (k : Nat) (hm : P.follows .mixedOrders = true) (hB : Region.lexTailB .any l.toArray k = true)
    (h : wpQuietIn Fence.wide n P l.toArray (fun w' => ∃ p : Regrown, w' = grow (redrawn w p.d) p.os) (fun a' => ∀ w', (∃ p : Regrown, w' = grow (redrawn w p.d) p.os) → wpListIn Fence.wide n P l.toArray Q (l.drop k) a' w') (l.take k) a) : (Code.region id l.toArray true).wp P Q a w :=
  wpIn_wide.1 (wpIn_region_any hm (anyIn_tail (C := fun w' => ∃ p : Regrown, w' = grow (redrawn w p.d) p.os) k rfl ⟨⟨w.drawn + 1, #[]⟩, by rw [grow_empty]; rfl⟩ hB h))
end Go.Proofs.YtklhdilbmpndkaaGreat

namespace Go.Proofs.YtklhdilbmpndkaaGreat
set_option maxRecDepth 20000
open Go.RowKit Go.Shelf
set_option linter.unusedVariables false
set_option linter.unusedSimpArgs false
attribute [local go_sem] Oper.semAt_some

/-- Objects, with their addresses. -/
def adr : Nat → List Ob → List (Nat × Ob)
  | _, [] => []
  | a, o :: l => (a, o) :: adr (a + 1 + o.2.length) l
theorem adr_append : ∀ (a : Nat) (l m : List Ob), adr a (l ++ m) = adr a l ++ adr (a + (flat l).length) m
  | a, [], m => by simp [adr, flat_nil]
  | a, o :: l, m => by
    rw [List.cons_append, adr, adr_append, adr, List.cons_append, flat_cons]
    congr 3
    simp; omega

/-- Blocks ahead of q are as they were, and all cells that are no rows of numbers, but q's. -/
structure KeepsQ (q : Nat) (A B : World) : Prop where
  size : A.heap.size ≤ B.heap.size
  same : ∀ (k : Nat) (cs : Array Value) (t : TypeId) (fr : Nat × Nat), A.heap[k]? = some (Obj.cells cs t fr) → (k < q ∨ (t ≠ 3 ∧ k ≠ q)) → B.heap[k]? = some (Obj.cells cs t fr)
theorem KeepsQ.trans {q : Nat} {A B C : World} (h : KeepsQ q A B) (k : KeepsQ q B C) : KeepsQ q A C := ⟨Nat.le_trans h.size k.size, fun i cs t fr hi hc => k.same i cs t fr (h.same i cs t fr hi hc) hc⟩
theorem KeepsQ.of_pass {q base : Nat} {A B : World} (h : Pass q base A B) (hq : q ≤ base) : KeepsQ q A B := ⟨h.size, fun k cs t fr hk hc => by
  rcases hc with hc | ⟨h1, h2⟩
  · exact (h.block k (Array.getElem?_eq_some_iff.1 hk).1 (by omega) (by omega)).trans hk
  · exact (h.others k cs t fr hk h1 h2).trans hk⟩
theorem KeepsQ.of_below {q : Nat} {A B : World} (h : Below A.heap.size A B) : KeepsQ q A B := ⟨h.size, fun k cs t fr hk _ => (h.block k (Array.getElem?_eq_some_iff.1 hk).1).trans hk⟩
theorem KeepsQ.put {q : Nat} {w : World} (W : World) (l : Nat) (o o' : Obj) (_ : w.heap.size ≤ l) (h : W.heap[l]? = some o) (hc : o.isCells = false) (_ : o.isWalk = false) : KeepsQ q W (W.putObj l o') :=
  ⟨by simp, fun k cs t fr hk _ => by
    have hne : k ≠ l := by
      rintro rfl
      rw [h] at hk
      injection hk with hk
      subst hk
      simp [Obj.isCells] at hc
    exact (World.putObj_heap_other hne).trans hk⟩
theorem Lies.keptQ {q : Nat} {w w' : World} {g : Nat} {t : TypeId} {cs : List Value} (h : Lies w g t cs) (hk : KeepsQ q w w') (ht : t ≠ 3) (hg : g ≠ q) : Lies w' g t cs := hk.same g _ t _ h (.inr ⟨ht, hg⟩)
theorem Lies.keptL {q : Nat} {w w' : World} {g : Nat} {t : TypeId} {cs : List Value} (h : Lies w g t cs) (hk : KeepsQ q w w') (hg : g < q) : Lies w' g t cs := hk.same g _ t _ h (.inl hg)
theorem St.keptQ {q : Nat} {w w' : World} {g gw gb : Nat} {obs : List Ob} {tail : List Int} (h : St w g gw gb obs tail) (hk : KeepsQ q w w') (hg : g < q ∧ gw < q ∧ gb < q) : St w' g gw gb obs tail :=
  ⟨h.fine, h.lies.own.keptL hk hg.1, h.lies.words.keptL hk hg.2.1, h.lies.begins.keptL hk hg.2.2, h.lies.same, h.lies.some_, h.lies.most, h.lies.fits⟩

set_option maxRecDepth 100000 in
set_option maxHeartbeats 2000000 in
theorem walk_stops2 (n : Nat) (hn : 1 ≤ n) (g gw gb bh qq : Nat) (obs : List Ob) (tail : List Int) (w : World) (hqq : qq < w.heap.size) (hgq : g < qq ∧ gw < qq ∧ gb < qq) (hbq : qq < bh) (S0 : St w g gw gb obs tail) (hb0 : Lies w bh 29 [.pointer (some ⟨g, 0, none⟩)]) :
    SeqStopsK Fence.wide n Tryz.prog 83 #[.pointer (some ⟨bh, 0, none⟩)] (fun x : At obs => encAt x) (KeepsQ qq) (fun xs => xs.map (fun x : At obs => x.1) = adr 0 obs) (fun pre => True) (obs.length + 1) w := fun l J Jx W hW hJ hJx hY h0 => by
  have HY := Lib.hid hY
  have HJ := Lib.hid hJ
  clear hY hJ hJx
  refine callsIn_of_wp Tryz.func83 rfl trivial ?_ rfl
  simp only [Tryz.ntmps83, List.size_toArray, List.length_cons, List.length_nil, Nat.reduceAdd, Nat.reduceSub, Array.replicate_succ, Array.replicate_zero, List.push_toArray, List.append_toArray, List.nil_append, List.cons_append]
  gi_wp2
  gi_loopw [3] (fun i wr => ∃ (xs : List (At obs)) (post : List Ob), obs = xs.map obOf ++ post ∧ xs.map (fun x : At obs => x.1) = adr 0 (xs.map obOf) ∧ i = .int .i64 ((flat (xs.map obOf)).length : Nat) ∧ J xs wr ∧ St wr g gw gb obs tail ∧ Lies wr bh 29 [.pointer (some ⟨g, 0, none⟩)]) (fun i _ => (flat obs).length - (intOf i).toNat)
  case atStart =>
    exact ⟨[], obs, rfl, rfl, rfl, h0, S0.kept hW, hb0.below hW hb0.lt⟩
  case round =>
    obtain ⟨xs, post, hobs, hadr, rfl, hj, S, hb⟩ := hrel
    have HADR := Lib.hid hadr
    clear hadr
    have x0 : wr.cell? ⟨bh, 0, none⟩ = some (.pointer (some ⟨g, 0, none⟩)) := hb.cell 0
    have x1 := S.lies.c1
    obtain ⟨N, hN⟩ : ∃ N, (flat (xs.map obOf)).length = N := ⟨_, rfl⟩
    obtain ⟨M, hM⟩ : ∃ M, (flat obs).length = M := ⟨_, rfl⟩
    rw [hN]
    rw [hM] at x1 ⊢
    have HN := Lib.hid hN
    have HM := Lib.hid hM
    have HO := Lib.hid hobs
    clear hN hM hobs
    cases post with
    | nil =>
      have hNM : N = M := by rw [← HN.out, ← HM.out]; conv => rhs; rw [HO.out, List.append_nil]
      subst hNM
      gi_wp2
      go_end0
      refine ⟨⟨_, rfl⟩, .inl ⟨xs, ?_, hj⟩⟩
      have e : xs.map obOf = obs := by rw [← List.append_nil (xs.map obOf)]; exact HO.out.symm
      rw [HADR.out, e]
    | cons o post =>
      have hNM : N < M := by rw [← HN.out, ← HM.out]; conv => rhs; rw [HO.out]
                             simp [flat_append, flat_cons]
      have hl := S.lies.most
      have hl2 : M ≤ 65536 := by rw [← HM.out]; simp at hl; omega
      have SO : St wr g gw gb (xs.map obOf ++ o :: post) tail := by rw [← HO.out]; exact S
      have hhd := SO.fine.right.head
      have hz0 : 0 ≤ o.1 / 65536 := by have := head_nn hhd.1; omega
      have hz1 : o.1 / 65536 ≤ 4095 := by have := len_le hhd.1; unfold lenOf at this; omega
      obtain ⟨X, hX⟩ : ∃ X : At obs, X = ⟨(N, o), xs.map obOf, post, HO.out, HN.out.symm⟩ := ⟨_, rfl⟩
      have hX1 : obOf X = o := by rw [hX]; rfl
      have hX3 : X.1 = (N, o) := by rw [hX]
      have HX3 := Lib.hid hX3
      have hX2 : encAt X = #[.int .i64 (N : Nat), .agg #[.int .i64 (o.1 % 16), .int .i64 (o.1 / 65536), .int .i64 (o.1 % 65536 / 16)]] := by rw [hX]; rfl
      have hxl : xs.length < obs.length + 1 := by have := congrArg List.length HO.out; simp at this; omega
      have HX1 := Lib.hid hX1
      have HX2 := Lib.hid hX2
      clear hX hX1 hX2 hX3
      gi_wp2_with fail
      refine ⟨trivial, (callsIn_wide.2 (head_st SO N HN.out)).mono ?_⟩
      rintro e w2 ⟨rfl, hb2⟩
      have B2 := hb2.alloc hb2.size (.cells #[.int .i64 (o.1 % 16), .int .i64 (o.1 / 65536), .int .i64 (o.1 % 65536 / 16)] 64)
      obtain ⟨fn, tmps, assign, body, hy, hR⟩ := HY.out xs X _ (abide HJ.out hj B2) hxl
      rw [HX2.out] at hy
      have box2 := Lies.new w2 64 [.int .i64 (o.1 % 16), .int .i64 (o.1 / 65536), .int .i64 (o.1 % 65536 / 16)]
      have el : (flat ((xs ++ [X]).map obOf)).length = N + 1 + (o.1 / 65536).toNat := by
        have := hhd.2; unfold lenOf at this
        rw [List.map_append, flat_append, List.map_cons, List.map_nil, flat_cons, flat_nil, HX1.out]; simp [HN.out]; omega
      have HEl := Lib.hid el
      have S2 := (S.kept hb2).alloc (.cells #[.int .i64 (o.1 % 16), .int .i64 (o.1 / 65536), .int .i64 (o.1 % 65536 / 16)] 64)
      have hbb2 := (hb.below hb2 hb.lt).alloc (.cells #[.int .i64 (o.1 % 16), .int .i64 (o.1 / 65536), .int .i64 (o.1 % 65536 / 16)] 64)
      clear el hhd SO HX2
      have HR := Lib.hid hR
      clear hR
      generalize o.1 / 65536 = q at *
      generalize o.1 % 65536 / 16 = r at *
      generalize o.1 % 16 = s at *
      gi_wp2
      refine HR.out.mono ?_
      rintro e w3 (⟨rfl, hj3, hk3⟩ | ⟨rfl, hx3⟩)
      · have S3 := S2.keptQ hk3 hgq
        have hbb3 := hbb2.keptQ hk3 (by decide) (by omega)
        have box3 := box2.keptQ hk3 (by decide) (by have := hb.lt; have h1 := hb2.size; omega)
        have y0 : w3.cell? ⟨w2.heap.size, 0, none⟩ = some (.int .i64 s) := box3.cell 0
        have y1 : w3.cell? ⟨w2.heap.size, 1, none⟩ = some (.int .i64 q) := box3.cell 1
        have y2 : w3.cell? ⟨w2.heap.size, 2, none⟩ = some (.int .i64 r) := box3.cell 2
        clear HR hy x0 x1
        gi_wp2_with fail
        refine ⟨trivial, (callsIn_wide.2 (room_i s q r _ hz0 hz1)).mono ?_⟩
        rintro e w4 ⟨rfl, hb4⟩
        have hj4 := abide HJ.out hj3 hb4
        have S4 := S3.kept hb4
        have hbb4 := hbb3.below hb4 hbb3.lt
        gi_wp2
        refine ⟨⟨xs ++ [X], post, ?_, ?_, ?_, hj4, S4, hbb4⟩, ?_⟩
        · have := HO.out
          rw [List.map_append, List.map_cons, List.map_nil, HX1.out, List.append_assoc]
          exact this
        · simp only [List.map_append, List.map_cons, List.map_nil, HX1.out, HX3.out, adr_append, HADR.out]
          rw [Nat.zero_add, HN.out]; rfl
        · rw [HEl.out]; exact congrArg (Value.int .i64) (by omega)
        · simp [intOf]; omega
      · clear HR hy x0 x1
        gi_wp2
        refine bodyPost_ret (results_none rfl _ _ _) rfl ?_
        exact ⟨⟨_, rfl⟩, .inr ⟨_, trivial, hx3⟩⟩
end Go.Proofs.YtklhdilbmpndkaaGreat
