/- Of ForwardStays: what lies where, while marks are set; the first objects of a list (pure). -/
import Derived.Test.YtehmcbpkhknpcaaGo
import Derived.Test.YtehmcbpkhknpcaaMar2
namespace Go.Proofs.Ytehmcbpkhknpcaa
set_option maxRecDepth 20000
open Go.RowKit
set_option linter.unusedVariables false
set_option linter.unusedSimpArgs false

theorem plain_zero {A : Option Addr} (h : A = none ∨ ∃ q, A = some ⟨q, 0, none⟩) : A.map (fun a => a.add 0) = A := by
  rcases h with rfl | ⟨q, rfl⟩
  · rfl
  · simp [add_at]
theorem cut_row {A : Option Addr} {n c L : Nat} (h : A = none ∨ ∃ q, A = some ⟨q, 0, none⟩) (hL : L ≤ n) (hn : n ≤ c) (W : World) : (Instr.slice 31 (.slice A n c) none (some (.int .i64 (L : Int))) none).run Try.prog W = .ok (.slice A L c) W := by
  have h0 := plain_zero h
  obtain ⟨i0, z0, hi0, -, hs0, -, -⟩ := info_53
  have h1 : (L : Int) ≤ (c : Int) := by omega
  have h2 : (0 : Int) ≤ (L : Int) := by omega
  simp [Instr.slice, run_underlying Try.underlying31, Instr.sliceBounds, go_sem, sizeOf, typeInfo, hi0, hs0, h0, h1, h2]
theorem Owned.plain {w : World} {base n c : Nat} {A : Option Addr} {obs : List Ob} {xs : List Value} (h : Owned w base A n c obs xs) : (A = none ∨ ∃ q, A = some ⟨q, 0, none⟩) ∧ n ≤ c := by
  rcases h.own.2 with ⟨e, h0⟩ | ⟨g, cap, cur, e, hg, hh, h1, h2, h3, h4⟩
  · injection e with e1 e2 e3
    exact ⟨Or.inl e1, by omega⟩
  · injection e with e1 e2 e3
    exact ⟨Or.inr ⟨g, e1⟩, by omega⟩

/-- Which places are set: where the first so many objects begin. -/
def firstB (obs : List Ob) (L : Nat) (p : Nat) : Bool := ((adr 0 obs).take L).any fun x => decide (x.1 = p)
theorem first_more {obs : List Ob} {L p : Nat} {o : Ob} (h : (adr 0 obs)[L]? = some (p, o)) (x : Nat) : firstB obs (L + 1) x = (decide (x = p) || firstB obs L x) := by
  unfold firstB
  rw [take_more h, List.any_append, Bool.or_comm]
  have e : decide (p = x) = decide (x = p) := by simp [eq_comm]
  simp [e]
theorem first_in {obs : List Ob} {L j p : Nat} {o : Ob} (h : (adr 0 obs)[j]? = some (p, o)) (hj : j < L) : firstB obs L p = true := by
  unfold firstB
  rw [List.any_eq_true]
  refine ⟨(p, o), ?_, by simp⟩
  have : ((adr 0 obs).take L)[j]? = some (p, o) := by rw [List.getElem?_take, if_pos hj, h]
  exact List.mem_of_getElem? this
theorem first_out {f : Nat → Bool} {obs : List Ob} {L : Nat} (hf : ∀ p, f p = firstB obs L p) : sumL ((adr 0 obs).filter (keepB f)) = endS f obs L := by
  have hs := adr_sorted 0 obs
  rw [← List.take_append_drop L (adr 0 obs)] at hs
  have h1 := (List.pairwise_append.1 hs).2.2
  have h2 : ((adr 0 obs).drop L).filter (keepB f) = [] := by
    rw [List.filter_eq_nil_iff]
    intro x hx
    unfold keepB
    have h3 : f x.1 = false := by
      rw [hf]
      unfold firstB
      rw [List.any_eq_false]
      intro y hy
      have := h1 y hy x hx
      simp; omega
    simp [h3]
  have h3 : sumL ((adr 0 obs).filter (keepB f)) = sumL (((adr 0 obs).take L ++ (adr 0 obs).drop L).filter (keepB f)) := by rw [List.take_append_drop]
  rw [h3, List.filter_append, sumL_append, h2]
  rfl

/-- While marks are set: the heap, its box, the marks. -/
structure Sv (w wb : World) (bx g gw gb mg mw Z : Nat) (obs : List Ob) (A : Option Addr) (n c L : Nat) (wr : World) : Prop where
  b1 : Below wb.heap.size wb wr
  b2 : Below w.heap.size w wr
  box : Lies wr bx 33 [.int .i64 (Z : Int), .slice A n c]
  map : ∃ ws, Mk.At wr mg mw Z ws ∧ ∀ p, Mk.bit ws p = firstB obs L p
theorem Sv.kept {w wb : World} {bx g gw gb mg mw Z : Nat} {obs : List Ob} {A : Option Addr} {n c L : Nat} {wr w' : World} (h : Sv w wb bx g gw gb mg mw Z obs A n c L wr) (hb : Below wr.heap.size wr w') : Sv w wb bx g gw gb mg mw Z obs A n c L w' := by
  obtain ⟨ws, h1, h2⟩ := h.map
  exact ⟨on h.b1 h.b1.size hb, on h.b2 h.b2.size hb, h.box.kept hb, ws, h1.kept hb, h2⟩
end Go.Proofs.Ytehmcbpkhknpcaa
