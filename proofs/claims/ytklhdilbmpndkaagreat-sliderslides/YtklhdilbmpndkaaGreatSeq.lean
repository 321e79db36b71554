/- How the iterator goes through a heap's objects, in a range over it. -/
import Derived.RangeFuncNested
import Derived.RangeFuncBound
import Derived.RangeFuncCalls
import Derived.RangeFuncLeaves
import Derived.Shelf.Abstract
import Derived.Shelf.RegionOpen
import Derived.WalkKit
import Derived.OwnWalkIn
import Derived.TacticsInMore
import Derived.LoopNIn
import Derived.LoopIn
import Derived.Test.YtklhdilbmpndkaaGreatWalk
namespace Go.Proofs.YtklhdilbmpndkaaGreat
set_option maxRecDepth 20000
open Go.RowKit Go.Shelf
set_option linter.unusedVariables false
set_option linter.unusedSimpArgs false
attribute [local go_sem] Oper.semAt_some

/-- Cells that were there are as they were. -/
structure KeepsCells (A B : World) : Prop where
  size : A.heap.size ≤ B.heap.size
  same : ∀ (k : Nat) (cs : Array Value) (t : TypeId) (fr : Nat × Nat), A.heap[k]? = some (Obj.cells cs t fr) → B.heap[k]? = some (Obj.cells cs t fr)
theorem KeepsCells.trans {A B C : World} (h : KeepsCells A B) (k : KeepsCells B C) : KeepsCells A C := ⟨Nat.le_trans h.size k.size, fun i cs t fr hi => k.same i cs t fr (h.same i cs t fr hi)⟩
theorem KeepsCells.of_below {A B : World} (h : Below A.heap.size A B) : KeepsCells A B := ⟨h.size, fun k cs t fr hk => (h.block k (Array.getElem?_eq_some_iff.1 hk).1).trans hk⟩
theorem KeepsCells.put {w : World} (W : World) (l : Nat) (o o' : Obj) (_ : w.heap.size ≤ l) (h : W.heap[l]? = some o) (hc : o.isCells = false) (_ : o.isWalk = false) : KeepsCells W (W.putObj l o') :=
  ⟨by simp, fun k cs t fr hk => by
    have hne : k ≠ l := by
      rintro rfl
      rw [h] at hk
      injection hk with hk
      subst hk
      simp [Obj.isCells] at hc
    exact (World.putObj_heap_other hne).trans hk⟩
theorem Lies.keptC {w w' : World} {g : Nat} {t : TypeId} {cs : List Value} (h : Lies w g t cs) (hk : KeepsCells w w') : Lies w' g t cs := hk.same g _ t _ h
theorem St.keptC {w w' : World} {g gw gb : Nat} {obs : List Ob} {tail : List Int} (h : St w g gw gb obs tail) (hk : KeepsCells w w') : St w' g gw gb obs tail :=
  ⟨h.fine, h.lies.own.keptC hk, h.lies.words.keptC hk, h.lies.begins.keptC hk, h.lies.same, h.lies.some_, h.lies.most, h.lies.fits⟩
theorem St.alloc {w : World} {g gw gb : Nat} {obs : List Ob} {tail : List Int} (h : St w g gw gb obs tail) (o : Obj) : St (w.alloc o) g gw gb obs tail := ⟨h.fine, h.lies.alloc o⟩
theorem abide {β : Type} {B : Nat} {J : β → World → Prop} (h : AbidesFrom B J) {s : β} {W W' : World} (hs : J s W) (hb : Below W.heap.size W W') : J s W' :=
  h s W W' none hs ⟨hb.os, hb.tape, hb.output, hb.size, fun k hk _ => hb.block k hk⟩ (fun r e => by cases e)

/-- An object of a row, with its address. -/
abbrev At (obs : List Ob) := { x : Nat × Ob // ∃ pre post, obs = pre ++ x.2 :: post ∧ x.1 = (flat pre).length }

def encAt {obs : List Ob} (x : At obs) : Array Value := #[.int .i64 (x.1.1 : Nat), .agg #[.int .i64 (x.1.2.1 % 16), .int .i64 (x.1.2.1 / 65536), .int .i64 (x.1.2.1 % 65536 / 16)]]
def obOf {obs : List Ob} (x : At obs) : Ob := x.1.2

set_option maxRecDepth 100000 in
set_option maxHeartbeats 2000000 in
theorem walk_stops (n : Nat) (hn : 1 ≤ n) (g gw gb bh : Nat) (obs : List Ob) (tail : List Int) (w : World) (S0 : St w g gw gb obs tail) (hb0 : Lies w bh 29 [.pointer (some ⟨g, 0, none⟩)]) :
    SeqStopsK Fence.wide n Tryz.prog 83 #[.pointer (some ⟨bh, 0, none⟩)] (fun x : At obs => encAt x) KeepsCells (fun xs => xs.map obOf = obs) (fun pre => True) (obs.length + 1) w := fun l J Jx W hW hJ hJx hY h0 => by
  have HY := Lib.hid hY
  have HJ := Lib.hid hJ
  clear hY hJ hJx
  refine callsIn_of_wp Tryz.func83 rfl trivial ?_ rfl
  simp only [Tryz.ntmps83, List.size_toArray, List.length_cons, List.length_nil, Nat.reduceAdd, Nat.reduceSub, Array.replicate_succ, Array.replicate_zero, List.push_toArray, List.append_toArray, List.nil_append, List.cons_append]
  gi_wp2
  gi_loopw [3] (fun i wr => ∃ (xs : List (At obs)) (post : List Ob), obs = xs.map obOf ++ post ∧ i = .int .i64 ((flat (xs.map obOf)).length : Nat) ∧ J xs wr ∧ St wr g gw gb obs tail ∧ Lies wr bh 29 [.pointer (some ⟨g, 0, none⟩)]) (fun i _ => (flat obs).length - (intOf i).toNat)
  case atStart =>
    exact ⟨[], obs, rfl, rfl, h0, S0.kept hW, hb0.below hW hb0.lt⟩
  case round =>
    obtain ⟨xs, post, hobs, rfl, hj, S, hb⟩ := hrel
    have x0 : wr.cell? ⟨bh, 0, none⟩ = some (.pointer (some ⟨g, 0, none⟩)) := hb.cell 0
    have x1 := S.lies.c1
    obtain ⟨N, hN⟩ : ∃ N, (flat (xs.map obOf)).length = N := ⟨_, rfl⟩
    obtain ⟨M, hM⟩ : ∃ M, (flat obs).length = M := ⟨_, rfl⟩
    rw [hN]
    rw [hM] at x1 ⊢
    have HN := Lib.hid hN
    have HM := Lib.hid hM
    have HO := Lib.hid hobs
    clear hN hM hobs
    cases post with
    | nil =>
      have hNM : N = M := by rw [← HN.out, ← HM.out]; conv => rhs; rw [HO.out, List.append_nil]
      subst hNM
      gi_wp2
      go_end0
      exact ⟨⟨_, rfl⟩, .inl ⟨xs, by rw [← List.append_nil (xs.map obOf)]; exact HO.out.symm, hj⟩⟩
    | cons o post =>
      have hNM : N < M := by rw [← HN.out, ← HM.out]; conv => rhs; rw [HO.out]
                             simp [flat_append, flat_cons]
      have hl := S.lies.most
      have hl2 : M ≤ 65536 := by rw [← HM.out]; simp at hl; omega
      have SO : St wr g gw gb (xs.map obOf ++ o :: post) tail := by rw [← HO.out]; exact S
      have hhd := SO.fine.right.head
      have hz0 : 0 ≤ o.1 / 65536 := by have := head_nn hhd.1; omega
      have hz1 : o.1 / 65536 ≤ 4095 := by have := len_le hhd.1; unfold lenOf at this; omega
      obtain ⟨X, hX⟩ : ∃ X : At obs, X = ⟨(N, o), xs.map obOf, post, HO.out, HN.out.symm⟩ := ⟨_, rfl⟩
      have hX1 : obOf X = o := by rw [hX]; rfl
      have hX2 : encAt X = #[.int .i64 (N : Nat), .agg #[.int .i64 (o.1 % 16), .int .i64 (o.1 / 65536), .int .i64 (o.1 % 65536 / 16)]] := by rw [hX]; rfl
      have hxl : xs.length < obs.length + 1 := by have := congrArg List.length HO.out; simp at this; omega
      have HX1 := Lib.hid hX1
      have HX2 := Lib.hid hX2
      clear hX hX1 hX2
      gi_wp2_with fail
      refine ⟨trivial, (callsIn_wide.2 (head_st SO N HN.out)).mono ?_⟩
      rintro e w2 ⟨rfl, hb2⟩
      have B2 := hb2.alloc hb2.size (.cells #[.int .i64 (o.1 % 16), .int .i64 (o.1 / 65536), .int .i64 (o.1 % 65536 / 16)] 64)
      obtain ⟨fn, tmps, assign, body, hy, hR⟩ := HY.out xs X _ (abide HJ.out hj B2) hxl
      rw [HX2.out] at hy
      have box2 := Lies.new w2 64 [.int .i64 (o.1 % 16), .int .i64 (o.1 / 65536), .int .i64 (o.1 % 65536 / 16)]
      have el : (flat ((xs ++ [X]).map obOf)).length = N + 1 + (o.1 / 65536).toNat := by
        have := hhd.2; unfold lenOf at this
        rw [List.map_append, flat_append, List.map_cons, List.map_nil, flat_cons, flat_nil, HX1.out]; simp [HN.out]; omega
      have HEl := Lib.hid el
      have S2 := (S.kept hb2).alloc (.cells #[.int .i64 (o.1 % 16), .int .i64 (o.1 / 65536), .int .i64 (o.1 % 65536 / 16)] 64)
      have hbb2 := (hb.below hb2 hb.lt).alloc (.cells #[.int .i64 (o.1 % 16), .int .i64 (o.1 / 65536), .int .i64 (o.1 % 65536 / 16)] 64)
      clear el hhd SO HX2
      have HR := Lib.hid hR
      clear hR
      generalize o.1 / 65536 = q at *
      generalize o.1 % 65536 / 16 = r at *
      generalize o.1 % 16 = s at *
      gi_wp2
      refine HR.out.mono ?_
      rintro e w3 (⟨rfl, hj3, hk3⟩ | ⟨rfl, hx3⟩)
      · have S3 := S2.keptC hk3
        have hbb3 := hbb2.keptC hk3
        have box3 := box2.keptC hk3
        have y0 : w3.cell? ⟨w2.heap.size, 0, none⟩ = some (.int .i64 s) := box3.cell 0
        have y1 : w3.cell? ⟨w2.heap.size, 1, none⟩ = some (.int .i64 q) := box3.cell 1
        have y2 : w3.cell? ⟨w2.heap.size, 2, none⟩ = some (.int .i64 r) := box3.cell 2
        clear HR hy x0 x1
        gi_wp2_with fail
        refine ⟨trivial, (callsIn_wide.2 (room_i s q r _ hz0 hz1)).mono ?_⟩
        rintro e w4 ⟨rfl, hb4⟩
        have hj4 := abide HJ.out hj3 hb4
        have S4 := S3.kept hb4
        have hbb4 := hbb3.below hb4 hbb3.lt
        gi_wp2
        refine ⟨⟨xs ++ [X], post, ?_, ?_, hj4, S4, hbb4⟩, ?_⟩
        · have := HO.out
          rw [List.map_append, List.map_cons, List.map_nil, HX1.out, List.append_assoc]
          exact this
        · rw [HEl.out]; exact congrArg (Value.int .i64) (by omega)
        · simp [intOf]; omega
      · clear HR hy x0 x1
        gi_wp2
        refine bodyPost_ret (results_none rfl _ _ _) rfl ?_
        exact ⟨⟨_, rfl⟩, .inr ⟨_, trivial, hx3⟩⟩
end Go.Proofs.YtklhdilbmpndkaaGreat
