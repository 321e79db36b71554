/- How the iterator goes through a heap's objects, whatever is done with each, if that leaves the heap. How the iterator goes through a heap's objects, in a range over it. Whether some of a list's words lead astray: the library's look through a list, with a method value. A region that draws its order, inside a round of a range over a function: walked once, where its operations only read and its calls turn nothing old. What Check answers. The walk of HeapFulls. What every step on a heap keeps: each reference leads to an object that is no filler, and each word fits. The walk of HeapWalks. What the heap's Read and Head answer, over the list of objects. -/
import Derived.Test.YtibfhpbklnpknaaGc
import Derived.RangeFuncNested
import Derived.RangeFuncBound
import Derived.RangeFuncCalls
import Derived.RangeFuncLeaves
import Derived.Shelf.Abstract
import Derived.Shelf.RegionOpen
import Derived.WalkKit
import Derived.OwnWalkIn
import Derived.TacticsInMore
import Derived.LoopNIn
import Derived.LoopIn
import Derived.Lib.QuietBelowIn
import Derived.Sort.BigQuietIn
import Derived.Laws.Entries
import Derived.Lib.QuietBelow
namespace Go.Proofs.Ytibfhpbklnpknaa
open Go.RowKit
set_option linter.unusedVariables false
set_option linter.unusedSimpArgs false

/-- What a head's word says, as a value. -/
def hv (n : Int) : Value := .agg #[.int .i64 (n % 16), .int .i64 (n / 65536), .int .i64 (n % 65536 / 16)]

theorem walk_any {w : World} {g : Nat} :
    Calls Try.prog 37 #[.pointer (some ⟨g, 0, none⟩)] w fun e w' => e = .returned (.func (.func 50) #[] #[.pointer (some ⟨w.heap.size, 0, none⟩)]) ∧ w' = w.alloc (.cells #[.pointer (some ⟨g, 0, none⟩)] 26) := by
  go_enter Try.func37, Try.ntmps37
  go_wp2
  go_ret
  exact ⟨rfl, rfl⟩

theorem head_st {w : World} {g gw gb : Nat} {pre : List Ob} {o : Ob} {post : List Ob} {tail : List Int} (S : St w g gw gb (pre ++ o :: post) tail) (N : Nat) (hN : (flat pre).length = N) :
    Calls Try.prog 21 #[.pointer (some ⟨g, 0, none⟩), .int .i64 (N : Int)] w fun e w' => e = .returned (.tuple #[.agg #[.int .i64 (o.1 % 16), .int .i64 (o.1 / 65536), .int .i64 (o.1 % 65536 / 16)], .int .i64 0]) ∧ Below w.heap.size w w' := by
  subst hN
  have hi : (flat pre).length < (flat (pre ++ o :: post)).length := by simp [flat_append, flat_cons]
  exact head_yes S.lies _ hi (noted_here pre o post tail.length) o.1 (word_here pre o post tail) S.fine.right.head.1

/-- From a block on, what was there is as it was. -/
structure Above (B : Nat) (w w' : World) : Prop where
  size : w.heap.size ≤ w'.heap.size
  block : ∀ k, B ≤ k → k < w.heap.size → w'.heap[k]? = w.heap[k]?
theorem Above.lies {B b : Nat} {w w' : World} {t : TypeId} {cs : List Value} (h : Above B w w') (hl : Lies w b t cs) (hb : B ≤ b) : Lies w' b t cs := hl.of_block (h.block b hb hl.lt)

set_option maxHeartbeats 1000000 in
theorem walk1 (F : Nat) (caps : Array Value) (g gw gb bh n0 : Nat) (obs : List Ob) (tail : List Int) (J Jx : List Ob → World → Prop)
    (hSt : ∀ pre W, J pre W → St W g gw gb obs tail ∧ Lies W bh 26 [.pointer (some ⟨g, 0, none⟩)])
    (hJ : ∀ pre W W', J pre W → Below W.heap.size W W' → J pre W')
    (hY : ∀ pre o post W, obs = pre ++ o :: post → J pre W → Calls Try.prog F (#[.int .i64 ((flat pre).length : Nat), .agg #[.int .i64 (o.1 % 16), .int .i64 (o.1 / 65536), .int .i64 (o.1 % 65536 / 16)]] ++ caps) W fun e W' =>
      (e = .returned (.bool true) ∧ J (pre ++ [o]) W' ∧ Above n0 W W') ∨ (e = .returned (.bool false) ∧ Jx (pre ++ [o]) W'))
    (hcf : ∀ args W, (callFunc F args).run Try.prog W = .ok (.enter F args) W) (w : World) (hn0 : n0 ≤ w.heap.size) (h0 : J [] w) :
    Calls Try.prog 50 #[.func (.func F) #[] caps, .pointer (some ⟨bh, 0, none⟩)] w fun e w' => e = .returned (.tuple #[]) ∧ (J obs w' ∨ ∃ pre o post, obs = pre ++ o :: post ∧ Jx (pre ++ [o]) w') := by
  have HSt := Lib.hid hSt
  have HJ := Lib.hid hJ
  have HY := Lib.hid hY
  clear hSt hJ hY
  go_enter Try.func50, Try.ntmps50
  go_wp2
  go_loopw [3] (fun i wr => ∃ (pre post : List Ob), obs = pre ++ post ∧ i = .int .i64 ((flat pre).length : Nat) ∧ J pre wr ∧ n0 ≤ wr.heap.size) (fun i _ => (flat obs).length - (intOf i).toNat)
  case atStart => exact ⟨[], obs, rfl, rfl, h0, hn0⟩
  case round =>
    obtain ⟨pre, post, hobs, rfl, hj, hn⟩ := hrel
    obtain ⟨S, hb⟩ := HSt.out pre wr hj
    have x0 : wr.cell? ⟨bh, 0, none⟩ = some (.pointer (some ⟨g, 0, none⟩)) := hb.cell 0
    have x1 := S.lies.c1
    obtain ⟨N, hN⟩ : ∃ N, (flat pre).length = N := ⟨_, rfl⟩
    obtain ⟨M, hM⟩ : ∃ M, (flat obs).length = M := ⟨_, rfl⟩
    rw [hN]
    rw [hM] at x1 ⊢
    have HN := Lib.hid hN
    have HM := Lib.hid hM
    have HO := Lib.hid hobs
    clear hN hM hobs
    cases post with
    | nil =>
      have hNM : N = M := by rw [← HN.out, ← HM.out, HO.out, List.append_nil]
      subst hNM
      go_wp2
      go_end0
      exact ⟨rfl, .inl (by rw [HO.out, List.append_nil]; exact hj)⟩
    | cons o post =>
      have hNM : N < M := by rw [← HN.out, ← HM.out, HO.out]; simp [flat_append, flat_cons]
      have hfine := S.fine
      have hl := S.lies.most
      have hl2 : M ≤ 65536 := by rw [← HM.out]; simp at hl; omega
      have SO : St wr g gw gb (pre ++ o :: post) tail := by rw [← HO.out]; exact S
      have hhd := SO.fine.right.head
      go_wp2_with fail
      refine (head_st SO N HN.out).mono ?_
      rintro e w2 ⟨rfl, hb2⟩
      have hz0 : 0 ≤ o.1 / 65536 := by have := head_nn hhd.1; omega
      have hz1 : o.1 / 65536 ≤ 4095 := by have := len_le hhd.1; unfold lenOf at this; omega
      have B2 := hb2.alloc hb2.size (.cells #[.int .i64 (o.1 % 16), .int .i64 (o.1 / 65536), .int .i64 (o.1 % 65536 / 16)] 40)
      have HC := Lib.hid (HY.out pre o post _ HO.out (HJ.out pre wr _ hj B2))
      have box2 := Lies.new w2 40 [.int .i64 (o.1 % 16), .int .i64 (o.1 / 65536), .int .i64 (o.1 % 65536 / 16)]
      have hz2 := hb2.size
      have el : (flat (pre ++ [o])).length = N + 1 + (o.1 / 65536).toNat := by
        have := hhd.2; unfold lenOf at this
        rw [flat_append, flat_cons, flat_nil]; simp [HN.out]; omega
      have HEl := Lib.hid el
      clear el hhd SO
      rw [HN.out] at HC
      generalize o.1 / 65536 = q at *
      generalize o.1 % 65536 / 16 = r at *
      generalize o.1 % 16 = s at *
      go_wp2_with fail
      refine HC.out.mono ?_
      rintro e w3 (⟨rfl, hj3, ha3⟩ | ⟨rfl, hx3⟩)
      · obtain ⟨S3, hb3⟩ := HSt.out _ w3 hj3
        have box3 := ha3.lies box2 (by omega)
        have y0 : w3.cell? ⟨w2.heap.size, 0, none⟩ = some (.int .i64 s) := box3.cell 0
        have y1 : w3.cell? ⟨w2.heap.size, 1, none⟩ = some (.int .i64 q) := box3.cell 1
        have y2 : w3.cell? ⟨w2.heap.size, 2, none⟩ = some (.int .i64 r) := box3.cell 2
        have z3 := box3.lt
        clear HC x0 x1
        go_wp2_with fail
        refine (room_i s q r _ hz0 hz1).mono ?_
        rintro e w4 ⟨rfl, hb4⟩
        have hj4 := HJ.out _ w3 w4 hj3 hb4
        have hz4 := hb4.size
        go_wp2
        refine ⟨⟨pre ++ [o], post, by rw [HO.out]; simp, ?_, hj4, by omega⟩, ?_⟩
        · rw [HEl.out]; exact congrArg (Value.int .i64) (by omega)
        · simp [intOf]; omega
      · clear HC x0 x1
        go_wp2
        refine bodyPost_ret (results_none rfl _ _ _) rfl ?_
        exact ⟨rfl, .inr ⟨pre, o, post, HO.out, hx3⟩⟩
end Go.Proofs.Ytibfhpbklnpknaa

namespace Go.Proofs.Ytibfhpbklnpknaa
open Go.RowKit Go.Shelf
set_option linter.unusedVariables false
set_option linter.unusedSimpArgs false
attribute [local go_sem] Oper.semAt_some

/-- Cells that were there are as they were. -/
structure KeepsCells (A B : World) : Prop where
  size : A.heap.size ≤ B.heap.size
  same : ∀ (k : Nat) (cs : Array Value) (t : TypeId) (fr : Nat × Nat), A.heap[k]? = some (Obj.cells cs t fr) → B.heap[k]? = some (Obj.cells cs t fr)
theorem KeepsCells.trans {A B C : World} (h : KeepsCells A B) (k : KeepsCells B C) : KeepsCells A C := ⟨Nat.le_trans h.size k.size, fun i cs t fr hi => k.same i cs t fr (h.same i cs t fr hi)⟩
theorem KeepsCells.of_below {A B : World} (h : Below A.heap.size A B) : KeepsCells A B := ⟨h.size, fun k cs t fr hk => (h.block k (Array.getElem?_eq_some_iff.1 hk).1).trans hk⟩
theorem KeepsCells.put {w : World} (W : World) (l : Nat) (o o' : Obj) (_ : w.heap.size ≤ l) (h : W.heap[l]? = some o) (hc : o.isCells = false) (_ : o.isWalk = false) : KeepsCells W (W.putObj l o') :=
  ⟨by simp, fun k cs t fr hk => by
    have hne : k ≠ l := by
      rintro rfl
      rw [h] at hk
      injection hk with hk
      subst hk
      simp [Obj.isCells] at hc
    exact (World.putObj_heap_other hne).trans hk⟩
theorem Lies.keptC {w w' : World} {g : Nat} {t : TypeId} {cs : List Value} (h : Lies w g t cs) (hk : KeepsCells w w') : Lies w' g t cs := hk.same g _ t _ h
theorem St.keptC {w w' : World} {g gw gb : Nat} {obs : List Ob} {tail : List Int} (h : St w g gw gb obs tail) (hk : KeepsCells w w') : St w' g gw gb obs tail :=
  ⟨h.fine, h.lies.own.keptC hk, h.lies.words.keptC hk, h.lies.begins.keptC hk, h.lies.same, h.lies.some_, h.lies.most, h.lies.fits⟩
theorem St.alloc {w : World} {g gw gb : Nat} {obs : List Ob} {tail : List Int} (h : St w g gw gb obs tail) (o : Obj) : St (w.alloc o) g gw gb obs tail := ⟨h.fine, h.lies.alloc o⟩
theorem abide {β : Type} {B : Nat} {J : β → World → Prop} (h : AbidesFrom B J) {s : β} {W W' : World} (hs : J s W) (hb : Below W.heap.size W W') : J s W' :=
  h s W W' none hs ⟨hb.os, hb.tape, hb.output, hb.size, fun k hk _ => hb.block k hk⟩ (fun r e => by cases e)

/-- An object of a row, with its address. -/
abbrev At (obs : List Ob) := { x : Nat × Ob // ∃ pre post, obs = pre ++ x.2 :: post ∧ x.1 = (flat pre).length }

def encAt {obs : List Ob} (x : At obs) : Array Value := #[.int .i64 (x.1.1 : Nat), .agg #[.int .i64 (x.1.2.1 % 16), .int .i64 (x.1.2.1 / 65536), .int .i64 (x.1.2.1 % 65536 / 16)]]
def obOf {obs : List Ob} (x : At obs) : Ob := x.1.2

set_option maxRecDepth 100000 in
set_option maxHeartbeats 2000000 in
theorem walk_stops (n : Nat) (hn : 1 ≤ n) (g gw gb bh : Nat) (obs : List Ob) (tail : List Int) (w : World) (S0 : St w g gw gb obs tail) (hb0 : Lies w bh 26 [.pointer (some ⟨g, 0, none⟩)]) :
    SeqStopsK Fence.wide n Try.prog 50 #[.pointer (some ⟨bh, 0, none⟩)] (fun x : At obs => encAt x) KeepsCells (fun xs => xs.map obOf = obs) (fun pre => True) (obs.length + 1) w := fun l J Jx W hW hJ hJx hY h0 => by
  have HY := Lib.hid hY
  have HJ := Lib.hid hJ
  clear hY hJ hJx
  refine callsIn_of_wp Try.func50 rfl trivial ?_ rfl
  simp only [Try.ntmps50, List.size_toArray, List.length_cons, List.length_nil, Nat.reduceAdd, Nat.reduceSub, Array.replicate_succ, Array.replicate_zero, List.push_toArray, List.append_toArray, List.nil_append, List.cons_append]
  gi_wp2
  gi_loopw [3] (fun i wr => ∃ (xs : List (At obs)) (post : List Ob), obs = xs.map obOf ++ post ∧ i = .int .i64 ((flat (xs.map obOf)).length : Nat) ∧ J xs wr ∧ St wr g gw gb obs tail ∧ Lies wr bh 26 [.pointer (some ⟨g, 0, none⟩)]) (fun i _ => (flat obs).length - (intOf i).toNat)
  case atStart =>
    exact ⟨[], obs, rfl, rfl, h0, S0.kept hW, hb0.below hW hb0.lt⟩
  case round =>
    obtain ⟨xs, post, hobs, rfl, hj, S, hb⟩ := hrel
    have x0 : wr.cell? ⟨bh, 0, none⟩ = some (.pointer (some ⟨g, 0, none⟩)) := hb.cell 0
    have x1 := S.lies.c1
    obtain ⟨N, hN⟩ : ∃ N, (flat (xs.map obOf)).length = N := ⟨_, rfl⟩
    obtain ⟨M, hM⟩ : ∃ M, (flat obs).length = M := ⟨_, rfl⟩
    rw [hN]
    rw [hM] at x1 ⊢
    have HN := Lib.hid hN
    have HM := Lib.hid hM
    have HO := Lib.hid hobs
    clear hN hM hobs
    cases post with
    | nil =>
      have hNM : N = M := by rw [← HN.out, ← HM.out]; conv => rhs; rw [HO.out, List.append_nil]
      subst hNM
      gi_wp2
      go_end0
      exact ⟨⟨_, rfl⟩, .inl ⟨xs, by rw [← List.append_nil (xs.map obOf)]; exact HO.out.symm, hj⟩⟩
    | cons o post =>
      have hNM : N < M := by rw [← HN.out, ← HM.out]; conv => rhs; rw [HO.out]
                             simp [flat_append, flat_cons]
      have hl := S.lies.most
      have hl2 : M ≤ 65536 := by rw [← HM.out]; simp at hl; omega
      have SO : St wr g gw gb (xs.map obOf ++ o :: post) tail := by rw [← HO.out]; exact S
      have hhd := SO.fine.right.head
      have hz0 : 0 ≤ o.1 / 65536 := by have := head_nn hhd.1; omega
      have hz1 : o.1 / 65536 ≤ 4095 := by have := len_le hhd.1; unfold lenOf at this; omega
      obtain ⟨X, hX⟩ : ∃ X : At obs, X = ⟨(N, o), xs.map obOf, post, HO.out, HN.out.symm⟩ := ⟨_, rfl⟩
      have hX1 : obOf X = o := by rw [hX]; rfl
      have hX2 : encAt X = #[.int .i64 (N : Nat), .agg #[.int .i64 (o.1 % 16), .int .i64 (o.1 / 65536), .int .i64 (o.1 % 65536 / 16)]] := by rw [hX]; rfl
      have hxl : xs.length < obs.length + 1 := by have := congrArg List.length HO.out; simp at this; omega
      have HX1 := Lib.hid hX1
      have HX2 := Lib.hid hX2
      clear hX hX1 hX2
      gi_wp2_with fail
      refine ⟨trivial, (callsIn_wide.2 (head_st SO N HN.out)).mono ?_⟩
      rintro e w2 ⟨rfl, hb2⟩
      have B2 := hb2.alloc hb2.size (.cells #[.int .i64 (o.1 % 16), .int .i64 (o.1 / 65536), .int .i64 (o.1 % 65536 / 16)] 40)
      obtain ⟨fn, tmps, assign, body, hy, hR⟩ := HY.out xs X _ (abide HJ.out hj B2) hxl
      rw [HX2.out] at hy
      have box2 := Lies.new w2 40 [.int .i64 (o.1 % 16), .int .i64 (o.1 / 65536), .int .i64 (o.1 % 65536 / 16)]
      have el : (flat ((xs ++ [X]).map obOf)).length = N + 1 + (o.1 / 65536).toNat := by
        have := hhd.2; unfold lenOf at this
        rw [List.map_append, flat_append, List.map_cons, List.map_nil, flat_cons, flat_nil, HX1.out]; simp [HN.out]; omega
      have HEl := Lib.hid el
      have S2 := (S.kept hb2).alloc (.cells #[.int .i64 (o.1 % 16), .int .i64 (o.1 / 65536), .int .i64 (o.1 % 65536 / 16)] 40)
      have hbb2 := (hb.below hb2 hb.lt).alloc (.cells #[.int .i64 (o.1 % 16), .int .i64 (o.1 / 65536), .int .i64 (o.1 % 65536 / 16)] 40)
      clear el hhd SO HX2
      have HR := Lib.hid hR
      clear hR
      generalize o.1 / 65536 = q at *
      generalize o.1 % 65536 / 16 = r at *
      generalize o.1 % 16 = s at *
      gi_wp2
      refine HR.out.mono ?_
      rintro e w3 (⟨rfl, hj3, hk3⟩ | ⟨rfl, hx3⟩)
      · have S3 := S2.keptC hk3
        have hbb3 := hbb2.keptC hk3
        have box3 := box2.keptC hk3
        have y0 : w3.cell? ⟨w2.heap.size, 0, none⟩ = some (.int .i64 s) := box3.cell 0
        have y1 : w3.cell? ⟨w2.heap.size, 1, none⟩ = some (.int .i64 q) := box3.cell 1
        have y2 : w3.cell? ⟨w2.heap.size, 2, none⟩ = some (.int .i64 r) := box3.cell 2
        clear HR hy x0 x1
        gi_wp2_with fail
        refine ⟨trivial, (callsIn_wide.2 (room_i s q r _ hz0 hz1)).mono ?_⟩
        rintro e w4 ⟨rfl, hb4⟩
        have hj4 := abide HJ.out hj3 hb4
        have S4 := S3.kept hb4
        have hbb4 := hbb3.below hb4 hbb3.lt
        gi_wp2
        refine ⟨⟨xs ++ [X], post, ?_, ?_, hj4, S4, hbb4⟩, ?_⟩
        · have := HO.out
          rw [List.map_append, List.map_cons, List.map_nil, HX1.out, List.append_assoc]
          exact this
        · rw [HEl.out]; exact congrArg (Value.int .i64) (by omega)
        · simp [intOf]; omega
      · clear HR hy x0 x1
        gi_wp2
        refine bodyPost_ret (results_none rfl _ _ _) rfl ?_
        exact ⟨⟨_, rfl⟩, .inr ⟨_, trivial, hx3⟩⟩
end Go.Proofs.Ytibfhpbklnpknaa

namespace Go.Proofs.Ytibfhpbklnpknaa
open Go.RowKit
set_option linter.unusedVariables false
set_option linter.unusedSimpArgs false

theorem enter47 (args : Array Value) (W : World) : (callFunc 44 args).run Try.prog W = .ok (.enter 44 args) W := by
  simp [callFunc, go_sem, Try.func44]
  kernel_rfl

def InR (v : Int) : Prop := -9223372036854775808 ≤ v ∧ v ≤ 9223372036854775807

theorem astray_st {w : World} {g gw gb : Nat} {obs : List Ob} {tail : List Int} (S : St w g gw gb obs tail) (v : Int) (hv : InR v) :
    Calls Try.prog 44 #[.pointer (some ⟨g, 0, none⟩), .int .i64 v] w fun e w' => e = .returned (.bool (astrayO obs v)) ∧ Below w.heap.size w w' := by
  have := astray_any S.lies S.sound v hv.1 hv.2
  rw [astray_eq] at this
  exact this

set_option maxHeartbeats 1000000 in
theorem index_any {w : World} {g gw gb : Nat} {obs : List Ob} {tail : List Int} (S : St w g gw gb obs tail) (A : Option Addr) (c : Nat) (ys : List Int) (hr : Row w A ys) (hn : ys.length ≤ 65536) (hw : ∀ v ∈ ys, InR v) :
    Calls Try.prog 55 #[.slice A ys.length c, .func (.func 44) #[.pointer (some ⟨g, 0, none⟩)] #[]] w fun e w' => (∃ i : Int, e = .returned (.int .i64 i) ∧ (ys.any (astrayO obs) = true ↔ 0 ≤ i)) ∧ Below w.heap.size w w' := by
  have HW := Lib.hid hw
  have HR := Lib.hid hr
  have HA : Hid (∃ B : Bool, ys.any (astrayO obs) = B) := ⟨_, rfl⟩
  clear hw hr
  go_enter Try.func55, Try.ntmps55
  go_wp2
  go_loopw [8] (fun i wr => ∃ k : Nat, k ≤ ys.length ∧ i = .int .i64 k ∧ (ys.take k).any (astrayO obs) = false ∧ Below w.heap.size w wr) (fun i _ => ys.length - (intOf i).toNat)
  case atStart => exact ⟨0, Nat.zero_le _, rfl, rfl, Below.refl _ _⟩
  case round =>
    obtain ⟨k, hk, rfl, hall, BB⟩ := hrel
    have HL := Lib.hid hall
    clear hall
    by_cases hlt : k < ys.length
    · obtain ⟨ad, rfl, hcx⟩ := (HR.out.kept BB).at_ hlt
      have e0 : ys.getD k 0 = ys[k] := by simp [List.getD, hlt]
      rw [e0] at hcx
      have hin := HW.out ys[k] (List.getElem_mem hlt)
      have hk0 : (0 : Int) ≤ (k : Int) := by omega
      have hk1 : (k : Int) < (ys.length : Int) := by omega
      have hnx : (ys.take (k + 1)).any (astrayO obs) = astrayO obs ys[k] := by
        rw [List.take_succ_eq_append_getElem hlt, List.any_append, HL.out]; simp
      have HNx := Lib.hid hnx
      have Sr := S.kept BB
      have hyes : astrayO obs ys[k] = true → ys.any (astrayO obs) = true := fun h => List.any_eq_true.2 ⟨ys[k], List.getElem_mem hlt, h⟩
      have HYs := Lib.hid hyes
      clear hnx hyes e0
      generalize ys[k] = v at *
      have hent := enter47
      go_wp2_with fail
      refine (astray_st Sr v hin).mono ?_
      rintro e w2 ⟨rfl, hb2⟩
      have B2 := on BB BB.size hb2
      cases hb : astrayO obs v with
      | false =>
        rw [hb] at HNx
        go_wp2
        exact ⟨⟨k + 1, by omega, by go_num, HNx.out, B2⟩, by simp [intOf]; omega⟩
      | true =>
        go_wp2
        go_ret
        exact ⟨⟨k, rfl, ⟨fun _ => hk0, fun _ => HYs.out hb⟩⟩, B2⟩
    · have hall : ys.any (astrayO obs) = false := by
        have := HL.out
        rwa [List.take_of_length_le (by omega)] at this
      have HAll := Lib.hid hall
      clear hall
      go_wp2
      go_ret
      exact ⟨⟨-1, rfl, ⟨(fun h => by rw [HAll.out] at h; exact Bool.noConfusion h), (fun h => by omega)⟩⟩, BB⟩

set_option maxHeartbeats 1000000 in
theorem contains_any {w : World} {g gw gb : Nat} {obs : List Ob} {tail : List Int} (S : St w g gw gb obs tail) (A : Option Addr) (c : Nat) (ys : List Int) (hr : Row w A ys) (hn : ys.length ≤ 65536) (hw : ∀ v ∈ ys, InR v) :
    Calls Try.prog 45 #[.slice A ys.length c, .func (.func 44) #[.pointer (some ⟨g, 0, none⟩)] #[]] w fun e w' => e = .returned (.bool (ys.any (astrayO obs))) ∧ Below w.heap.size w w' := by
  go_enter Try.func45, Try.ntmps45
  go_wp2_with fail
  refine (index_any S A c ys hr hn hw).mono ?_
  rintro e w2 ⟨⟨i, rfl, hi⟩, hb2⟩
  have HI := Lib.hid hi
  clear hi
  by_cases h0 : 0 ≤ i
  · go_wp2
    go_ret
    exact ⟨ret_bool (by rw [HI.out.2 h0]), hb2⟩
  · have h1 : decide (0 ≤ i) = false := decide_eq_false h0
    go_wp2
    go_ret
    exact ⟨ret_bool (by cases hb : ys.any (astrayO obs) with | false => rfl | true => exact absurd (HI.out.1 hb) (by omega)), hb2⟩
end Go.Proofs.Ytibfhpbklnpknaa

namespace Go.Proofs.Ytibfhpbklnpknaa
open Go.RowKit Go.Sort
set_option linter.unusedVariables false
set_option linter.unusedSimpArgs false

/-- No operation is a deferred call. -/
def noDefers (l : List Oper) : Bool := l.all fun o => match o.op with | .defer _ => false | _ => true

theorem noDefers_spec {l : List Oper} (h : noDefers l = true) {i : Nat} {o : Oper} (hi : l.toArray[i]? = some o) (c : Call) : o.op ≠ .defer c := by
  intro e
  have hm : o ∈ l := by
    have : l[i]? = some o := by simpa using hi
    exact List.mem_of_getElem? this
  have := List.all_eq_true.1 h o hm
  rw [e] at this
  cases this

theorem any_round {F : Fence} {n : Nat} {P : Program} {md : Region.Mode} {ops : Array Oper} {Q : Exit → Act → World → Prop} {r : Nat} (hro : F.round = none) (hd : ∀ (i : Nat) (o : Oper), ops[i]? = some o → ∀ c, o.op ≠ .defer c) :
    ∀ (fuel : Nat) (listed : Array Bool) (a : Act) (w : World), wpAnyIn F n P md ops Q fuel listed a w → wpAnyIn (F.inRound r) n P md ops Q fuel listed a w
  | 0, _, _, _, h => h
  | fuel + 1, listed, a, w, h => by
    refine ⟨h.1, fun i hi => ?_⟩
    have h2 := h.2 i hi
    have h3 : wpOpIn F n P ops Q i (wpAnyIn (F.inRound r) n P md ops Q fuel (listed.setIfInBounds i true)) a w := wpOpIn_mono (fun a' w' => any_round hro hd fuel _ a' w') h2
    unfold wpOpIn at h3 ⊢
    cases ho : ops[i]? with
    | none => rw [ho] at h3; exact h3
    | some o =>
      rw [ho] at h3
      simp only at h3 ⊢
      split
      · next hw =>
        rw [if_pos hw] at h3
        unfold Oper.wpIn at h3 ⊢
        refine ⟨h3.1, ?_⟩
        have h4 := h3.2
        rw [Oper.semAt_eq _ _ _ (hd i o ho)] at h4 ⊢
        exact h4
      · next hw =>
        rw [if_neg hw] at h3
        exact h3

theorem quiet_round {n : Nat} {P : Program} {id : Nat} {Q : Exit → Act → World → Prop} {a : Act} {w : World} {l : List Oper} (r : Nat) (hm : P.follows .mixedOrders = true) (hB : Region.lexB .any l.toArray = true) (hd : noDefers l = true)
    (h : wpQuietIn Fence.wide n P l.toArray (fun w' => ∃ p : Regrown, w' = grow (redrawn w p.d) p.os) (fun a' => ∀ w', (∃ p : Regrown, w' = grow (redrawn w p.d) p.os) → Q .normal a' w') l a) : (Code.region id l.toArray true).wpIn (Fence.wide.inRound r) n P Q a w := by
  simp only [Region.lexB, Bool.and_eq_true] at hB
  refine wpIn_region_any hm (any_round rfl (fun i o hi c => noDefers_spec hd hi c) _ _ _ _ (wpAnyIn_of_quiet (C := fun w' => ∃ p : Regrown, w' = grow (redrawn w p.d) p.os) (Q := fun a' => ∀ w', (∃ p : Regrown, w' = grow (redrawn w p.d) p.os) → Q .normal a' w') rfl (fun _ w' hw' h => h w' hw') _ _ _ _ ⟨⟨w.drawn + 1, #[]⟩, by rw [grow_empty]; rfl⟩ ?_))
  have := wpAnyQIn_lex (F := Fence.wide) (n := n) (P := P) (C := fun w' => ∃ p : Regrown, w' = grow (redrawn w p.d) p.os) (Q := fun a' => ∀ w', (∃ p : Regrown, w' = grow (redrawn w p.d) p.os) → Q .normal a' w') (md := .any) hB.1 l 0 (Array.replicate l.toArray.size false) a (by simp) (by simpa using hB.2) h
  simpa using this
end Go.Proofs.Ytibfhpbklnpknaa

namespace Go.Proofs.Ytibfhpbklnpknaa
open Go.RowKit Go.Shelf Go.Sort
set_option linter.unusedVariables false
set_option linter.unusedSimpArgs false
attribute [local go_sem] Oper.semAt_some

theorem store_func (P : Program) (w : World) (a : Addr) (m : Mode) (f : Fn) (b c : Array Value) : (store a (.func f b c) m).run P w = stored P w a (.func f b c) m := run_store P w a _ m rfl
attribute [local go_sem] store_func

theorem Lies.grown {W W' : World} {k : Nat} {t : TypeId} {cs : List Value} {row : Option Nat} (h : Lies W k t cs) (hg : W.grownBy W' row) (hr : ∀ r, row = some r → ∃ o : Obj, W.heap[r]? = some o ∧ o.isCells = false) : Lies W' k t cs := by
  refine h.of_block (hg.block k h.lt fun e => ?_)
  obtain ⟨o, ho, hc⟩ := hr k e.symm
  unfold Lies at h
  rw [h] at ho
  injection ho with ho
  subst ho
  simp [Obj.isCells] at hc
theorem St.grown {W W' : World} {g gw gb : Nat} {obs : List Ob} {tail : List Int} {row : Option Nat} (h : St W g gw gb obs tail) (hg : W.grownBy W' row) (hr : ∀ r, row = some r → ∃ o : Obj, W.heap[r]? = some o ∧ o.isCells = false) : St W' g gw gb obs tail :=
  ⟨h.fine, h.lies.own.grown hg hr, h.lies.words.grown hg hr, h.lies.begins.grown hg hr, h.lies.same, h.lies.some_, h.lies.most, h.lies.fits⟩

/-- How many of an object's words lead to others. -/
def ptrs (n : Int) : Nat := (n % 65536 / 16).toNat
/-- Does one of an object's references lead astray? -/
def badOb (obs : List Ob) (o : Ob) : Bool := (o.2.take (ptrs o.1)).any (astrayO obs)
def badB (obs : List Ob) : Bool := obs.any (badOb obs)
/-- What Check answers. -/
def checkV (obs : List Ob) : Int := if badB obs = true then 5 else 0

def Within (obs : List Ob) : Prop := ∀ o ∈ obs, ∀ v ∈ o.2, InR v

theorem contains_m {w : World} {g gw gb : Nat} {obs : List Ob} {tail : List Int} (S : St w g gw gb obs tail) (A : Option Addr) (c n : Nat) (ys : List Int) (hr : Row w A ys) (hl : ys.length = n) (hn : n ≤ 65536) (hw : ∀ v ∈ ys, InR v) (b : Bool) (hb : ys.any (astrayO obs) = b) :
    Calls Try.prog 45 #[.slice A n c, .func (.func 44) #[.pointer (some ⟨g, 0, none⟩)] #[]] w fun e w' => e = .returned (.bool b) ∧ Below w.heap.size w w' := by
  subst hl hb
  exact contains_any S A c ys hr hn hw

/-- Between two rounds. -/
structure CkI (w : World) (g gw gb : Nat) (obs : List Ob) (tail : List Int) (pre : List (At obs)) (W : World) : Prop where
  st : St W g gw gb obs tail
  box : Lies W w.heap.size 26 [.pointer (some ⟨g, 0, none⟩)]
  res : Lies W (w.heap.size + 1) 27 [.int .i64 0]
  fn : Lies W (w.heap.size + 1 + 1) 67 [.func (.func 44) #[.pointer (some ⟨g, 0, none⟩)] #[]]
  old : Below w.heap.size w W
  good : (pre.map obOf).any (badOb obs) = false
/-- Behind a round that left. -/
structure CkX (w : World) (obs : List Ob) (c : Code) (pre : List (At obs)) (W : World) : Prop where
  ret : c = .ret
  res : Lies W (w.heap.size + 1) 27 [.int .i64 5]
  old : Below w.heap.size w W
  bad : badB obs = true

theorem below_grown {w W W' : World} {B : Nat} {row : Option Nat} (h : Below w.heap.size w W) (hB : w.heap.size ≤ B) (hg : W.grownBy W' row) (hr : ∀ r, row = some r → B ≤ r ∧ ∃ o : Obj, W.heap[r]? = some o ∧ o.isCells = false) : Below w.heap.size w W' :=
  h.grown hg h.size (fun k e => by have := (hr k e).1; omega)

theorem keepsFrom_below {W w2 : World} (B : Nat) (h : Below W.heap.size W w2) : KeepsFrom B W w2 := ⟨h.size, fun k o _ hk _ => (h.block k (Array.getElem?_eq_some_iff.1 hk).1).trans hk⟩
theorem CkI.next {w W w2 : World} {g gw gb : Nat} {obs : List Ob} {tail : List Int} {pre : List (At obs)} {x : At obs} (h : CkI w g gw gb obs tail pre W) (hb : Below W.heap.size W w2) (hx : badOb obs (obOf x) = false) : CkI w g gw gb obs tail (pre ++ [x]) w2 :=
  ⟨h.st.kept hb, h.box.below hb h.box.lt, h.res.below hb h.res.lt, h.fn.below hb h.fn.lt, on h.old h.old.size hb, by rw [List.map_append, List.any_append, h.good]; simp [hx]⟩

set_option maxRecDepth 100000 in
set_option maxHeartbeats 1000000 in
theorem check_in {w : World} {g gw gb : Nat} {obs : List Ob} {tail : List Int} (S : St w g gw gb obs tail) (hW : Within obs) :
    CallsIn Fence.wide 5 Try.prog 22 #[.pointer (some ⟨g, 0, none⟩)] w fun e w' => e = .returned (.int .i64 (checkV obs)) ∧ Below w.heap.size w w' := by
  have HW := Lib.hid hW
  clear hW
  refine callsIn_of_wp_marks Try.func22 rfl trivial ?_ rfl
  simp only [Try.ntmps22, List.size_toArray, List.length_cons, List.length_nil, Nat.reduceAdd, Nat.reduceSub, Array.replicate_succ, Array.replicate_zero, List.push_toArray, List.append_toArray, List.nil_append, List.cons_append]
  gi_wp2_with fail
  refine ⟨trivial, (callsIn_wide.2 walk_any).mono ?_⟩
  rintro e w2 ⟨rfl, rfl⟩
  gi_wp2_with fail
  obtain ⟨W0, hW0⟩ : ∃ W0, (((w.alloc (.cells #[.pointer (some ⟨g, 0, none⟩)] 26)).alloc (.cells #[.int .i64 0] 27)).alloc (.cells #[.func (.func 44) #[.pointer (some ⟨g, 0, none⟩)] #[]] 67)).alloc (.cells #[.pointer (some ⟨g, 0, none⟩)] 26) = W0 := ⟨_, rfl⟩
  have hsz : W0.heap.size = w.heap.size + 1 + 1 + 1 + 1 := by rw [← hW0]; simp
  have hI0 : CkI w g gw gb obs tail [] W0 := by
    rw [← hW0]
    refine ⟨(((S.alloc _).alloc _).alloc _).alloc _, (((Lies.new w 26 [.pointer (some ⟨g, 0, none⟩)]).alloc _).alloc _).alloc _, ?_, ?_, ((((Below.refl _ w).alloc (Nat.le_refl _) _).alloc (by simp) _).alloc (by simp; omega) _).alloc (by simp; omega) _, rfl⟩
    · have := ((Lies.new (w.alloc (.cells #[.pointer (some ⟨g, 0, none⟩)] 26)) 27 [.int .i64 0]).alloc (.cells #[.func (.func 44) #[.pointer (some ⟨g, 0, none⟩)] #[]] 67)).alloc (.cells #[.pointer (some ⟨g, 0, none⟩)] 26)
      simpa using this
    · have := (Lies.new ((w.alloc (.cells #[.pointer (some ⟨g, 0, none⟩)] 26)).alloc (.cells #[.int .i64 0] 27)) 67 [.func (.func 44) #[.pointer (some ⟨g, 0, none⟩)] #[]]).alloc (.cells #[.pointer (some ⟨g, 0, none⟩)] 26)
      simpa using this
  have hwb : Lies W0 (w.heap.size + 1 + 1 + 1) 26 [.pointer (some ⟨g, 0, none⟩)] := by
    rw [← hW0]
    have := Lies.new (((w.alloc (.cells #[.pointer (some ⟨g, 0, none⟩)] 26)).alloc (.cells #[.int .i64 0] 27)).alloc (.cells #[.func (.func 44) #[.pointer (some ⟨g, 0, none⟩)] #[]] 67)) 26 [.pointer (some ⟨g, 0, none⟩)]
    simpa using this
  rw [hW0]
  have HS := Lib.hid hsz
  clear hW0 hsz
  refine wpIn_rangeFunc_ownH rfl (by omega) (gf := 50) (lb := #[.pointer (some ⟨w.heap.size + 1 + 1 + 1, 0, none⟩)]) rfl trivial (enters_of Try.func50 (by kernel_rfl) rfl)
    (walk_stops 4 (by omega) g gw gb (w.heap.size + 1 + 1 + 1) obs tail W0 hI0.st hwb) KeepsCells.trans KeepsCells.put (Below.refl _ _) (fun _ => rfl)
    (CkI w g gw gb obs tail) (CkX w obs)
    (fun s A B row hs hg hr => ⟨hs.st.grown hg (fun r e => (hr r e).2), hs.box.grown hg (fun r e => (hr r e).2), hs.res.grown hg (fun r e => (hr r e).2), hs.fn.grown hg (fun r e => (hr r e).2), below_grown hs.old (by rw [HS.out]; omega) hg hr, hs.good⟩)
    (fun c s A B row hs hg hr => ⟨hs.ret, hs.res.grown hg (fun r e => (hr r e).2), below_grown hs.old (by rw [HS.out]; omega) hg hr, hs.bad⟩)
    hI0
    (fun x a' W => ∃ Bx, Lies W Bx 40 [.int .i64 (x.1.2.1 % 16), .int .i64 (x.1.2.1 / 65536), .int .i64 (x.1.2.1 % 65536 / 16)] ∧ Bx ≠ w.heap.size + 1 ∧ a' = { tmps := #[.pointer (some ⟨g, 0, none⟩), .pointer (some ⟨w.heap.size, 0, none⟩), .pointer (some ⟨w.heap.size + 1, 0, none⟩), .pointer (some ⟨w.heap.size + 1 + 1, 0, none⟩), .int .i64 (x.1.1 : Nat), .pointer (some ⟨Bx, 0, none⟩), .pointer (some ⟨g, 0, none⟩), .func (.func 44) #[.pointer (some ⟨g, 0, none⟩)] #[], .pointer (some ⟨g, 0, none⟩), .func (.func 50) #[] #[.pointer (some ⟨w.heap.size + 1 + 1 + 1, 0, none⟩)], .int .i64 (x.1.1 : Nat), .agg #[.int .i64 (x.1.2.1 % 16), .int .i64 (x.1.2.1 / 65536), .int .i64 (x.1.2.1 % 65536 / 16)], undef, undef, undef, undef, undef, undef, undef, undef, undef, undef, undef, undef, undef, undef], defers := [] })
    (fun x a' s A B row hs hg hr => by obtain ⟨Bx, h1, h2, h3⟩ := hs; exact ⟨Bx, h1.grown hg (fun r e => (hr r e).2), h2, h3⟩) ?assign ?body ?done ?stop
  case assign =>
    rintro l pre x W K hi hK
    dsimp only [encAt]
    gi_wp2
    have hlt := hi.res.lt
    refine hK _ _ ((KeepsOthers.alloc _ _).from _) (KeepsCells.of_below ((Below.refl _ W).alloc (Nat.le_refl _) _)) ⟨hi.st.alloc _, hi.box.alloc _, hi.res.alloc _, hi.fn.alloc _, hi.old.alloc hi.old.size _, hi.good⟩ ⟨W.heap.size, Lies.new W 40 [_, _, _], by omega, rfl⟩
  case body =>
    rintro l pre x a' W hl ⟨r, hr⟩ hi ⟨Bx, hBx, hne, rfl⟩ hlt
    obtain ⟨pre0, post0, ho, hN⟩ := x.2
    have hxo : obOf x = x.1.2 := rfl
    obtain ⟨N, hN0⟩ : ∃ N, x.1.1 = N := ⟨_, rfl⟩
    obtain ⟨o, ho0⟩ : ∃ o, x.1.2 = o := ⟨_, rfl⟩
    rw [hN0] at hN ⊢
    rw [ho0] at ho hBx hxo ⊢
    have HX := Lib.hid hxo
    clear hxo hN0 ho0
    have x0 : W.cell? ⟨w.heap.size, 0, none⟩ = some (.pointer (some ⟨g, 0, none⟩)) := hi.box.cell 0
    have x1 : W.cell? ⟨w.heap.size + 1 + 1, 0, none⟩ = some (.func (.func 44) #[.pointer (some ⟨g, 0, none⟩)] #[]) := hi.fn.cell 0
    have x2 := hi.st.lies.c0
    have x3 : W.cell? ⟨Bx, 2, none⟩ = some (.int .i64 (o.1 % 65536 / 16)) := hBx.cell 2
    obtain ⟨Z, hZ⟩ : ∃ Z, (flat obs ++ tail).length = Z := ⟨_, rfl⟩
    have hfine : Fine (pre0 ++ o :: post0) := by rw [← ho]; exact hi.st.fine
    have hhd := hfine.right.head
    obtain ⟨_, _, _, _, hp0, hp1, _⟩ := (good_iff _ _ _).1 (head_good hhd.1)
    obtain ⟨P, hP⟩ := Int.eq_ofNat_of_zero_le hp0
    have hP' : ptrs o.1 = P := by unfold ptrs; rw [hP]; simp
    have hPl : P ≤ o.2.length := by have := hhd.2; unfold lenOf at this; omega
    have hfit : N + 1 + o.2.length ≤ (flat obs).length := by rw [ho, hN]; simp [flat_append, flat_cons]; omega
    have hZ0 : N + 1 + P ≤ Z := by rw [← hZ]; simp; omega
    have hZ1 : Z ≤ 65536 := by rw [← hZ]; exact hi.st.lies.most
    rw [hZ] at x2
    rw [hP] at x3
    have hys : ((flat obs ++ tail).drop (N + 1)).take P = o.2.take P := by
      rw [ho, flat_append, flat_cons, hN]
      simp [List.drop_append, List.take_append, hPl]
    have hRow : Row W (if Z = N + 1 then some ⟨gw, 0, none⟩ else some ⟨gw, N + 1, none⟩) (o.2.take P) := by
      intro h0
      have hP0 : 0 < P := by simp at h0; omega
      rw [if_neg (by omega)]
      refine ⟨_, rfl, hi.st.lies.words.lt, fun i v hv => ?_⟩
      have e : (⟨gw, N + 1, none⟩ : Addr).add i = ⟨gw, N + 1 + i, none⟩ := by unfold Addr.add; split <;> simp_all
      rw [e, hi.st.lies.words.cell, ← hv, ← hys]
      simp only [List.map_take, List.map_drop, List.getElem?_take, List.getElem?_drop]
      have : i < P := by
        have := (List.getElem?_eq_some_iff.1 hv).1
        simp at this; omega
      rw [if_pos this]
    have hin : ∀ v ∈ o.2.take P, InR v := fun v hv => HW.out o (by rw [ho]; simp) v (List.mem_of_mem_take hv)
    have hlen : (o.2.take P).length = P := by simp; omega
    have hob : (o.2.take P).any (astrayO obs) = badOb obs o := by unfold badOb; rw [hP']
    have HRow := Lib.hid hRow
    have HIn := Lib.hid hin
    have HLen := Lib.hid hlen
    have HOb := Lib.hid hob
    have HO := Lib.hid ho
    clear hRow hin hlen hob hys ho hN hP hP' hZ hp0 hp1 hhd hfine hfit hPl
    have b1 : IntKind.i64.wrap ((N : Int) + 1) = (N : Int) + 1 := IntWalk.i64_in _ (by omega)
    have b2 : IntKind.i64.wrap ((N : Int) + 1 + (P : Int)) = (N : Int) + 1 + (P : Int) := IntWalk.i64_in _ (by omega)
    have b3 : (0 : Int) ≤ (N : Int) + 1 := by omega
    have b4 : (N : Int) + 1 ≤ (N : Int) + 1 + (P : Int) := by omega
    have b5 : (N : Int) + 1 + (P : Int) ≤ (Z : Int) := by omega
    have b6 : ((N : Int) + 1).toNat = N + 1 := by omega
    have b7 : ((N : Int) + 1 + (P : Int)).toNat = N + 1 + P := by omega
    have hmx : Try.prog.follows .mixedOrders = true := by kernel_rfl
    have y1 := hi.res.cell 0
    have y2 := hi.res.frozen 0
    by_cases hcap : Z = N + 1
    · rw [if_pos hcap] at HRow
      subst hcap
      obtain rfl : P = 0 := by omega
      have X0 := fun d os => cell_regrown x0 d os
      have X1 := fun d os => cell_regrown x1 d os
      have X2 := fun d os => cell_regrown x2 d os
      have X3 := fun d os => cell_regrown x3 d os
      have HC : ∀ d os, Hid (CallsIn Fence.wide 2 Try.prog 45 #[.slice (some ⟨gw, 0, none⟩) 0 0, .func (.func 44) #[.pointer (some ⟨g, 0, none⟩)] #[]] (grow (redrawn W d) os) fun e w' => e = .returned (.bool (badOb obs o)) ∧ Below (grow (redrawn W d) os).heap.size (grow (redrawn W d) os) w') := fun d os =>
        Lib.hid ((callsIn_wide (n := 2)).2 (contains_m (hi.st.kept (below_regrown W d os)) (some ⟨gw, 0, none⟩) 0 0 (o.2.take 0) (HRow.out.kept (below_regrown W d os)) HLen.out (by omega) HIn.out (badOb obs o) HOb.out))
      clear x0 x1 x2 x3
      gi_wp2_with fail
      refine quiet_round l (by kernel_rfl) (by kernel_rfl) rfl ?_
      quiet_step_in (fail)
      quiet_step_in (fail)
      quiet_step_in (fail)
      quiet_step_in (fail)
      quiet_step_in (fail)
      quiet_step_in (fail)
      quiet_step_in (fail)
      quiet_step_in (fail)
      quiet_step_in (fail)
      quiet_step_in (fail)
      quiet_step_in (fail)
      quiet_step_in (fail)
      quiet_step_in (fail)
      refine wpQuietIn_step (fun _ _ _ _ => trivial) (fun K hK => ?_)
      go_simp
      apply Exists.intro
      refine ⟨fun p => ?_, hK _ ?_⟩
      · exact CallsIn.regrown_of (HC p.d p.os).out
      clear hK K
      refine wpQuietIn_nil ?_
      rintro w2 ⟨p, rfl⟩
      have hb2 := below_regrown W p.d p.os
      generalize grow (redrawn W p.d) p.os = w2 at *
      have R2 := hi.res.below hb2 hi.res.lt
      have z1 : w2.cell? ⟨w.heap.size + 1, 0, none⟩ = some (.int .i64 0) := R2.cell 0
      have z2 : w2.frozen? ⟨w.heap.size + 1, 0, none⟩ = false := R2.frozen 0
      clear X0 X1 X2 X3 HC y1 y2
      cases hbad : badOb obs o with
      | false =>
        gi_wp2
        exact ⟨keepsFrom_below _ hb2, KeepsCells.of_below hb2, hi.next hb2 (by rw [HX.out]; exact hbad)⟩
      | true =>
        gi_wp2
        exact ⟨(keepsFrom_below _ hb2).trans ((KeepsOthers.setCell _ _ _).from _), rfl, R2.set 0 _, (on hi.old hi.old.size hb2).setCell (by simp) _, List.any_eq_true.2 ⟨o, by rw [HO.out]; simp, hbad⟩⟩
    · rw [if_neg hcap] at HRow
      have X0 := fun d os => cell_regrown x0 d os
      have X1 := fun d os => cell_regrown x1 d os
      have X2 := fun d os => cell_regrown x2 d os
      have X3 := fun d os => cell_regrown x3 d os
      have HC : ∀ d os, Hid (CallsIn Fence.wide 2 Try.prog 45 #[.slice (some ⟨gw, N + 1, none⟩) P (Z - (N + 1)), .func (.func 44) #[.pointer (some ⟨g, 0, none⟩)] #[]] (grow (redrawn W d) os) fun e w' => e = .returned (.bool (badOb obs o)) ∧ Below (grow (redrawn W d) os).heap.size (grow (redrawn W d) os) w') := fun d os =>
        Lib.hid ((callsIn_wide (n := 2)).2 (contains_m (hi.st.kept (below_regrown W d os)) (some ⟨gw, N + 1, none⟩) (Z - (N + 1)) P (o.2.take P) (HRow.out.kept (below_regrown W d os)) HLen.out (by omega) HIn.out (badOb obs o) HOb.out))
      clear x0 x1 x2 x3
      gi_wp2_with fail
      refine quiet_round l (by kernel_rfl) (by kernel_rfl) rfl ?_
      quiet_step_in (fail)
      quiet_step_in (fail)
      quiet_step_in (fail)
      quiet_step_in (fail)
      quiet_step_in (fail)
      quiet_step_in (fail)
      quiet_step_in (fail)
      quiet_step_in (fail)
      quiet_step_in (fail)
      quiet_step_in (fail)
      quiet_step_in (fail)
      quiet_step_in (fail)
      quiet_step_in (fail)
      refine wpQuietIn_step (fun _ _ _ _ => trivial) (fun K hK => ?_)
      go_simp
      apply Exists.intro
      refine ⟨fun p => ?_, hK _ ?_⟩
      · exact CallsIn.regrown_of (HC p.d p.os).out
      clear hK K
      refine wpQuietIn_nil ?_
      rintro w2 ⟨p, rfl⟩
      have hb2 := below_regrown W p.d p.os
      generalize grow (redrawn W p.d) p.os = w2 at *
      have R2 := hi.res.below hb2 hi.res.lt
      have z1 : w2.cell? ⟨w.heap.size + 1, 0, none⟩ = some (.int .i64 0) := R2.cell 0
      have z2 : w2.frozen? ⟨w.heap.size + 1, 0, none⟩ = false := R2.frozen 0
      clear X0 X1 X2 X3 HC y1 y2
      cases hbad : badOb obs o with
      | false =>
        gi_wp2
        exact ⟨keepsFrom_below _ hb2, KeepsCells.of_below hb2, hi.next hb2 (by rw [HX.out]; exact hbad)⟩
      | true =>
        gi_wp2
        exact ⟨(keepsFrom_below _ hb2).trans ((KeepsOthers.setCell _ _ _).from _), rfl, R2.set 0 _, (on hi.old hi.old.size hb2).setCell (by simp) _, List.any_eq_true.2 ⟨o, by rw [HO.out]; simp, hbad⟩⟩
  case done =>
    rintro D ys W hD hys hi hK
    have y1 : W.cell? ⟨w.heap.size + 1, 0, none⟩ = some (.int .i64 0) := hi.res.cell 0
    have y2 : W.frozen? ⟨w.heap.size + 1, 0, none⟩ = false := hi.res.frozen 0
    have hbad : badB obs = false := by
      have h := hi.good
      rw [hys] at h
      exact h
    have hv : checkV obs = 0 := by unfold checkV; rw [hbad]; rfl
    have HV := Lib.hid hv
    clear hbad hys hv
    gi_wp2
    have hK' := (KeepsOthers.setCell W ⟨w.heap.size + 1, 0, none⟩ (.int .i64 0)).same D _ hK rfl
    refine ⟨by simp, .inl ⟨_, _, rfl, run_takeDeferred hK', ?_⟩⟩
    have hc5 := cell_kept (World.cell?_setCell_same' W ⟨w.heap.size + 1, 0, none⟩ (.int .i64 0) (by rw [y1]; rfl)) (grownBy_putObj' _ D (.deferred none)) (fun r e => by cases e; exact ⟨_, hK', rfl⟩)
    refine ⟨.int .i64 0, ?_, by rw [HV.out], (hi.old.setCell (p := ⟨w.heap.size + 1, 0, none⟩) (by simp) _).trans (belowK_b (w := w) (Nat.le_refl _) _ D _ _ (by rw [HS.out] at hD; omega) hK' rfl rfl)⟩
    simp [results, Try.f22, go_sem, hc5]
  case stop =>
    rintro D c pre W hD _ hx hK
    have hr := hx.ret
    subst hr
    have hv : checkV obs = 5 := by unfold checkV; rw [hx.bad]; rfl
    have HV := Lib.hid hv
    clear hv
    have y1 : W.cell? ⟨w.heap.size + 1, 0, none⟩ = some (.int .i64 5) := hx.res.cell 0
    gi_wp2
    refine ⟨by simp, .inl ⟨_, _, rfl, run_takeDeferred hK, ?_⟩⟩
    have hc5 := cell_kept y1 (grownBy_putObj' _ D (.deferred none)) (fun r e => by cases e; exact ⟨_, hK, rfl⟩)
    refine ⟨.int .i64 5, ?_, by rw [HV.out], hx.old.trans (belowK_b (w := w) (Nat.le_refl _) W D _ _ (by rw [HS.out] at hD; omega) hK rfl rfl)⟩
    simp [results, Try.f22, go_sem, hc5]

theorem check_any {w : World} {g gw gb : Nat} {obs : List Ob} {tail : List Int} (S : St w g gw gb obs tail) (hW : Within obs) :
    Calls Try.prog 22 #[.pointer (some ⟨g, 0, none⟩)] w fun e w' => e = .returned (.int .i64 (checkV obs)) ∧ Below w.heap.size w w' :=
  callsIn_wide.1 (check_in S hW)
end Go.Proofs.Ytibfhpbklnpknaa

namespace Go.Proofs.Ytibfhpbklnpknaa
open Go.RowKit Go.Sort
set_option linter.unusedVariables false
set_option linter.unusedSimpArgs false

theorem nil_ne (w : World) (g : Nat) : (binOp .eql 26 (.pointer (some ⟨g, 0, none⟩)) (.pointer none)).run Try.prog w = .ok (.bool false) w := by kernel_rfl

theorem new_st (n : Nat) (w : World) (h1 : 1 ≤ n) (h2 : n ≤ 65536) :
    Calls Try.prog 8 #[.int .i64 (n : Int)] w fun e w' => ∃ g gw gb, e = .returned (.tuple #[.pointer (some ⟨g, 0, none⟩), .int .i64 0]) ∧ Below w.heap.size w w' ∧ w.heap.size ≤ g ∧ w.heap.size ≤ gw ∧ w.heap.size ≤ gb ∧ St w' g gw gb [] (List.replicate n 0) :=
  (new_yes n w h1 h2).mono fun e w' ⟨g, gw, gb, he, hb, h3, h4, h5, H⟩ => ⟨g, gw, gb, he, hb, h3, h4, h5, fun o ho => by simp at ho, by simpa [flat_nil] using H⟩

theorem flat_rep (o : Ob) : ∀ i : Nat, (flat (List.replicate i o)).length = i * (1 + o.2.length)
  | 0 => by simp [flat_nil]
  | i + 1 => by
    rw [List.replicate_succ, flat_cons]
    simp [flat_rep o i, Nat.add_mul]
    omega

end Go.Proofs.Ytibfhpbklnpknaa

namespace Go.Proofs.Ytibfhpbklnpknaa
set_option linter.unusedVariables false
set_option linter.unusedSimpArgs false

/-- An object that is no filler begins there. -/
def Live (obs : List Ob) (a : Int) : Prop := ∃ pre o post, obs = pre ++ o :: post ∧ a = ((flat pre).length : Nat) ∧ o.1 % 16 ≠ 15

theorem astray_live {obs : List Ob} {v : Int} (h : v = 0 ∨ Live obs (v - 1)) : astrayO obs v = false := by
  unfold astrayO
  rcases h with rfl | ⟨pre, o, post, rfl, ha, hk⟩
  · simp
  · rw [ha, look_here]
    simp [hk]

theorem live_astray {obs : List Ob} {v : Int} (h : astrayO obs v = false) : v = 0 ∨ Live obs (v - 1) := by
  unfold astrayO at h
  by_cases h0 : v = 0
  · exact .inl h0
  · right
    have h1 : (v == 0) = false := by rw [beq_eq_false_iff_ne]; exact h0
    rw [h1] at h
    cases hl : look obs (v - 1) with
    | none => rw [hl] at h; simp at h
    | some x =>
      rw [hl] at h
      obtain ⟨e, ea⟩ := look_some _ _ _ hl
      exact ⟨x.1, x.2.1, x.2.2, e, ea, by simpa using h⟩

theorem live_swap {pre post mid : List Ob} {o : Ob} {a : Int} (h : Live (pre ++ o :: post) a) (hl : (flat mid).length = 1 + o.2.length) (hk : o.1 % 16 ≠ 15 → ∃ x r, mid = x :: r ∧ x.1 % 16 ≠ 15) : Live (pre ++ mid ++ post) a := by
  obtain ⟨p, x, q, he, rfl, hx⟩ := h
  rcases List.append_eq_append_iff.1 he with ⟨t, e1, e2⟩ | ⟨t, e1, e2⟩
  · cases t with
    | nil =>
      simp at e1 e2
      obtain ⟨rfl, rfl⟩ := e2
      obtain ⟨y, r, rfl, hy⟩ := hk hx
      exact ⟨pre, y, r ++ post, by simp, by rw [e1], hy⟩
    | cons y t =>
      simp at e2
      obtain ⟨rfl, rfl⟩ := e2
      refine ⟨pre ++ mid ++ t, x, q, by simp, ?_, hx⟩
      rw [e1]
      simp [flat_append, flat_cons]
      omega
  · cases t with
    | nil =>
      simp at e1 e2
      obtain ⟨rfl, rfl⟩ := e2
      obtain ⟨y, r, rfl, hy⟩ := hk hx
      exact ⟨pre, y, r ++ q, by simp, by rw [e1], hy⟩
    | cons y t =>
      simp at e2
      obtain ⟨rfl, rfl⟩ := e2
      exact ⟨p, x, t ++ (mid ++ post), by rw [e1]; simp, rfl, hx⟩

theorem live_more {obs more : List Ob} {a : Int} (h : Live obs a) : Live (obs ++ more) a := by
  obtain ⟨p, x, q, rfl, ha, hx⟩ := h
  exact ⟨p, x, q ++ more, by simp, ha, hx⟩

def CleanOb (obs : List Ob) (o : Ob) : Prop := (∀ v ∈ o.2, InR v) ∧ ∀ v ∈ o.2.take (ptrs o.1), v = 0 ∨ Live obs (v - 1)
def Clean (obs : List Ob) : Prop := ∀ o ∈ obs, CleanOb obs o

theorem Clean.within {obs : List Ob} (h : Clean obs) : Within obs := fun o ho => (h o ho).1
theorem Clean.check {obs : List Ob} (h : Clean obs) : checkV obs = 0 := by
  have hb : badB obs = false := by
    unfold badB
    rw [List.any_eq_false]
    intro o ho
    unfold badOb
    rw [Bool.not_eq_true, List.any_eq_false]
    intro v hv
    rw [Bool.not_eq_true]
    exact astray_live ((h o ho).2 v hv)
  unfold checkV
  rw [hb]; rfl

theorem clean_nil : Clean [] := fun o ho => by simp at ho
theorem clean_zeros (obs : List Ob) (n l : Int) : CleanOb obs (n, zeros l) := by
  refine ⟨fun v hv => ?_, fun v hv => .inl ?_⟩
  · simp [zeros] at hv
    rw [hv.2]; unfold InR; omega
  · have := List.mem_of_mem_take hv
    simp [zeros] at this
    exact this.2

theorem CleanOb.more {obs obs' : List Ob} {o : Ob} (h : CleanOb obs o) (hl : ∀ a, Live obs a → Live obs' a) : CleanOb obs' o :=
  ⟨h.1, fun v hv => (h.2 v hv).imp id (hl _)⟩

theorem clean_place {obs : List Ob} {tail : List Int} {k l p : Int} (h : Clean obs) : Clean (placeF obs tail k l p).2.2.1 := by
  unfold placeF
  split
  · exact h
  · split
    · exact h
    · intro o ho
      simp at ho
      rcases ho with ho | rfl
      · exact (h o ho).more fun a => live_more
      · exact clean_zeros _ _ _

theorem clean_split {obs : List Ob} {a k l p : Int} (hf : Fine obs) (h : Clean obs) : Clean (splitF obs a k l p).2.2 := by
  unfold splitF
  cases hl : look obs a with
  | none => exact h
  | some x =>
    obtain ⟨pre, o, post⟩ := x
    obtain ⟨e0, rfl⟩ := look_some _ _ _ hl
    simp only at e0 ⊢
    subst e0
    have hh := hf.right.head.1
    have hlen := hf.right.head.2
    by_cases h1 : o.1 % 16 ≠ 15
    · rw [if_pos h1]; exact h
    · rw [if_neg h1]
      cases hg : goodB k l p with
      | false => rw [if_pos rfl]; exact h
      | true =>
        rw [if_neg (by simp)]
        by_cases h2 : o.1 / 65536 < l
        · rw [if_pos h2]; exact h
        · rw [if_neg h2]
          have hl0 := ((good_iff k l p).1 hg).2.2.1
          unfold lenOf at hlen
          by_cases h3 : o.1 / 65536 = l
          · rw [if_pos h3]
            have hsw : ∀ b, Live (pre ++ o :: post) b → Live (pre ++ (packW k l p, zeros l) :: post) b := fun b hb => by
              have := live_swap (mid := [(packW k l p, zeros l)]) hb (by simp [flat_cons, flat_nil, zeros]; omega) (fun hc => absurd hc h1)
              simpa using this
            intro y hy
            simp at hy
            rcases hy with hy | rfl | hy
            · exact (h y (by simp [hy])).more hsw
            · exact clean_zeros _ _ _
            · exact (h y (by simp [hy])).more hsw
          · rw [if_neg h3]
            have hsw : ∀ b, Live (pre ++ o :: post) b → Live (pre ++ (packW k l p, zeros l) :: (packW 15 (o.1 / 65536 - l - 1) 0, zeros (o.1 / 65536 - l - 1)) :: post) b := fun b hb => by
              have := live_swap (mid := [(packW k l p, zeros l), (packW 15 (o.1 / 65536 - l - 1) 0, zeros (o.1 / 65536 - l - 1))]) hb (by simp [flat_cons, flat_nil, zeros]; omega) (fun hc => absurd hc h1)
              simpa using this
            intro y hy
            simp at hy
            rcases hy with hy | rfl | rfl | hy
            · exact (h y (by simp [hy])).more hsw
            · exact clean_zeros _ _ _
            · exact clean_zeros _ _ _
            · exact (h y (by simp [hy])).more hsw

theorem clean_write {obs : List Ob} {a f v : Int} (h : Clean obs) (hv : InR v) : Clean (writeF obs a f v).2 := by
  unfold writeF
  cases hl : look obs a with
  | none => exact h
  | some x =>
    obtain ⟨pre, o, post⟩ := x
    obtain ⟨e0, rfl⟩ := look_some _ _ _ hl
    simp only at e0 ⊢
    subst e0
    by_cases h1 : ¬ (0 ≤ f ∧ f < o.1 / 65536) ∨ o.1 % 16 = 15
    · rw [if_pos h1]; exact h
    · rw [if_neg h1]
      by_cases h6 : f < o.1 % 65536 / 16 ∧ astrayO (pre ++ o :: post) v = true
      · rw [if_pos h6]; exact h
      · rw [if_neg h6]
        have hk : o.1 % 16 ≠ 15 := fun e => h1 (.inr e)
        have hsw : ∀ b, Live (pre ++ o :: post) b → Live (pre ++ (o.1, o.2.set f.toNat v) :: post) b := fun b hb => by
          have := live_swap (mid := [(o.1, o.2.set f.toNat v)]) hb (by simp [flat_cons, flat_nil]; omega) (fun _ => ⟨_, _, rfl, hk⟩)
          simpa using this
        have ho := h o (by simp)
        intro y hy
        simp at hy
        rcases hy with hy | rfl | hy
        · exact (h y (by simp [hy])).more hsw
        · refine ⟨fun u hu => ?_, fun u hu => ?_⟩
          · rcases List.mem_or_eq_of_mem_set hu with hu | rfl
            · exact ho.1 u hu
            · exact hv
          · simp only at hu
            rw [List.take_set] at hu
            by_cases hlt : f.toNat < ptrs o.1
            · rcases List.mem_or_eq_of_mem_set hu with hu | rfl
              · exact (ho.2 u hu).imp id (hsw _)
              · have hf0 : f < o.1 % 65536 / 16 := by unfold ptrs at hlt; omega
                have : astrayO (pre ++ o :: post) u = false := by
                  cases hc : astrayO (pre ++ o :: post) u with
                  | false => rfl
                  | true => exact absurd ⟨hf0, hc⟩ h6
                exact (live_astray this).imp id (hsw _)
            · rw [List.set_eq_of_length_le (by simp; omega)] at hu
              exact (ho.2 u hu).imp id (hsw _)
        · exact (h y (by simp [hy])).more hsw
end Go.Proofs.Ytibfhpbklnpknaa

namespace Go.Proofs.Ytibfhpbklnpknaa
open Go.RowKit
set_option linter.unusedVariables false
set_option linter.unusedSimpArgs false

theorem HeapAt.far {w : World} {g gw gb : Nat} {zs : List Int} {top : Nat} {bs : List Bool} (h : HeapAt w g gw gb zs top bs) {p : Addr} (h1 : g ≠ p.block) (h2 : gw ≠ p.block) (h3 : gb ≠ p.block) (u : Value) : HeapAt (w.setCell p u) g gw gb zs top bs :=
  ⟨h.own.far h1 u, h.words.far h2 u, h.begins.far h3 u, h.same, h.some_, h.most, h.fits⟩
theorem St.far {w : World} {g gw gb : Nat} {obs : List Ob} {tail : List Int} (h : St w g gw gb obs tail) {p : Addr} (h1 : g ≠ p.block) (h2 : gw ≠ p.block) (h3 : gb ≠ p.block) (u : Value) : St (w.setCell p u) g gw gb obs tail := ⟨h.fine, h.lies.far h1 h2 h3 u⟩
theorem second_end {w w2 : World} {bn bo ba n N L : Nat} {q : Int} {o : Obj} (A1 : Lies w2 bn 3 [.int .i64 ((n : Int) + 1)]) (A3 : Lies w2 bo 4 [.bool true]) (A4 : Lies w2 ba 3 [.int .i64 (N : Int)])
    (n1 : bn ≠ bo) (n2 : bn ≠ ba) (n3 : bo ≠ ba) (hb : Else bn bo ba w w2) (hq : 0 ≤ q) (hL : L = N + 1 + q.toNat) :
    Lies (((w2.setCell ⟨bo, 0, none⟩ (.bool true)).setCell ⟨ba, 0, none⟩ (.int .i64 ((N : Int) + (1 + q)))).alloc o) bn 3 [.int .i64 ((n + 1 : Nat) : Int)] ∧
    Lies (((w2.setCell ⟨bo, 0, none⟩ (.bool true)).setCell ⟨ba, 0, none⟩ (.int .i64 ((N : Int) + (1 + q)))).alloc o) bo 4 [.bool true] ∧
    Lies (((w2.setCell ⟨bo, 0, none⟩ (.bool true)).setCell ⟨ba, 0, none⟩ (.int .i64 ((N : Int) + (1 + q)))).alloc o) ba 3 [.int .i64 (L : Nat)] ∧
    Else bn bo ba w (((w2.setCell ⟨bo, 0, none⟩ (.bool true)).setCell ⟨ba, 0, none⟩ (.int .i64 ((N : Int) + (1 + q)))).alloc o) := by
  refine ⟨((A1.far n1 _).far n2 _).alloc o, ((A3.set 0 _).far n3 _).alloc o, ?_, hb.trans ⟨rfl, rfl, rfl, by simp [World.setCell], fun k hk h1 h2 h3 => ?_⟩⟩
  · have e : ((L : Nat) : Int) = (N : Int) + (1 + q) := by omega
    rw [e]
    exact ((A4.far n3.symm _).set 0 _).alloc o
  · rw [Below.heap_alloc _ _ _ (by simp [World.setCell]; omega), Below.heap_setCell _ _ _ _ h3, Below.heap_setCell _ _ _ _ h2]

end Go.Proofs.Ytibfhpbklnpknaa

namespace Go.Proofs.Ytibfhpbklnpknaa
open Go.RowKit
set_option linter.unusedVariables false

/-- What Read answers. -/
def readF (obs : List Ob) (a f : Int) : Int × Int :=
  match look obs a with
  | none => (0, 3)
  | some x => if 0 ≤ f ∧ f < x.2.1.1 / 65536 then (x.2.1.2.getD f.toNat 0, 0) else (0, 4)

/-- What Head answers. -/
def headF (obs : List Ob) (a : Int) : (Int × Int × Int) × Int :=
  match look obs a with
  | none => ((0, 0, 0), 3)
  | some x => ((x.2.1.1 % 16, x.2.1.1 / 65536, x.2.1.1 % 65536 / 16), 0)

theorem headF_st {w : World} {g gw gb : Nat} {obs : List Ob} {tail : List Int} (S : St w g gw gb obs tail) (a : Int) :
    Calls Try.prog 21 #[.pointer (some ⟨g, 0, none⟩), .int .i64 a] w fun e w' => e = .returned (.tuple #[.agg #[.int .i64 (headF obs a).1.1, .int .i64 (headF obs a).1.2.1, .int .i64 (headF obs a).1.2.2], .int .i64 (headF obs a).2]) ∧ Below w.heap.size w w' := by
  unfold headF
  cases hl : look obs a with
  | none => exact head_no S.lies a (start_not (look_none _ hl))
  | some x =>
    obtain ⟨pre, o, post⟩ := x
    obtain ⟨e0, rfl⟩ := look_some _ _ _ hl
    simp only at e0 ⊢
    subst e0
    exact head_st S _ rfl

set_option maxHeartbeats 1000000 in
theorem read_st {w : World} {g gw gb : Nat} {obs : List Ob} {tail : List Int} (S : St w g gw gb obs tail) (a f : Int) :
    Calls Try.prog 20 #[.pointer (some ⟨g, 0, none⟩), .int .i64 a, .int .i64 f] w fun e w' => e = .returned (.tuple #[.int .i64 (readF obs a f).1, .int .i64 (readF obs a f).2]) ∧ Below w.heap.size w w' := by
  unfold readF
  cases hl : look obs a with
  | none =>
    have hn := Lib.hid (look_none tail.length hl)
    have HS := Lib.hid S
    clear hl S
    go_enter Try.func20, Try.ntmps20
    go_wp2_with fail
    refine (head_no HS.out.lies a (start_not hn.out)).mono ?_
    rintro e w1 ⟨rfl, hb1⟩
    go_wp2
    refine bodyPost_ret (v := .tuple #[.int .i64 0, .int .i64 3]) (by simp [results, Try.results20, go_sem]) rfl ?_
    exact ⟨rfl, hb1.alloc hb1.size _⟩
  | some x =>
    obtain ⟨pre, o, post⟩ := x
    obtain ⟨e0, rfl⟩ := look_some _ _ _ hl
    simp only at e0 ⊢
    subst e0
    have hlen := S.fine.right.head.2
    have hh := S.fine.right.head.1
    have hfit := fits_here S.fine
    have h := S.lies
    have hm := h.most
    have hfz := h.fits
    have hw : ∀ f : Nat, f < o.2.length → (flat (pre ++ o :: post) ++ tail).getD ((flat pre).length + 1 + f) 0 = o.2.getD f 0 := fun f hf => by
      rw [flat_append, flat_cons]
      simp only [List.append_assoc, List.getD_eq_getElem?_getD]
      rw [List.getElem?_append_right (by omega)]
      have : (flat pre).length + 1 + f - (flat pre).length = f + 1 := by omega
      rw [this]
      simp only [List.cons_append, List.getElem?_cons_succ]
      rw [List.append_assoc, List.getElem?_append_left hf]
    have HS := Lib.hid S
    obtain ⟨N, hN⟩ : ∃ N, (flat pre).length = N := ⟨_, rfl⟩
    rw [hN] at hw hfit ⊢
    have HN := Lib.hid hN
    have HL := Lib.hid hlen
    have HW := Lib.hid hw
    obtain ⟨L, hL⟩ : ∃ L, (flat (pre ++ o :: post) ++ tail).length = L := ⟨_, rfl⟩
    rw [hL] at hm hfz
    have HLL := Lib.hid hL
    clear hl S hN hlen hw hL h hh
    by_cases h1 : 0 ≤ f ∧ f < o.1 / 65536
    · rw [if_pos h1]
      obtain ⟨f, rfl⟩ := Int.eq_ofNat_of_zero_le h1.1
      have hd : decide (0 ≤ (f : Int) ∧ (f : Int) < o.1 / 65536) = true := decide_eq_true h1
      have hfo : f < lenOf o.1 := by unfold lenOf; omega
      have hff : N + 1 + f < L := by omega
      have c1 : (N : Int) + 1 + (f : Int) < (L : Int) := by omega
      have c2 : (0 : Int) ≤ (N : Int) + 1 + (f : Int) := by omega
      have c3 : ((N : Int) + 1 + (f : Int)).toNat = N + 1 + f := by omega
      clear h1
      go_enter Try.func20, Try.ntmps20
      go_wp2_with fail
      refine (head_st HS.out N HN.out).mono ?_
      rintro e w1 ⟨rfl, hb1⟩
      generalize o.1 / 65536 = q at *
      generalize o.1 % 65536 / 16 = r at *
      generalize o.1 % 16 = s at *
      go_wp2_with fail
      refine (hasField_b s q r f _ true hd).mono ?_
      rintro e w2 ⟨rfl, hb2⟩
      have B2 : Below w.heap.size w w2 := on (hb1.alloc hb1.size _) (by have := hb1.size; simp; omega) hb2
      have H2 := HS.out.lies.kept B2
      have y0 := H2.c0
      have y1 := H2.w_at (by rw [HLL.out]; exact hff)
      rw [HLL.out] at y0
      rw [HW.out f (by rw [HL.out]; exact hfo)] at y1
      have HB2 := Lib.hid B2
      clear hb1 hb2 H2 B2
      go_wp2
      refine bodyPost_ret (v := .tuple #[.int .i64 (o.2.getD f 0), .int .i64 0]) (by simp [results, Try.results20, go_sem]) rfl ?_
      exact ⟨rfl, HB2.out⟩
    · rw [if_neg h1]
      have hd : decide (0 ≤ f ∧ f < o.1 / 65536) = false := decide_eq_false h1
      clear h1
      go_enter Try.func20, Try.ntmps20
      go_wp2_with fail
      refine (head_st HS.out N HN.out).mono ?_
      rintro e w1 ⟨rfl, hb1⟩
      generalize o.1 / 65536 = q at *
      generalize o.1 % 65536 / 16 = r at *
      generalize o.1 % 16 = s at *
      go_wp2_with fail
      refine (hasField_b s q r f _ false hd).mono ?_
      rintro e w2 ⟨rfl, hb2⟩
      go_wp2
      refine bodyPost_ret (v := .tuple #[.int .i64 0, .int .i64 4]) (by simp [results, Try.results20, go_sem]) rfl ?_
      exact ⟨rfl, on (hb1.alloc hb1.size _) (by have := hb1.size; simp; omega) hb2⟩
end Go.Proofs.Ytibfhpbklnpknaa
