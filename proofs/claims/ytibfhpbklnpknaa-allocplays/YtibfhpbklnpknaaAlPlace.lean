/- An object at the heap's top; a new buffer. -/
import Derived.Test.YtibfhpbklnpknaaAlLeft
namespace Go.Proofs.Ytibfhpbklnpknaa
open Go.RowKit
set_option linter.unusedVariables false
set_option linter.unusedSimpArgs false

theorem look_more {obs : List Ob} {a : Int} (x : List Ob) (h : (look obs a).isSome = true) : (look (obs ++ x) a).isSome = true := by
  cases hl : look obs a with
  | none => rw [hl] at h; simp at h
  | some y =>
    obtain ⟨e, ea⟩ := look_some _ _ _ hl
    rw [e, ea, List.append_assoc, List.cons_append, look_here]
    rfl
theorem look_placed {obs : List Ob} {a : Int} (tail : List Int) (k l p : Int) (h : (look obs a).isSome = true) : (look (placeF obs tail k l p).2.2.1 a).isSome = true := by
  unfold placeF
  split
  · exact h
  · split
    · exact h
    · exact look_more _ h

theorem Al.step {w w' : World} {ga gf g gw gb size : Nat} {bs : List Int} {obs obs' : List Ob} {tail tail' : List Int} (h : Al w ga gf g gw gb size bs obs tail) (S : St w' g gw gb obs' tail') (E : Else g gw gb w w')
    (hl : ∀ a, (look obs a).isSome = true → (look obs' a).isSome = true) : Al w' ga gf g gw gb size bs obs' tail' :=
  ⟨S, E.lies h.own h.ne3 h.ne4 h.ne5, E.lies h.row h.ne1 h.ne h.ne2, h.ne, h.lo, h.hi, fun b hb hne => hl _ (h.led b hb hne)⟩

/-- An object at the top: its address, 0 or ErrMemory; what the heap is then. -/
def placeA (obs : List Ob) (tail : List Int) (k l p : Int) : Int × Int × List Ob × List Int :=
  if (placeF obs tail k l p).2.1 = 0 then ((placeF obs tail k l p).1, 0, (placeF obs tail k l p).2.2.1, (placeF obs tail k l p).2.2.2) else (0, 11, (placeF obs tail k l p).2.2.1, (placeF obs tail k l p).2.2.2)

set_option maxHeartbeats 1000000 in
theorem aplace_any {w : World} {ga gf g gw gb size : Nat} {bs : List Int} {obs : List Ob} {tail : List Int} (h : Al w ga gf g gw gb size bs obs tail) (k l p : Int) :
    Calls Try.prog 29 #[.pointer (some ⟨ga, 0, none⟩), .agg #[.int .i64 k, .int .i64 l, .int .i64 p]] w fun e w' =>
      e = .returned (.tuple #[.int .i64 (placeA obs tail k l p).1, .int .i64 (placeA obs tail k l p).2.1]) ∧ Al w' ga gf g gw gb size bs (placeA obs tail k l p).2.2.1 (placeA obs tail k l p).2.2.2 ∧ Else4 g gw gb gf w w' := by
  obtain ⟨X, hX⟩ : ∃ X : Obj, X = .cells #[.int .i64 k, .int .i64 l, .int .i64 p] 40 := ⟨_, rfl⟩
  have bX := below_one w X
  have H1 := (h.kept bX).kept (Below.refl (w.alloc X).heap.size (w.alloc X)).drew
  have LB : Lies (w.alloc X).drew w.heap.size 40 [.int .i64 k, .int .i64 l, .int .i64 p] := by rw [hX]; exact (Lies.new w 40 [_, _, _]).drew
  have HP := Lib.hid (place_st H1.st k l p)
  have HL := Lib.hid (fun a => look_placed (obs := obs) (a := a) tail k l p)
  have y0 : (w.alloc X).cell? ⟨ga, 0, none⟩ = some (.pointer (some ⟨g, 0, none⟩)) := H1.c0
  have z0 : (w.alloc X).cell? ⟨w.heap.size, 0, none⟩ = some (.int .i64 k) := LB.cell 0
  have z1 : (w.alloc X).cell? ⟨w.heap.size, 1, none⟩ = some (.int .i64 l) := LB.cell 1
  have z2 : (w.alloc X).cell? ⟨w.heap.size, 2, none⟩ = some (.int .i64 p) := LB.cell 2
  have a1 := h.ne3
  have a2 := h.ne4
  have a3 := h.ne5
  have n1 : w.heap.size ≠ g := by have := h.st.lies.own.lt; omega
  have n2 : w.heap.size ≠ gw := by have := h.st.lies.words.lt; omega
  have n3 : w.heap.size ≠ gb := by have := h.st.lies.begins.lt; omega
  have HH := Lib.hid H1
  have HB := Lib.hid LB
  have E0 : Else4 g gw gb gf w (w.alloc X).drew := Else4.of_below bX.drew
  have HE := Lib.hid E0
  clear H1 LB h bX E0
  subst hX
  unfold placeA
  generalize placeF obs tail k l p = R at *
  obtain ⟨r, c, obs2, tail2⟩ := R
  simp only at HP HL ⊢
  by_cases h0 : c = 0
  · subst h0
    rw [if_pos rfl]
    go_enter Try.func29, Try.ntmps29
    go_wp2_with fail
    go_region_held3 (fun W => W.cell? ⟨ga, 0, none⟩ = some (.pointer (some ⟨g, 0, none⟩)) ∧ W.cell? ⟨w.heap.size, 0, none⟩ = some (.int .i64 k) ∧ W.cell? ⟨w.heap.size, 1, none⟩ = some (.int .i64 l) ∧ W.cell? ⟨w.heap.size, 2, none⟩ = some (.int .i64 p))
      (first | exact ⟨y0, z0, z1, z2⟩ | go_keep | exact ⟨A3.c0, B3.cell 0, B3.cell 1, B3.cell 2⟩)
      ((first
      | (go_at_call 48; refine HP.out.mono ?_; rintro e w3 ⟨rfl, S3, E3⟩; have A3 := HH.out.step S3 E3 HL.out; have B3 := E3.lies HB.out n1 n2 n3; have E4 := Lib.hid (HE.out.trans (Else4.of_else (gf := gf) E3)); clear S3 E3)
      | fail))
    have HA := Lib.hid A3
    clear A3 B3
    go_wp2
    go_ret2
    exact ⟨rfl, HA.out, E4.out⟩
  · rw [if_neg h0]
    have h0' : (c != 0) = true := by simp [h0]
    go_enter Try.func29, Try.ntmps29
    go_wp2_with fail
    go_region_held3 (fun W => W.cell? ⟨ga, 0, none⟩ = some (.pointer (some ⟨g, 0, none⟩)) ∧ W.cell? ⟨w.heap.size, 0, none⟩ = some (.int .i64 k) ∧ W.cell? ⟨w.heap.size, 1, none⟩ = some (.int .i64 l) ∧ W.cell? ⟨w.heap.size, 2, none⟩ = some (.int .i64 p))
      (first | exact ⟨y0, z0, z1, z2⟩ | go_keep | exact ⟨A3.c0, B3.cell 0, B3.cell 1, B3.cell 2⟩)
      ((first
      | (go_at_call 48; refine HP.out.mono ?_; rintro e w3 ⟨rfl, S3, E3⟩; have A3 := HH.out.step S3 E3 HL.out; have B3 := E3.lies HB.out n1 n2 n3; have E4 := Lib.hid (HE.out.trans (Else4.of_else (gf := gf) E3)); clear S3 E3)
      | fail))
    have HA := Lib.hid A3
    clear A3 B3
    go_wp2
    go_ret2
    exact ⟨rfl, HA.out, E4.out⟩
end Go.Proofs.Ytibfhpbklnpknaa
