/- An allocator's calls within: isLarge, left, retire. -/
import Derived.Test.YtibfhpbklnpknaaAlMem
namespace Go.Proofs.Ytibfhpbklnpknaa
open Go.RowKit
set_option linter.unusedVariables false
set_option linter.unusedSimpArgs false

set_option maxHeartbeats 1000000 in
theorem isLarge_any {w : World} {ga gf g gw gb size : Nat} {bs : List Int} {obs : List Ob} {tail : List Int} (h : Al w ga gf g gw gb size bs obs tail) (k l p : Int) (h0 : 0 ≤ l) (h1 : l ≤ 4095) :
    Calls Try.prog 28 #[.pointer (some ⟨ga, 0, none⟩), .agg #[.int .i64 k, .int .i64 l, .int .i64 p]] w fun e w' =>
      e = .returned (.bool (decide ((size : Int) / 2 < 1 + l))) ∧ Below w.heap.size w w' := by
  have s1 : (0 : Int) ≤ (size : Int) := by omega
  have s2 : (size : Int) ≤ 4096 := by have := h.hi; omega
  have L0 := h.own.alloc (.cells #[.int .i64 k, .int .i64 l, .int .i64 p] 40)
  have LX := Lies.new w 40 [.int .i64 k, .int .i64 l, .int .i64 p]
  have y1 : (w.alloc (.cells #[.int .i64 k, .int .i64 l, .int .i64 p] 40)).cell? ⟨ga, 1, none⟩ = some (.int .i64 size) := L0.cell 1
  have bA := (Below.refl w.heap.size w).alloc (Nat.le_refl _) (.cells #[.int .i64 k, .int .i64 l, .int .i64 p] 40)
  have z1 := L0.lt
  have z3 := LX.lt
  have q1 : IntKind.i64.wrap ((size : Int) / 2) = (size : Int) / 2 := IntWalk.i64_in _ (by omega)
  go_enter Try.func28, Try.ntmps28
  go_wp2_with fail
  go_region_with ((first
    | (go_at_call 30; refine (aroom_any _ _ _ _ h0 h1).mono ?_; rintro e w5 ⟨rfl, hb5⟩; obtain ⟨hk3, hf3⟩ := kept hb5; have hc5 := (hk3 ga 1 z1).trans y1)
    | fail))
  all_goals go_wp2
  all_goals go_ret
  all_goals exact ⟨rfl, bA.drew.trans (hb5.mono bA.size)⟩

theorem retire_any {w : World} {ga gf g gw gb size : Nat} {bs : List Int} {obs : List Ob} {tail : List Int} (h : Al w ga gf g gw gb size bs obs tail) (t : Nat) (ht : t < bs.length) :
    Calls Try.prog 34 #[.pointer (some ⟨ga, 0, none⟩), .int .i64 (t : Int)] w fun e w' =>
      e = .returned (.tuple #[]) ∧ Al w' ga gf g gw gb size (bs.set t 0) obs tail ∧ Else4 g gw gb gf w w' := by
  have y2 := h.c2
  have b2 := h.b_at ht
  have f2 := h.row.frozen t
  have t0 : (0 : Int) ≤ (t : Int) := by omega
  have t1 : (t : Int) < (bs.length : Int) := by omega
  have F : Al (w.setCell ⟨gf, t, none⟩ (.int .i64 0)) ga gf g gw gb size (bs.set t 0) obs tail := by
    refine ⟨h.st.far (p := ⟨gf, t, none⟩) h.ne1.symm h.ne.symm h.ne2.symm _, ?_, ?_, h.ne, h.lo, h.hi, fun b hb hne => ?_⟩
    · have := h.own.far (p := ⟨gf, t, none⟩) h.ne6 (.int .i64 0)
      simpa using this
    · have := h.row.set t (.int .i64 0)
      rwa [← List.map_set] at this
    · rcases List.mem_or_eq_of_mem_set hb with h1 | h1
      · exact h.led b h1 hne
      · exact absurd h1 hne
  have E := (Else4.refl g gw gb gf w).put t (.int .i64 0)
  have HF := Lib.hid F
  have HE := Lib.hid E
  clear F E
  generalize bs.getD t 0 = b at *
  generalize bs.length = n at *
  go_enter Try.func34, Try.ntmps34
  go_wp2
  go_end0
  exact ⟨rfl, HF.out, HE.out⟩
end Go.Proofs.Ytibfhpbklnpknaa
