/- Of ForwardGoes: a row of numbers that is filled (pure, and in memory). -/
import Derived.Test.YtehmcbpkhknpcaaGo
namespace Go.Proofs.Ytehmcbpkhknpcaa
set_option maxRecDepth 20000
open Go.RowKit
set_option linter.unusedVariables false
set_option linter.unusedSimpArgs false

theorem mrow_next {k n : Nat} (h : k < n) : (mrow k n).set k (.int .i64 (-1)) = mrow (k + 1) n := by
  unfold mrow
  rw [List.set_append_right _ _ (by simp)]
  simp only [List.length_replicate, Nat.sub_self]
  have e : n - k = (n - (k + 1)) + 1 := by omega
  rw [e, List.replicate_succ, List.set_cons_zero, List.replicate_succ' (n := k), List.append_assoc]
  rfl
theorem mrow_some {k n i : Nat} (hk : k ≤ n) (hi : i < n) : ∃ v, (mrow k n)[i]? = some v := ⟨_, List.getElem?_eq_getElem (by rw [mrow_len hk]; exact hi)⟩
/-- What is told of the first so many objects. -/
def rowG (f : Nat → Bool) (obs : List Ob) (j Z : Nat) : List Value := (rowV (goS f (adr 0 obs)) (isK f ((adr 0 obs).take j)) Z).map (Value.int .i64)
theorem rowG_zero (f : Nat → Bool) (obs : List Ob) (Z : Nat) : mrow Z Z = rowG f obs 0 Z := by
  rw [mrow_full]
  unfold rowG
  rw [← rowV_none (v := goS f (adr 0 obs))]
  rfl
theorem rowG_get {f : Nat → Bool} {obs : List Ob} {j Z p : Nat} (hp : p < Z) : (rowG f obs j Z)[p]? = some (.int .i64 (if isK f ((adr 0 obs).take j) p then (goS f (adr 0 obs) p : Int) else -1)) := by
  unfold rowG
  rw [List.getElem?_map, rowV_at hp]; rfl
theorem rowG_keep {f : Nat → Bool} {obs : List Ob} {j Z p E : Nat} {o : Ob} (h : (adr 0 obs)[j]? = some (p, o)) (hk : keepB f (p, o) = true) (hp : p < Z) (hE : goS f (adr 0 obs) p = E) : (rowG f obs j Z).set p (.int .i64 (E : Nat)) = rowG f obs (j + 1) Z := by
  unfold rowG
  rw [← List.map_set, rowV_set hp E hE.symm]
  congr 1
  refine rowV_congr fun q _ => ?_
  rw [take_more h, isK_more, hk, Bool.true_and]
  congr 1
  simp [eq_comm]
theorem rowG_skip {f : Nat → Bool} {obs : List Ob} {j Z p : Nat} {o : Ob} (h : (adr 0 obs)[j]? = some (p, o)) (hk : keepB f (p, o) = false) : rowG f obs j Z = rowG f obs (j + 1) Z := by
  unfold rowG
  congr 1
  refine rowV_congr fun q _ => ?_
  rw [take_more h, isK_more, hk]; simp
theorem rowG_all (f : Nat → Bool) {obs : List Ob} {n Z p : Nat} (hn : obs.length = n) (hp : p < Z) : (rowG f obs n Z)[p]? = some (.int .i64 (if isK f (adr 0 obs) p then (goS f (adr 0 obs) p : Int) else -1)) := by
  rw [rowG_get hp, List.take_of_length_le (by rw [adr_len]; omega)]
theorem wrap_neg {z : Int} (h : InR z) (h1 : z ≤ -1) : IntKind.i64.wrap (z - 1) < 0 ∨ 65536 ≤ IntKind.i64.wrap (z - 1) := by
  unfold InR at h
  by_cases e : z = -9223372036854775808
  · subst e
    right
    have : IntKind.i64.wrap (-9223372036854775808 - 1) = 9223372036854775807 := by decide
    omega
  · left
    rw [IntWalk.i64_in _ (by omega)]; omega
theorem word_neg {w : World} {b W K T top : Nat} {f : Nat → Bool} {obs : List Ob} (h : Fo w b W K T top f obs) (z : Int) (hz : InR z) (h1 : z ≤ -1) :
    Calls Try.prog 14 #[.pointer (some ⟨b, 0, none⟩), .int .i64 z] w fun e w' => e = .returned (.tuple #[.int .i64 0, .int .i64 5]) ∧ Below w.heap.size w w' := by
  refine word_no h z _ (by omega) rfl ?_
  rcases wrap_neg hz h1 with h2 | h2
  · exact Or.inl h2
  · exact Or.inr (Or.inl (by have := h.most; omega))
end Go.Proofs.Ytehmcbpkhknpcaa
