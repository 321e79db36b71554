/- A new allocator. -/
import Derived.Test.YtibfhpbklnpknaaAlAlloc
namespace Go.Proofs.Ytibfhpbklnpknaa
open Go.RowKit
set_option linter.unusedVariables false
set_option linter.unusedSimpArgs false

theorem anew_no (P : Value) (n x : Int) (w : World) (hn : ¬ (1 ≤ n ∧ n ≤ 64)) :
    Calls Try.prog 9 #[P, .int .i64 n, .int .i64 x] w fun e w' => e = .returned (.tuple #[.pointer none, .int .i64 1]) ∧ w = w' := by
  by_cases h1 : n < 1
  · go_enter Try.func9, Try.ntmps9
    go_wp2
    go_ret2
    exact ⟨rfl, rfl⟩
  · have h2 : 64 < n := by omega
    go_enter Try.func9, Try.ntmps9
    go_wp2
    go_ret2
    exact ⟨rfl, rfl⟩

/-- How many words a new buffer has. -/
def sizeF (x : Int) : Nat := (min (max x 8) 4096).toNat

def NewPost (w : World) (g gw gb : Nat) (n : Nat) (x : Int) (obs : List Ob) (tail : List Int) (e : Ending) (w' : World) : Prop :=
  ∃ ga gf, e = .returned (.tuple #[.pointer (some ⟨ga, 0, none⟩), .int .i64 0]) ∧ Al w' ga gf g gw gb (sizeF x) (List.replicate n 0) obs tail ∧ Below w.heap.size w w' ∧ w.heap.size ≤ ga ∧ w.heap.size ≤ gf

theorem anew_yes {w : World} {g gw gb : Nat} {obs : List Ob} {tail : List Int} (S : St w g gw gb obs tail) (n : Nat) (x : Int) (h1 : 1 ≤ n) (h2 : n ≤ 64) :
    Calls Try.prog 9 #[.pointer (some ⟨g, 0, none⟩), .int .i64 (n : Int), .int .i64 x] w (NewPost w g gw gb n x obs tail) := by
  have hmk := make51 n (by omega)
  have i1 : (1 : Int) ≤ (n : Int) := by omega
  have i2 : (n : Int) ≤ 64 := by omega
  have HS := Lib.hid S
  have HF : ∀ s : Int, s = ((sizeF x : Nat) : Int) → NewPost w g gw gb n x obs tail (.returned (.tuple #[.pointer (some ⟨w.heap.size + 1, 0, none⟩), .int .i64 0])) ((w.alloc (.cells (noughts n).toArray 3)).alloc (.cells #[.pointer (some ⟨g, 0, none⟩), .int .i64 s, .slice (some ⟨w.heap.size, 0, none⟩) n n] 71)) := by
    intro s hs
    have b1 := below_one w (.cells (noughts n).toArray 3)
    have b2 := on b1 b1.size (below_one (w.alloc (.cells (noughts n).toArray 3)) (.cells #[.pointer (some ⟨g, 0, none⟩), .int .i64 s, .slice (some ⟨w.heap.size, 0, none⟩) n n] 71))
    refine ⟨w.heap.size + 1, w.heap.size, rfl, ⟨S.kept b2, ?_, ?_, ?_, ?_, ?_, ?_⟩, b2, by omega, by omega⟩
    · have := Lies.new (w.alloc (.cells (noughts n).toArray 3)) 71 [.pointer (some ⟨g, 0, none⟩), .int .i64 s, .slice (some ⟨w.heap.size, 0, none⟩) n n]
      rw [World.size_alloc] at this
      rw [← hs]
      simpa using this
    · have := (Lies.new w 3 (noughts n)).alloc (.cells #[.pointer (some ⟨g, 0, none⟩), .int .i64 s, .slice (some ⟨w.heap.size, 0, none⟩) n n] 71)
      rwa [← noughts_eq]
    · have := S.lies.words.lt; omega
    · unfold sizeF; omega
    · unfold sizeF; omega
    · intro b hb hne
      exact absurd (List.eq_of_mem_replicate hb) hne
  have HH := Lib.hid HF
  clear S HF h1 h2
  go_enter Try.func9, Try.ntmps9
  go_wp2
  all_goals go_ret2
  all_goals refine HH.out _ ?_
  all_goals unfold sizeF
  all_goals omega

theorem anil_ne (W : World) (g : Nat) : (binOp .eql 30 (.pointer (some ⟨g, 0, none⟩)) (.pointer none)).run Try.prog W = .ok (.bool false) W := by kernel_rfl

theorem awake_f : allocF 8 [0] [] (List.replicate 20 0) 0 0 1 0 = (0, 0, [3], [(packW 0 1 0, zeros 1), (packW 15 5 0, zeros 5)], List.replicate 12 0) := by decide +kernel
theorem awake_l : leftA [3] [(packW 0 1 0, zeros 1), (packW 15 5 0, zeros 5)] 0 = (6, 0) := by decide +kernel

set_option maxHeartbeats 1000000 in
theorem awake_any (w : World) : Calls Try.prog 7 #[] w fun e w' => e = .returned (.bool true) ∧ Below w.heap.size w w' := by
  have hnil := fun W g => anil_ne W g
  go_enter Try.func7, Try.ntmps7
  go_wp2_with fail
  refine (new_st 20 w (by omega) (by omega)).mono ?_
  rintro e w1 ⟨g, gw, gb, rfl, hb1, q1, q2, q3, S1⟩
  go_wp2_with fail
  refine (anew_yes S1 1 8 (by omega) (by omega)).mono ?_
  rintro e w2 ⟨ga, gf, rfl, A2, hb2, q4, q5⟩
  have sz1 := hb1.size
  have B2 := Lib.hid (on hb1 hb1.size hb2)
  have HA2 := Lib.hid (Alloc_any A2 0 0 1 0)
  have e1 : sizeF 8 = 8 := by decide
  have e2 : List.replicate 1 (0 : Int) = [0] := rfl
  rw [e1, e2, awake_f] at HA2
  simp only at HA2
  clear A2 hb1 hb2 S1 e1 e2
  go_wp2_with fail
  refine HA2.out.mono ?_
  rintro e w3 ⟨rfl, A3, E3⟩
  have HL := Lib.hid (Left_any A3 0)
  rw [awake_l] at HL
  have B3 := Lib.hid (B2.out.trans (E3.below B2.out.size q1 q2 q3 (by omega)))
  clear A3 E3 HA2
  go_wp2_with fail
  refine HL.out.mono ?_
  rintro e w4 ⟨rfl, hb4⟩
  have B4 := Lib.hid (on B3.out B3.out.size hb4)
  clear hb4 HL
  go_wp2
  go_ret
  exact ⟨rfl, B4.out⟩
end Go.Proofs.Ytibfhpbklnpknaa
