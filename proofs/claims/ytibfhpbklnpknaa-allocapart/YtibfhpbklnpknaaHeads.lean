/- What Unpack, the document's Pack and Unpack, and the statements' own first look do: each returns what the plain functions say, and turns nothing that was there. No condition. -/
import Derived.Test.YtibfhpbklnpknaaBase
namespace Go.Proofs.Ytibfhpbklnpknaa
open Go.RowKit
set_option linter.unusedVariables false

/-- Is a word a head's? -/
def headB (n : Int) : Bool := decide (0 ≤ n) && goodB (n % 16) (n / 65536) (n % 65536 / 16)

theorem head_nn {n : Int} (h : headB n = true) : 0 ≤ n := by
  unfold headB at h; simp at h; exact h.1
theorem head_good {n : Int} (h : headB n = true) : goodB (n % 16) (n / 65536) (n % 65536 / 16) = true := by
  unfold headB at h; simp at h; exact h.2
theorem head_of {n : Int} (h0 : 0 ≤ n) (h : goodB (n % 16) (n / 65536) (n % 65536 / 16) = true) : headB n = true := by
  unfold headB; simp [h0, h]
theorem head_not {n : Int} (h0 : 0 ≤ n) (h : headB n = false) : goodB (n % 16) (n / 65536) (n % 65536 / 16) = false := by
  unfold headB at h; simpa [h0] using h
theorem head_lt {n : Int} (h : headB n = true) : n < 268435456 := by
  have h1 := head_nn h
  obtain ⟨_, _, _, h2, _⟩ := (good_iff _ _ _).1 (head_good h)
  omega
theorem head_pack {k l p : Int} (hg : goodB k l p = true) : headB (packW k l p) = true ∧ packW k l p % 16 = k ∧ packW k l p / 65536 = l ∧ packW k l p % 65536 / 16 = p := by
  obtain ⟨b1, b2, b3, b4, b5, b6, _⟩ := (good_iff k l p).1 hg
  have e1 : packW k l p % 16 = k := by unfold packW; omega
  have e2 : packW k l p / 65536 = l := by unfold packW; omega
  have e3 : packW k l p % 65536 / 16 = p := by unfold packW; omega
  exact ⟨head_of (by unfold packW; omega) (by rw [e1, e2, e3]; exact hg), e1, e2, e3⟩
theorem pack_head {n : Int} (h : headB n = true) : packW (n % 16) (n / 65536) (n % 65536 / 16) = n := by
  have := head_nn h
  unfold packW; omega

set_option maxHeartbeats 1000000 in
theorem unpack_yes (n : Int) (w : World) (h : headB n = true) :
    Calls Try.prog 43 #[.int .i64 n] w fun e w' => e = .returned (.tuple #[.agg #[.int .i64 (n % 16), .int .i64 (n / 65536), .int .i64 (n % 65536 / 16)], .int .i64 0]) ∧ Below w.heap.size w w' := by
  have h0 := head_nn h
  have hl := head_lt h
  have hg := head_good h
  go_enter Try.func43, Try.ntmps43
  go_wp2_with fail
  refine (mayBe_any _ _ _ _).mono ?_
  rintro e w' ⟨rfl, rfl⟩
  rw [hg]
  go_wp2
  exact bodyPost_ret (v := .tuple #[.agg #[.int .i64 (n % 16), .int .i64 (n / 65536), .int .i64 (n % 65536 / 16)], .int .i64 0]) (by simp [results, Try.results43, go_sem]) rfl ⟨rfl, by
    repeat (first | exact Below.refl _ _ | refine Below.setCell ?_ (by simp <;> omega) _ | refine Below.alloc ?_ (by simp <;> omega) _)⟩

set_option maxHeartbeats 1000000 in
theorem unpack_no (n : Int) (w : World) (h : headB n = false) (hw : n < 9223372036854775808) :
    Calls Try.prog 43 #[.int .i64 n] w fun e w' => e = .returned (.tuple #[.agg #[.int .i64 0, .int .i64 0, .int .i64 0], .int .i64 2]) ∧ Below w.heap.size w w' := by
  by_cases h0 : n < 0
  · go_enter Try.func43, Try.ntmps43
    go_wp2
    exact bodyPost_ret (v := .tuple #[.agg #[.int .i64 0, .int .i64 0, .int .i64 0], .int .i64 2]) (by simp [results, Try.results43, go_sem]) rfl ⟨rfl, by
      repeat (first | exact Below.refl _ _ | refine Below.setCell ?_ (by simp <;> omega) _ | refine Below.alloc ?_ (by simp <;> omega) _)⟩
  · have h1 : 0 ≤ n := by omega
    have hg := head_not h1 h
    go_enter Try.func43, Try.ntmps43
    go_wp2_with fail
    refine (mayBe_any _ _ _ _).mono ?_
    rintro e w' ⟨rfl, rfl⟩
    rw [hg]
    go_wp2
    exact bodyPost_ret (v := .tuple #[.agg #[.int .i64 0, .int .i64 0, .int .i64 0], .int .i64 2]) (by simp [results, Try.results43, go_sem]) rfl ⟨rfl, by
      repeat (first | exact Below.refl _ _ | refine Below.setCell ?_ (by simp <;> omega) _ | refine Below.alloc ?_ (by simp <;> omega) _)⟩

set_option maxHeartbeats 1000000 in
theorem refPack_any (k l p : Int) (w : World) (hg : goodB k l p = true) :
    Calls Try.prog 52 #[.agg #[.int .i64 k, .int .i64 l, .int .i64 p]] w fun e w' => e = .returned (.int .i64 (packW k l p)) ∧ w' = w.alloc (.cells #[.int .i64 k, .int .i64 l, .int .i64 p] 40) := by
  obtain ⟨b1, b2, b3, b4, b5, b6, _⟩ := (good_iff k l p).1 hg
  go_enter Try.func52, Try.ntmps52
  go_wp2
  go_ret
  exact ⟨rfl, rfl⟩

theorem refP (n : Int) (h : 0 ≤ n) : n / 16 % 4096 = n % 65536 / 16 := by omega

end Go.Proofs.Ytibfhpbklnpknaa
