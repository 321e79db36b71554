/- What the small calls of package task and of the document's own answers on tasks do: each returns what the plain functions below say, and turns nothing that was there. No condition. -/
import Derived.Test.YtdahlihnmmgkaaaProg
import Derived.WalkKit
import Derived.WalkSpells
import Derived.WalkLawsBesides
namespace Go.Proofs.Ytdahlihnmmgkaaa
open Go.RowKit
set_option linter.unusedVariables false

/-- May there be such a task? -/
def goodB (a f t : Int) : Bool := decide (0 ≤ a ∧ a ≤ 65535 ∧ 0 ≤ f ∧ f ≤ t ∧ t ≤ 4095)

theorem good_iff (a f t : Int) : goodB a f t = true ↔ (0 ≤ a ∧ a ≤ 65535 ∧ 0 ≤ f ∧ f ≤ t ∧ t ≤ 4095) := by
  unfold goodB; exact decide_eq_true_iff
theorem good_yes {a f t : Int} (h : 0 ≤ a ∧ a ≤ 65535 ∧ 0 ≤ f ∧ f ≤ t ∧ t ≤ 4095) : goodB a f t = true := (good_iff a f t).2 h
theorem good_no {a f t : Int} (h : ¬ (0 ≤ a ∧ a ≤ 65535 ∧ 0 ≤ f ∧ f ≤ t ∧ t ≤ 4095)) : goodB a f t = false := by
  unfold goodB; exact decide_eq_false h

/-- A bool is handed back. -/
theorem ret_bool {a b : Bool} (h : a = b) : Ending.returned (.bool a) = .returned (.bool b) := by rw [h]

/-- Behind a call that turned nothing old: old cells, and old marks, are as they were. -/
theorem kept {W w1 : World} (hb : Below W.heap.size W w1) : (∀ b o, b < W.heap.size → w1.cell? ⟨b, o, none⟩ = W.cell? ⟨b, o, none⟩) ∧ (∀ b o, b < W.heap.size → w1.frozen? ⟨b, o, none⟩ = W.frozen? ⟨b, o, none⟩) :=
  ⟨fun _ _ h => hb.cell h, fun _ _ h => hb.frozen h⟩

/-- One step more, behind which nothing that was there has turned. -/
theorem on {B : Nat} {a b c : World} (h : Below B a b) (hB : B ≤ b.heap.size) (k : Below b.heap.size b c) : Below B a c := h.trans (k.mono hB)

set_option maxHeartbeats 1000000 in
theorem mayBe_any (a f t : Int) (w : World) :
    Calls Try.prog 16 #[.agg #[.int .i64 a, .int .i64 f, .int .i64 t]] w fun e w' => e = .returned (.bool (goodB a f t)) ∧ w' = w.alloc (.cells #[.int .i64 a, .int .i64 f, .int .i64 t] 23) := by
  by_cases h1 : a < 0
  · go_enter Try.func16, Try.ntmps16
    go_wp2
    go_ret
    exact ⟨ret_bool (good_no (by omega)).symm, rfl⟩
  by_cases h2 : 65535 < a
  · go_enter Try.func16, Try.ntmps16
    go_wp2
    go_ret
    exact ⟨ret_bool (good_no (by omega)).symm, rfl⟩
  by_cases h3 : f < 0
  · go_enter Try.func16, Try.ntmps16
    go_wp2
    go_ret
    exact ⟨ret_bool (good_no (by omega)).symm, rfl⟩
  by_cases h4 : t < f
  · go_enter Try.func16, Try.ntmps16
    go_wp2
    go_ret
    exact ⟨ret_bool (good_no (by omega)).symm, rfl⟩
  by_cases h5 : 4095 < t
  · have hf : goodB a f t = false := good_no (by omega)
    go_enter Try.func16, Try.ntmps16
    go_wp2
    go_ret
    exact ⟨ret_bool (decide_eq_false (by omega)), rfl⟩
  · go_enter Try.func16, Try.ntmps16
    go_wp2
    go_ret
    exact ⟨ret_bool (good_yes (by omega)).symm, rfl⟩

set_option maxHeartbeats 1000000 in
theorem good_any (a f t : Int) (w : World) :
    Calls Try.prog 10 #[.int .i64 a, .int .i64 f, .int .i64 t] w fun e w' => e = .returned (.bool (goodB a f t)) ∧ w' = w := by
  by_cases h1 : a < 0
  · go_enter Try.func10, Try.ntmps10
    go_wp2
    go_ret
    exact ⟨ret_bool (good_no (by omega)).symm, rfl⟩
  by_cases h2 : 65535 < a
  · go_enter Try.func10, Try.ntmps10
    go_wp2
    go_ret
    exact ⟨ret_bool (good_no (by omega)).symm, rfl⟩
  by_cases h3 : f < 0
  · go_enter Try.func10, Try.ntmps10
    go_wp2
    go_ret
    exact ⟨ret_bool (good_no (by omega)).symm, rfl⟩
  by_cases h4 : t < f
  · go_enter Try.func10, Try.ntmps10
    go_wp2
    go_ret
    exact ⟨ret_bool (good_no (by omega)).symm, rfl⟩
  by_cases h5 : 4095 < t
  · have hf : goodB a f t = false := good_no (by omega)
    go_enter Try.func10, Try.ntmps10
    go_wp2
    go_ret
    exact ⟨ret_bool (decide_eq_false (by omega)), rfl⟩
  · go_enter Try.func10, Try.ntmps10
    go_wp2
    go_ret
    exact ⟨ret_bool (good_yes (by omega)).symm, rfl⟩

/-- A task's word. -/
def packW (a f t : Int) : Int := 1 + a + 65536 * f + 268435456 * t

set_option maxHeartbeats 1000000 in
theorem pack_yes (a f t : Int) (w : World) (hg : goodB a f t = true) :
    Calls Try.prog 9 #[.agg #[.int .i64 a, .int .i64 f, .int .i64 t]] w fun e w' => e = .returned (.tuple #[.int .i64 (packW a f t), .int .i64 0]) ∧ Below w.heap.size w w' := by
  obtain ⟨b1, b2, b3, b4, b5⟩ := (good_iff a f t).1 hg
  go_enter Try.func9, Try.ntmps9
  go_wp2_with fail
  refine (mayBe_any a f t _).mono ?_
  rintro e w' ⟨rfl, rfl⟩
  rw [hg]
  go_wp2
  go_ret2
  exact ⟨rfl, ((Below.refl _ _).alloc (Nat.le_refl _) _).alloc (by simp) _⟩

set_option maxHeartbeats 1000000 in
theorem pack_no (a f t : Int) (w : World) (hg : goodB a f t = false) :
    Calls Try.prog 9 #[.agg #[.int .i64 a, .int .i64 f, .int .i64 t]] w fun e w' => e = .returned (.tuple #[.int .i64 0, .int .i64 1]) ∧ Below w.heap.size w w' := by
  go_enter Try.func9, Try.ntmps9
  go_wp2_with fail
  refine (mayBe_any a f t _).mono ?_
  rintro e w' ⟨rfl, rfl⟩
  rw [hg]
  go_wp2
  go_ret2
  exact ⟨rfl, ((Below.refl _ _).alloc (Nat.le_refl _) _).alloc (by simp) _⟩

/-- Is a word a task's? -/
def wordB (n : Int) : Bool := decide (1 ≤ n) && goodB ((n - 1) % 65536) ((n - 1) % 268435456 / 65536) ((n - 1) / 268435456)

theorem word_nn {n : Int} (h : wordB n = true) : 1 ≤ n := by
  unfold wordB at h; simp at h; exact h.1
theorem word_good {n : Int} (h : wordB n = true) : goodB ((n - 1) % 65536) ((n - 1) % 268435456 / 65536) ((n - 1) / 268435456) = true := by
  unfold wordB at h; simp at h; exact h.2
theorem word_of {n : Int} (h0 : 1 ≤ n) (h : goodB ((n - 1) % 65536) ((n - 1) % 268435456 / 65536) ((n - 1) / 268435456) = true) : wordB n = true := by
  unfold wordB; simp [h0, h]
theorem word_not {n : Int} (h0 : 1 ≤ n) (h : wordB n = false) : goodB ((n - 1) % 65536) ((n - 1) % 268435456 / 65536) ((n - 1) / 268435456) = false := by
  unfold wordB at h; simpa [h0] using h
theorem word_lt {n : Int} (h : wordB n = true) : n ≤ 1099511627776 := by
  have h1 := word_nn h
  obtain ⟨_, _, _, _, h2⟩ := (good_iff _ _ _).1 (word_good h)
  omega
theorem word_pack {a f t : Int} (hg : goodB a f t = true) : wordB (packW a f t) = true ∧ (packW a f t - 1) % 65536 = a ∧ (packW a f t - 1) % 268435456 / 65536 = f ∧ (packW a f t - 1) / 268435456 = t := by
  obtain ⟨b1, b2, b3, b4, b5⟩ := (good_iff a f t).1 hg
  have e1 : (packW a f t - 1) % 65536 = a := by unfold packW; omega
  have e2 : (packW a f t - 1) % 268435456 / 65536 = f := by unfold packW; omega
  have e3 : (packW a f t - 1) / 268435456 = t := by unfold packW; omega
  exact ⟨word_of (by unfold packW; omega) (by rw [e1, e2, e3]; exact hg), e1, e2, e3⟩
theorem pack_word {n : Int} (h : wordB n = true) : packW ((n - 1) % 65536) ((n - 1) % 268435456 / 65536) ((n - 1) / 268435456) = n := by
  have := word_nn h
  unfold packW; omega
theorem packs_eq {a f t a' f' t' : Int} (hg : goodB a f t = true) (hg' : goodB a' f' t' = true) :
    (packW a f t = packW a' f' t' ↔ a = a' ∧ f = f' ∧ t = t') := by
  obtain ⟨b1, b2, b3, b4, b5⟩ := (good_iff a f t).1 hg
  obtain ⟨c1, c2, c3, c4, c5⟩ := (good_iff a' f' t').1 hg'
  unfold packW; omega

set_option maxHeartbeats 1000000 in
theorem unpack_yes (n : Int) (w : World) (h : wordB n = true) :
    Calls Try.prog 11 #[.int .i64 n] w fun e w' => e = .returned (.tuple #[.agg #[.int .i64 ((n - 1) % 65536), .int .i64 ((n - 1) % 268435456 / 65536), .int .i64 ((n - 1) / 268435456)], .int .i64 0]) ∧ Below w.heap.size w w' := by
  have h0 := word_nn h
  have hl := word_lt h
  have hg := word_good h
  go_enter Try.func11, Try.ntmps11
  go_wp2_with fail
  refine (mayBe_any _ _ _ _).mono ?_
  rintro e w' ⟨rfl, rfl⟩
  rw [hg]
  go_wp2
  exact bodyPost_ret (v := .tuple #[.agg #[.int .i64 ((n - 1) % 65536), .int .i64 ((n - 1) % 268435456 / 65536), .int .i64 ((n - 1) / 268435456)], .int .i64 0]) (by simp [results, Try.results11, go_sem]) rfl ⟨rfl, by
    repeat (first | exact Below.refl _ _ | refine Below.setCell ?_ (by simp <;> omega) _ | refine Below.alloc ?_ (by simp <;> omega) _)⟩

set_option maxHeartbeats 1000000 in
theorem unpack_no (n : Int) (w : World) (h : wordB n = false) (hw : n < 9223372036854775808) :
    Calls Try.prog 11 #[.int .i64 n] w fun e w' => e = .returned (.tuple #[.agg #[.int .i64 0, .int .i64 0, .int .i64 0], .int .i64 2]) ∧ Below w.heap.size w w' := by
  by_cases h0 : n < 1
  · go_enter Try.func11, Try.ntmps11
    go_wp2
    exact bodyPost_ret (v := .tuple #[.agg #[.int .i64 0, .int .i64 0, .int .i64 0], .int .i64 2]) (by simp [results, Try.results11, go_sem]) rfl ⟨rfl, by
      repeat (first | exact Below.refl _ _ | refine Below.setCell ?_ (by simp <;> omega) _ | refine Below.alloc ?_ (by simp <;> omega) _)⟩
  · have h1 : 1 ≤ n := by omega
    have hg := word_not h1 h
    go_enter Try.func11, Try.ntmps11
    go_wp2_with fail
    refine (mayBe_any _ _ _ _).mono ?_
    rintro e w' ⟨rfl, rfl⟩
    rw [hg]
    go_wp2
    exact bodyPost_ret (v := .tuple #[.agg #[.int .i64 0, .int .i64 0, .int .i64 0], .int .i64 2]) (by simp [results, Try.results11, go_sem]) rfl ⟨rfl, by
      repeat (first | exact Below.refl _ _ | refine Below.setCell ?_ (by simp <;> omega) _ | refine Below.alloc ?_ (by simp <;> omega) _)⟩

set_option maxHeartbeats 1000000 in
theorem refPack_any (a f t : Int) (w : World) (hg : goodB a f t = true) :
    Calls Try.prog 12 #[.int .i64 a, .int .i64 f, .int .i64 t] w fun e w' => e = .returned (.int .i64 (packW a f t)) ∧ w' = w := by
  obtain ⟨b1, b2, b3, b4, b5⟩ := (good_iff a f t).1 hg
  go_enter Try.func12, Try.ntmps12
  go_wp2
  go_ret
  exact ⟨rfl, rfl⟩

theorem refP (n : Int) (h : 1 ≤ n) : (n - 1) / 65536 % 4096 = (n - 1) % 268435456 / 65536 := by omega

set_option maxHeartbeats 1000000 in
theorem refUnpack_yes (n : Int) (w : World) (h : wordB n = true) :
    Calls Try.prog 14 #[.int .i64 n] w fun e w' => e = .returned (.tuple #[.int .i64 ((n - 1) % 65536), .int .i64 ((n - 1) % 268435456 / 65536), .int .i64 ((n - 1) / 268435456), .bool true]) ∧ Below w.heap.size w w' := by
  have h0 := word_nn h
  have hl := word_lt h
  have hg := word_good h
  have hp := refP n h0
  go_enter Try.func14, Try.ntmps14
  go_wp2_with fail
  refine (good_any _ _ _ _).mono ?_
  rintro e w' ⟨rfl, rfl⟩
  rw [hg]
  go_wp2
  exact bodyPost_ret (v := .tuple #[.int .i64 ((n - 1) % 65536), .int .i64 ((n - 1) % 268435456 / 65536), .int .i64 ((n - 1) / 268435456), .bool true]) (by simp [results, Try.results14, go_sem]) rfl ⟨rfl, by
    repeat (first | exact Below.refl _ _ | refine Below.setCell ?_ (by simp <;> omega) _ | refine Below.alloc ?_ (by simp <;> omega) _)⟩

set_option maxHeartbeats 1000000 in
theorem refUnpack_no (n : Int) (w : World) (h : wordB n = false) (hw : n < 9223372036854775808) :
    Calls Try.prog 14 #[.int .i64 n] w fun e w' => e = .returned (.tuple #[.int .i64 0, .int .i64 0, .int .i64 0, .bool false]) ∧ Below w.heap.size w w' := by
  by_cases h0 : n < 1
  · go_enter Try.func14, Try.ntmps14
    go_wp2
    exact bodyPost_ret (v := .tuple #[.int .i64 0, .int .i64 0, .int .i64 0, .bool false]) (by simp [results, Try.results14, go_sem]) rfl ⟨rfl, by
      repeat (first | exact Below.refl _ _ | refine Below.setCell ?_ (by simp <;> omega) _ | refine Below.alloc ?_ (by simp <;> omega) _)⟩
  · have h1 : 1 ≤ n := by omega
    have hg := word_not h1 h
    have hp := refP n h1
    go_enter Try.func14, Try.ntmps14
    go_wp2_with fail
    refine (good_any _ _ _ _).mono ?_
    rintro e w' ⟨rfl, rfl⟩
    rw [hg]
    go_wp2
    exact bodyPost_ret (v := .tuple #[.int .i64 0, .int .i64 0, .int .i64 0, .bool false]) (by simp [results, Try.results14, go_sem]) rfl ⟨rfl, by
      repeat (first | exact Below.refl _ _ | refine Below.setCell ?_ (by simp <;> omega) _ | refine Below.alloc ?_ (by simp <;> omega) _)⟩

set_option maxHeartbeats 1000000 in
theorem len_any (a f t : Int) (w : World) (hg : goodB a f t = true) :
    Calls Try.prog 13 #[.agg #[.int .i64 a, .int .i64 f, .int .i64 t]] w fun e w' => e = .returned (.int .i64 (t - f)) ∧ w' = w.alloc (.cells #[.int .i64 a, .int .i64 f, .int .i64 t] 23) := by
  obtain ⟨b1, b2, b3, b4, b5⟩ := (good_iff a f t).1 hg
  go_enter Try.func13, Try.ntmps13
  go_wp2
  go_ret
  exact ⟨rfl, rfl⟩

set_option maxHeartbeats 1000000 in
theorem awake_any (w : World) : Calls Try.prog 8 #[] w fun e w' => e = .returned (.bool true) ∧ Below w.heap.size w w' := by
  go_enter Try.func8, Try.ntmps8
  go_wp2_with fail
  refine (pack_yes 0 0 0 _ (by decide)).mono ?_
  rintro e w' ⟨rfl, hb⟩
  have e1 : packW 0 0 0 = 1 := by decide
  rw [e1]
  go_wp2
  go_ret
  exact ⟨rfl, hb⟩
end Go.Proofs.Ytdahlihnmmgkaaa
