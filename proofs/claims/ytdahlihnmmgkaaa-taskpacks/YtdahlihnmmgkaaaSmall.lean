/- The walks of the three smallest statements: TaskPacks, TaskWords and TaskOthers return true whatever they are handed, and turn nothing that was there. -/
import Derived.Test.YtdahlihnmmgkaaaBase
import Derived.Lib.QuietBelow
import Derived.Lib.Hide
namespace Go.Proofs.Ytdahlihnmmgkaaa
open Go.RowKit Go.Sort
set_option linter.unusedVariables false

set_option maxHeartbeats 1000000 in
theorem packs_no (a f t : Int) (w : World) (hg : goodB a f t = false) :
    Calls Try.prog 3 #[.agg #[.int .i64 a, .int .i64 f, .int .i64 t]] w fun e w' => e = .returned (.bool true) ∧ Below w.heap.size w w' := by
  go_enter Try.func3, Try.ntmps3
  go_wp2_with fail
  refine (awake_any _).mono ?_
  rintro e w1 ⟨rfl, hb1⟩
  obtain ⟨hc1, hf1⟩ := kept hb1
  have hB1 : Below w.heap.size w w1 := on ((Below.refl _ _).alloc (Nat.le_refl _) _) (by simp) hb1
  have hz1 : w.heap.size < w1.heap.size := by have := hb1.size; simp at this; omega
  go_wp2_with fail
  refine (pack_no a f t _ hg).mono ?_
  rintro e w2 ⟨rfl, hb2⟩
  obtain ⟨hc2, hf2⟩ := kept hb2
  have hB2 : Below w.heap.size w w2 := on hB1 (by omega) hb2
  have hz2 := hb2.size
  go_wp2_with fail
  refine (good_any a f t _).mono ?_
  rintro e w3 ⟨rfl, rfl⟩
  rw [hg]
  go_wp2
  go_ret
  exact ⟨rfl, hB2⟩

set_option maxHeartbeats 1000000 in
theorem packs_yes (a f t : Int) (w : World) (hg : goodB a f t = true) :
    Calls Try.prog 3 #[.agg #[.int .i64 a, .int .i64 f, .int .i64 t]] w fun e w' => e = .returned (.bool true) ∧ Below w.heap.size w w' := by
  obtain ⟨hh, e1, e2, e3⟩ := word_pack hg
  have hpos : 0 < packW a f t := by have := word_nn hh; omega
  have HE1 := Lib.hid e1
  have HE2 := Lib.hid e2
  have HE3 := Lib.hid e3
  clear e1 e2 e3
  go_enter Try.func3, Try.ntmps3
  go_wp2_with fail
  refine (awake_any _).mono ?_
  rintro e w1 ⟨rfl, hb1⟩
  obtain ⟨hc1, hf1⟩ := kept hb1
  have hB1 : Below w.heap.size w w1 := on ((Below.refl _ _).alloc (Nat.le_refl _) _) (by simp) hb1
  have hz1 : w.heap.size < w1.heap.size := by have := hb1.size; simp at this; omega
  go_wp2_with fail
  refine (pack_yes a f t _ hg).mono ?_
  rintro e w2 ⟨rfl, hb2⟩
  obtain ⟨hc2, hf2⟩ := kept hb2
  have hB2 : Below w.heap.size w w2 := on hB1 (by omega) hb2
  have hz2 := hb2.size
  have hlt2 : w.heap.size < w2.heap.size := by omega
  go_wp2_with fail
  refine (good_any a f t _).mono ?_
  rintro e w3 ⟨rfl, rfl⟩
  rw [hg]
  go_wp2_with fail
  refine (unpack_yes (packW a f t) _ hh).mono ?_
  rintro e w4 ⟨rfl, hb4⟩
  obtain ⟨hc4, hf4⟩ := kept hb4
  have hB4 : Below w.heap.size w w4 := on hB2 (by omega) hb4
  have hz4 := hb4.size
  have hlt4 : w.heap.size < w4.heap.size := by omega
  rw [HE1.out, HE2.out, HE3.out]
  obtain ⟨b1, b2, b3, b4, b5⟩ := (good_iff a f t).1 hg
  have x0 : w4.cell? ⟨w.heap.size, 0, none⟩ = some (.int .i64 a) := by go_simp
  have x1 : w4.cell? ⟨w.heap.size, 1, none⟩ = some (.int .i64 f) := by go_simp
  have x2 : w4.cell? ⟨w.heap.size, 2, none⟩ = some (.int .i64 t) := by go_simp
  obtain ⟨w5, hw5⟩ : ∃ w5, w5 = w4.alloc (.cells #[.int .i64 a, .int .i64 f, .int .i64 t] 23) := ⟨_, rfl⟩
  have hB5 : Below w.heap.size w w5 := by rw [hw5]; exact hB4.alloc (by omega) _
  have y0 : ∀ d os, (grow (redrawn w5 d) os).cell? ⟨w.heap.size, 0, none⟩ = some (.int .i64 a) := fun d os => cell_regrown (by rw [hw5]; go_simp) d os
  have y1 : ∀ d os, (grow (redrawn w5 d) os).cell? ⟨w.heap.size, 1, none⟩ = some (.int .i64 f) := fun d os => cell_regrown (by rw [hw5]; go_simp) d os
  have y2 : ∀ d os, (grow (redrawn w5 d) os).cell? ⟨w.heap.size, 2, none⟩ = some (.int .i64 t) := fun d os => cell_regrown (by rw [hw5]; go_simp) d os
  have z0 : ∀ d os, (grow (redrawn w5 d) os).cell? ⟨w4.heap.size, 0, none⟩ = some (.int .i64 a) := fun d os => cell_regrown (by rw [hw5]; go_simp) d os
  have z1 : ∀ d os, (grow (redrawn w5 d) os).cell? ⟨w4.heap.size, 1, none⟩ = some (.int .i64 f) := fun d os => cell_regrown (by rw [hw5]; go_simp) d os
  have z2 : ∀ d os, (grow (redrawn w5 d) os).cell? ⟨w4.heap.size, 2, none⟩ = some (.int .i64 t) := fun d os => cell_regrown (by rw [hw5]; go_simp) d os
  have cP : ∀ d os, Hid (Calls Try.prog 12 #[.int .i64 a, .int .i64 f, .int .i64 t] (grow (redrawn w5 d) os) fun e w' => e = .returned (.int .i64 (packW a f t)) ∧ Below (grow (redrawn w5 d) os).heap.size (grow (redrawn w5 d) os) w') := fun d os =>
    Lib.hid ((refPack_any a f t _ hg).mono (by rintro e w ⟨rfl, rfl⟩; exact ⟨rfl, Below.refl _ _⟩))
  have cL : ∀ d os, Hid (Calls Try.prog 13 #[.agg #[.int .i64 a, .int .i64 f, .int .i64 t]] (grow (redrawn w5 d) os) fun e w' => e = .returned (.int .i64 (t - f)) ∧ Below (grow (redrawn w5 d) os).heap.size (grow (redrawn w5 d) os) w') := fun d os =>
    Lib.hid ((len_any a f t _ hg).mono (by rintro e w ⟨rfl, rfl⟩; exact ⟨rfl, (Below.refl _ _).alloc (Nat.le_refl _) _⟩))
  have hmx : Try.prog.follows .mixedOrders = true := by kernel_rfl
  have eS : IntKind.i64.wrap (t - f) = t - f := IntWalk.i64_in _ (by omega)
  have HW5 := Lib.hid hw5
  generalize packW a f t = x at *
  clear hw5 x0 x1 x2 hc1 hf1 hc2 hf2 hc4 hf4 HE1 HE2 HE3
  go_wp2_with fail
  rw [← HW5.out]
  refine wp_region_quiet_below hmx (by kernel_rfl) ?_
  repeat (quiet_step (first | exact Calls.regrown_of (cP _ _).out | exact Calls.regrown_of (cL _ _).out))
  refine wpQuiet_nil ?_
  rintro w6 ⟨p, rfl⟩
  have hb6 := below_regrown w5 p.d p.os
  generalize grow (redrawn w5 p.d) p.os = w6 at *
  go_wp2
  go_ret
  exact ⟨rfl, on hB5 hB5.size hb6⟩

theorem packs_walk (a f t : Int) (w : World) :
    Calls Try.prog 3 #[.agg #[.int .i64 a, .int .i64 f, .int .i64 t]] w fun e w' => e = .returned (.bool true) ∧ Below w.heap.size w w' := by
  cases hg : goodB a f t with
  | false => exact packs_no a f t w hg
  | true => exact packs_yes a f t w hg
end Go.Proofs.Ytdahlihnmmgkaaa
