/- What Split answers: the parts one behind the other, each of as many words as are told but for the last one, which has what is left. -/
import Derived.Test.YtdahlihnmmgkaaaMem
namespace Go.Proofs.Ytdahlihnmmgkaaa
open Go.RowKit
set_option linter.unusedVariables false
set_option linter.unusedSimpArgs false

def sz : Value → Nat
  | .slice _ n _ => n
  | _ => 0

set_option maxRecDepth 100000 in
set_option maxHeartbeats 2000000 in
theorem split_big (a f t p : Int) (w : World) (hg : goodB a f t = true) (hp : 1 < p) :
    Calls Try.prog 15 #[.agg #[.int .i64 a, .int .i64 f, .int .i64 t], .int .i64 p] w fun e w' => ∃ g c k, e = .returned (.slice (some ⟨g, 0, none⟩) (k + 1) c) ∧ Split w' w a f t p g c k := by
  obtain ⟨b1, b2, b3, b4, b5⟩ := (good_iff a f t).1 hg
  go_enter Try.func15, Try.ntmps15
  go_wp2_with fail
  refine (mayBe_any a f t _).mono ?_
  rintro e w1 ⟨rfl, rfl⟩
  rw [hg]
  obtain ⟨W1, hW1⟩ : ∃ W1, W1 = (w.alloc (.cells #[.int .i64 a, .int .i64 f, .int .i64 t] 23)).alloc (.cells #[.int .i64 a, .int .i64 f, .int .i64 t] 23) := ⟨_, rfl⟩
  have S0 : Sp W1 w a f t p none 0 0 := ⟨World.ownsRow_nil _ _ _ _, by rw [hW1]; exact (Lies.new w 23 [_, _, _]).alloc _, by rw [hW1]; exact (below_one _ _).alloc (by simp) _, b4, fun h => by omega⟩
  rw [← hW1]
  have H0 := Lib.hid S0
  clear hW1 S0
  go_wp2
  go_loopw [5] (fun v wr => ∃ (k : Nat) (A : Option Addr) (c : Nat), v = .slice A k c ∧ Sp wr w a f t p A c k) (fun v _ => 4096 - sz v)
  case atStart => exact ⟨0, none, 0, rfl, H0.out⟩
  case round =>
    obtain ⟨k, A, c, rfl, S⟩ := hrel
    have x0 : wr.cell? ⟨w.heap.size, 0, none⟩ = some (.int .i64 a) := S.box.cell 0
    have x1 : wr.cell? ⟨w.heap.size, 1, none⟩ = some (.int .i64 (fr f p k)) := S.box.cell 1
    have x2 : wr.cell? ⟨w.heap.size, 2, none⟩ = some (.int .i64 t) := S.box.cell 2
    have hle := S.le
    have hge := fr_ge f p (by omega) k
    have HS := Lib.hid S
    have hlt := S.box.lt
    clear S
    obtain ⟨F, hF⟩ : ∃ F, fr f p k = F := ⟨_, rfl⟩
    have HF := Lib.hid hF
    rw [hF] at x1 hle hge
    clear hF
    have hk : k ≤ 4095 := by omega
    have hf0 : 0 ≤ F := by omega
    have hgk : goodB a F t = true := good_yes (by omega)
    have HGE := Lib.hid hge
    clear hge
    by_cases hmore : p < t - F
    · obtain ⟨w2, hw2⟩ : ∃ w2, w2 = wr.alloc (.cells #[.int .i64 a, .int .i64 F, .int .i64 t] 23) := ⟨_, rfl⟩
      have B2 : Below wr.heap.size wr w2 := by rw [hw2]; exact below_one _ _
      have O2 := owns_kept HS.out.own B2
      have L2 := HS.out.box.kept B2
      rw [HF.out] at L2
      have D2 := on HS.out.old HS.out.old.size B2
      have hs2 : w.heap.size + 1 ≤ w2.heap.size := by have := B2.size; omega
      have y0 : w2.cell? ⟨w.heap.size, 0, none⟩ = some (.int .i64 a) := L2.cell 0
      have y1 : w2.cell? ⟨w.heap.size, 1, none⟩ = some (.int .i64 F) := L2.cell 1
      have y2 : w2.cell? ⟨w.heap.size, 2, none⟩ = some (.int .i64 t) := L2.cell 2
      have HNW := Lib.hid (news_new w2 a F (F + p))
      have HOW := Lib.hid (fun Y => owns_kept O2 (below_one w2 Y))
      have HBW : Hid (∀ Y, w.heap.size + 1 ≤ (w2.alloc Y).heap.size) := Lib.hid (fun Y => Nat.le_trans hs2 (below_one w2 Y).size)
      have HDW := Lib.hid (fun Y => on D2 D2.size (below_one w2 Y))
      have HLW := Lib.hid (fun Y => L2.kept (below_one w2 Y))
      have HW2 := Lib.hid hw2
      clear hw2 B2 O2 L2 D2
      go_wp2_with fail
      refine (len_any a F t _ hgk).mono ?_
      rintro e w3 ⟨rfl, rfl⟩
      rw [← HW2.out]
      clear x0 x1 x2
      go_wp2_with (refine wpList_part rfl (.tmp 15) (.tmp 25) rfl (w.heap.size + 1) A c k (full a f p k) (by simp [Act.eval, Act.put]) (HOW.out _) _ a F (F + p) (by simp [Act.eval, Act.put]) HNW.out (by omega) (HBW.out _) ?_; intro g5 c5 w5 O5 G5; have D5 := Lib.hid (below_grown (HDW.out _) (HOW.out _) (by omega) (Nat.le_refl _) G5); have L5 := lies_grown (HLW.out _) (HOW.out _) (by omega) G5; have HO5 := Lib.hid O5; clear O5 G5; have HL5 := Lib.hid L5; have z1 : w5.cell? ⟨w.heap.size, 1, none⟩ = some (.int .i64 F) := L5.cell 1; have zf : w5.frozen? ⟨w.heap.size, 1, none⟩ = false := L5.frozen 1; clear L5)
      refine ⟨⟨k + 1, _, _, rfl, ?_⟩, by simp [sz]; omega⟩
      have hS : fr f p (k + 1) = F + p := by simp only [fr]; rw [HF.out]
      refine ⟨?_, ?_, D5.out.setCell (p := ⟨w.heap.size, 1, none⟩) (Nat.le_refl _) _, by rw [hS]; omega, fun _ => by rw [hS]; omega⟩
      · have h := owns_set (j := 1) HO5.out (Nat.lt_succ_self w.heap.size) (.int .i64 (F + p))
        unfold full
        rw [hS, HF.out]; exact h
      · rw [hS]
        exact HL5.out.set 1 (.int .i64 (F + p))
    · obtain ⟨w2, hw2⟩ : ∃ w2, w2 = wr.alloc (.cells #[.int .i64 a, .int .i64 F, .int .i64 t] 23) := ⟨_, rfl⟩
      have B2 : Below wr.heap.size wr w2 := by rw [hw2]; exact below_one _ _
      have O2 := owns_kept HS.out.own B2
      have L2 := HS.out.box.kept B2
      rw [HF.out] at L2
      have D2 := on HS.out.old HS.out.old.size B2
      have hs2 : w.heap.size + 1 ≤ w2.heap.size := by have := B2.size; omega
      have y0 : w2.cell? ⟨w.heap.size, 0, none⟩ = some (.int .i64 a) := L2.cell 0
      have y1 : w2.cell? ⟨w.heap.size, 1, none⟩ = some (.int .i64 F) := L2.cell 1
      have y2 : w2.cell? ⟨w.heap.size, 2, none⟩ = some (.int .i64 t) := L2.cell 2
      have HNW := Lib.hid (news_new w2 a F t)
      have HOW := Lib.hid (fun Y => owns_kept O2 (below_one w2 Y))
      have HBW : Hid (∀ Y, w.heap.size + 1 ≤ (w2.alloc Y).heap.size) := Lib.hid (fun Y => Nat.le_trans hs2 (below_one w2 Y).size)
      have HDW := Lib.hid (fun Y => on D2 D2.size (below_one w2 Y))
      have HW2 := Lib.hid hw2
      clear hw2 B2 O2 L2 D2
      go_wp2_with fail
      refine (len_any a F t _ hgk).mono ?_
      rintro e w3 ⟨rfl, rfl⟩
      rw [← HW2.out]
      clear x0 x1 x2
      go_wp2_with (refine wpList_part rfl (.tmp 32) (.tmp 34) rfl (w.heap.size + 1) A c k (full a f p k) (by simp [Act.eval, Act.put]) (HOW.out _) _ a F t (by simp [Act.eval, Act.put]) HNW.out (by omega) (HBW.out _) ?_; intro g5 c5 w5 O5 G5; have D5 := Lib.hid (below_grown (HDW.out _) (HOW.out _) (by omega) (Nat.le_refl _) G5); have HO5 := Lib.hid O5; clear O5 G5)
      go_ret
      refine ⟨g5, c5, k, rfl, ?_, D5.out, by rw [HF.out]; omega, fun h => by have := HS.out.lt h; omega, by rw [HF.out]; omega, hk⟩
      unfold row
      rw [HF.out]
      exact owns_base HO5.out (by omega)

set_option maxRecDepth 100000 in
set_option maxHeartbeats 2000000 in
theorem split_one (a f t p : Int) (w : World) (hg : goodB a f t = true) (hp : p ≤ 1) :
    Calls Try.prog 15 #[.agg #[.int .i64 a, .int .i64 f, .int .i64 t], .int .i64 p] w fun e w' => ∃ g c k, e = .returned (.slice (some ⟨g, 0, none⟩) (k + 1) c) ∧ Split w' w a f t 1 g c k := by
  obtain ⟨b1, b2, b3, b4, b5⟩ := (good_iff a f t).1 hg
  go_enter Try.func15, Try.ntmps15
  go_wp2_with fail
  refine (mayBe_any a f t _).mono ?_
  rintro e w1 ⟨rfl, rfl⟩
  rw [hg]
  obtain ⟨W1, hW1⟩ : ∃ W1, W1 = (w.alloc (.cells #[.int .i64 a, .int .i64 f, .int .i64 t] 23)).alloc (.cells #[.int .i64 a, .int .i64 f, .int .i64 t] 23) := ⟨_, rfl⟩
  have S0 : Sp W1 w a f t 1 none 0 0 := ⟨World.ownsRow_nil _ _ _ _, by rw [hW1]; exact (Lies.new w 23 [_, _, _]).alloc _, by rw [hW1]; exact (below_one _ _).alloc (by simp) _, b4, fun h => by omega⟩
  rw [← hW1]
  have H0 := Lib.hid S0
  clear hW1 S0
  go_wp2
  go_loopw [5] (fun v wr => ∃ (k : Nat) (A : Option Addr) (c : Nat), v = .slice A k c ∧ Sp wr w a f t 1 A c k) (fun v _ => 4096 - sz v)
  case atStart => exact ⟨0, none, 0, rfl, H0.out⟩
  case round =>
    obtain ⟨k, A, c, rfl, S⟩ := hrel
    have x0 : wr.cell? ⟨w.heap.size, 0, none⟩ = some (.int .i64 a) := S.box.cell 0
    have x1 : wr.cell? ⟨w.heap.size, 1, none⟩ = some (.int .i64 (fr f 1 k)) := S.box.cell 1
    have x2 : wr.cell? ⟨w.heap.size, 2, none⟩ = some (.int .i64 t) := S.box.cell 2
    have hle := S.le
    have hge := fr_ge f 1 (by omega) k
    have HS := Lib.hid S
    have hlt := S.box.lt
    clear S
    obtain ⟨F, hF⟩ : ∃ F, fr f 1 k = F := ⟨_, rfl⟩
    have HF := Lib.hid hF
    rw [hF] at x1 hle hge
    clear hF
    have hk : k ≤ 4095 := by omega
    have hf0 : 0 ≤ F := by omega
    have hgk : goodB a F t = true := good_yes (by omega)
    have HGE := Lib.hid hge
    clear hge
    by_cases hmore : 1 < t - F
    · obtain ⟨w2, hw2⟩ : ∃ w2, w2 = wr.alloc (.cells #[.int .i64 a, .int .i64 F, .int .i64 t] 23) := ⟨_, rfl⟩
      have B2 : Below wr.heap.size wr w2 := by rw [hw2]; exact below_one _ _
      have O2 := owns_kept HS.out.own B2
      have L2 := HS.out.box.kept B2
      rw [HF.out] at L2
      have D2 := on HS.out.old HS.out.old.size B2
      have hs2 : w.heap.size + 1 ≤ w2.heap.size := by have := B2.size; omega
      have y0 : w2.cell? ⟨w.heap.size, 0, none⟩ = some (.int .i64 a) := L2.cell 0
      have y1 : w2.cell? ⟨w.heap.size, 1, none⟩ = some (.int .i64 F) := L2.cell 1
      have y2 : w2.cell? ⟨w.heap.size, 2, none⟩ = some (.int .i64 t) := L2.cell 2
      have HNW := Lib.hid (news_new w2 a F (F + 1))
      have HOW := Lib.hid (fun Y => owns_kept O2 (below_one w2 Y))
      have HBW : Hid (∀ Y, w.heap.size + 1 ≤ (w2.alloc Y).heap.size) := Lib.hid (fun Y => Nat.le_trans hs2 (below_one w2 Y).size)
      have HDW := Lib.hid (fun Y => on D2 D2.size (below_one w2 Y))
      have HLW := Lib.hid (fun Y => L2.kept (below_one w2 Y))
      have HW2 := Lib.hid hw2
      clear hw2 B2 O2 L2 D2
      go_wp2_with fail
      refine (len_any a F t _ hgk).mono ?_
      rintro e w3 ⟨rfl, rfl⟩
      rw [← HW2.out]
      clear x0 x1 x2
      go_wp2_with (refine wpList_part rfl (.tmp 15) (.tmp 25) rfl (w.heap.size + 1) A c k (full a f 1 k) (by simp [Act.eval, Act.put]) (HOW.out _) _ a F (F + 1) (by simp [Act.eval, Act.put]) HNW.out (by omega) (HBW.out _) ?_; intro g5 c5 w5 O5 G5; have D5 := Lib.hid (below_grown (HDW.out _) (HOW.out _) (by omega) (Nat.le_refl _) G5); have L5 := lies_grown (HLW.out _) (HOW.out _) (by omega) G5; have HO5 := Lib.hid O5; clear O5 G5; have HL5 := Lib.hid L5; have z1 : w5.cell? ⟨w.heap.size, 1, none⟩ = some (.int .i64 F) := L5.cell 1; have zf : w5.frozen? ⟨w.heap.size, 1, none⟩ = false := L5.frozen 1; clear L5)
      refine ⟨⟨k + 1, _, _, rfl, ?_⟩, by simp [sz]; omega⟩
      have hS : fr f 1 (k + 1) = F + 1 := by simp only [fr]; rw [HF.out]
      refine ⟨?_, ?_, D5.out.setCell (p := ⟨w.heap.size, 1, none⟩) (Nat.le_refl _) _, by rw [hS]; omega, fun _ => by rw [hS]; omega⟩
      · have h := owns_set (j := 1) HO5.out (Nat.lt_succ_self w.heap.size) (.int .i64 (F + 1))
        unfold full
        rw [hS, HF.out]; exact h
      · rw [hS]
        exact HL5.out.set 1 (.int .i64 (F + 1))
    · obtain ⟨w2, hw2⟩ : ∃ w2, w2 = wr.alloc (.cells #[.int .i64 a, .int .i64 F, .int .i64 t] 23) := ⟨_, rfl⟩
      have B2 : Below wr.heap.size wr w2 := by rw [hw2]; exact below_one _ _
      have O2 := owns_kept HS.out.own B2
      have L2 := HS.out.box.kept B2
      rw [HF.out] at L2
      have D2 := on HS.out.old HS.out.old.size B2
      have hs2 : w.heap.size + 1 ≤ w2.heap.size := by have := B2.size; omega
      have y0 : w2.cell? ⟨w.heap.size, 0, none⟩ = some (.int .i64 a) := L2.cell 0
      have y1 : w2.cell? ⟨w.heap.size, 1, none⟩ = some (.int .i64 F) := L2.cell 1
      have y2 : w2.cell? ⟨w.heap.size, 2, none⟩ = some (.int .i64 t) := L2.cell 2
      have HNW := Lib.hid (news_new w2 a F t)
      have HOW := Lib.hid (fun Y => owns_kept O2 (below_one w2 Y))
      have HBW : Hid (∀ Y, w.heap.size + 1 ≤ (w2.alloc Y).heap.size) := Lib.hid (fun Y => Nat.le_trans hs2 (below_one w2 Y).size)
      have HDW := Lib.hid (fun Y => on D2 D2.size (below_one w2 Y))
      have HW2 := Lib.hid hw2
      clear hw2 B2 O2 L2 D2
      go_wp2_with fail
      refine (len_any a F t _ hgk).mono ?_
      rintro e w3 ⟨rfl, rfl⟩
      rw [← HW2.out]
      clear x0 x1 x2
      go_wp2_with (refine wpList_part rfl (.tmp 32) (.tmp 34) rfl (w.heap.size + 1) A c k (full a f 1 k) (by simp [Act.eval, Act.put]) (HOW.out _) _ a F t (by simp [Act.eval, Act.put]) HNW.out (by omega) (HBW.out _) ?_; intro g5 c5 w5 O5 G5; have D5 := Lib.hid (below_grown (HDW.out _) (HOW.out _) (by omega) (Nat.le_refl _) G5); have HO5 := Lib.hid O5; clear O5 G5)
      go_ret
      refine ⟨g5, c5, k, rfl, ?_, D5.out, by rw [HF.out]; omega, fun h => by have := HS.out.lt h; omega, by rw [HF.out]; omega, hk⟩
      unfold row
      rw [HF.out]
      exact owns_base HO5.out (by omega)

/-- As many words as a part has. -/
def most (p : Int) : Int := if p ≤ 1 then 1 else p
theorem most_ge (p : Int) : 1 ≤ most p := by unfold most; split <;> omega

theorem split_any (a f t p : Int) (w : World) (hg : goodB a f t = true) :
    Calls Try.prog 15 #[.agg #[.int .i64 a, .int .i64 f, .int .i64 t], .int .i64 p] w fun e w' => ∃ g c k, e = .returned (.slice (some ⟨g, 0, none⟩) (k + 1) c) ∧ Split w' w a f t (most p) g c k := by
  unfold most
  by_cases h : p ≤ 1
  · rw [if_pos h]; exact split_one a f t p w hg h
  · rw [if_neg h]; exact split_big a f t p w hg (by omega)
end Go.Proofs.Ytdahlihnmmgkaaa
