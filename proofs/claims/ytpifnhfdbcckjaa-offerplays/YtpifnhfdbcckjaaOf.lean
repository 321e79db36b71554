/- New, Offer, Look, Back and Over of an offer. -/
import Derived.Test.YtpifnhfdbcckjaaIm
import Derived.Deep.RegionHeld3
namespace Go.Proofs.Ytpifnhfdbcckjaa
open Go.RowKit
set_option linter.unusedVariables false
set_option linter.unusedSimpArgs false

theorem infoB : ∃ i, Try.prog.info? 4 = some i ∧ i.zero = some (.bool false) ∧ i.size = 1 ∧ i.bytes = 1 := ⟨_, rfl, rfl, rfl, rfl⟩
theorem makeB (n : Nat) (hn : n ≤ 64) (w : World) : (Instr.makeSlice 28 (.int .i64 (n : Int)) (.int .i64 (n : Int))).run Try.prog w = .ok (.slice (some ⟨w.heap.size, 0, none⟩) n n) (w.alloc (.cells ((List.replicate n false).map Value.bool).toArray 4)) := by
  obtain ⟨i0, hi0, hz0, hz1, hz2⟩ := infoB
  have := run_make (P := Try.prog) w 28 4 i0 _ Try.underlying28 hi0 hz0 .i64 .i64 n n (by omega) (Int.le_refl _) (by rw [hz2]; omega) (by omega)
  rw [this, hz1]
  simp [Value.cells, made_one]

theorem onew_end {n : Nat} {w w1 : World} {base g gw : Nat} {X : Obj} (hb : base ≤ w.heap.size) (hX : X = .cells ((List.replicate n false).map Value.bool).toArray 4) (B1 : Below w.heap.size w w1) (q1 : w.heap.size ≤ g) (q2 : w.heap.size ≤ gw) (H1 : At w1 base g gw (List.replicate 1 0) none 0 []) :
    Below w.heap.size w ((w1.alloc X).alloc (.cells #[.slice (some ⟨w1.heap.size, 0, none⟩) n n, .pointer (some ⟨g, 0, none⟩)] 46)) ∧ ∃ S, Oq ((w1.alloc X).alloc (.cells #[.slice (some ⟨w1.heap.size, 0, none⟩) n n, .pointer (some ⟨g, 0, none⟩)] 46)) base (w1.heap.size + 1) (List.replicate n false) 0 [] S ∧ ∀ k, S k → w.heap.size ≤ k := by
  have s1 := B1.size
  have B2 := below_one w1 X
  have HS : (w1.alloc X).heap.size = w1.heap.size + 1 := by simp
  have B3 := below_one (w1.alloc X) (.cells #[.slice (some ⟨w1.heap.size, 0, none⟩) n n, .pointer (some ⟨g, 0, none⟩)] 46)
  have L0 : Lies (w1.alloc X) w1.heap.size 4 ((List.replicate n false).map Value.bool) := by rw [hX]; exact Lies.new w1 4 _
  have L1 := Lies.new (w1.alloc X) 46 [.slice (some ⟨w1.heap.size, 0, none⟩) n n, .pointer (some ⟨g, 0, none⟩)]
  rw [HS] at L1
  have H2 := (H1.kept B2).kept B3
  refine ⟨on (on B1 s1 B2) (by omega) B3, _, Ot.oq (q := w1.heap.size) ⟨by simpa using L1, L0.kept B3, H2, by omega, by omega⟩, fun k hk => ?_⟩
  rcases hk with e | e | e | e | e
  · omega
  · omega
  · omega
  · omega
  · cases e

set_option maxRecDepth 100000 in
set_option maxHeartbeats 1000000 in
theorem onew_yes (n : Nat) (w : World) (base : Nat) (hb : base ≤ w.heap.size) (h1 : 1 ≤ n) (h2 : n ≤ 64) :
    Calls Try.prog 7 #[.int .i64 (n : Int)] w fun e w' => ∃ o S, e = .returned (.tuple #[.pointer (some ⟨o, 0, none⟩), .int .i64 0]) ∧ Below w.heap.size w w' ∧ Oq w' base o (List.replicate n false) 0 [] S ∧ ∀ k, S k → w.heap.size ≤ k := by
  have d1 : decide ((n : Int) < 1) = false := by simp; omega
  have d2 : decide (64 < (n : Int)) = false := by simp; omega
  have T := Lib.hid (new_yes 1 w base hb (by omega) (by omega))
  have hmk := makeB n h2
  obtain ⟨X, hX⟩ : ∃ X : Obj, X = .cells ((List.replicate n false).map Value.bool).toArray 4 := ⟨_, rfl⟩
  rw [← hX] at hmk
  have HX := Lib.hid hX
  clear hX
  go_enter Try.func7, Try.ntmps7
  go_wp2_with fail
  refine T.out.mono ?_
  rintro e w1 ⟨g, gw, rfl, B1, q1, q2, H1⟩
  obtain ⟨B3, S, R, K⟩ := onew_end (n := n) hb HX.out B1 q1 q2 H1
  have HB := Lib.hid B3
  have HR := Lib.hid R
  have HK := Lib.hid K
  clear T B1 q1 q2 H1 B3 R K
  go_wp2
  go_ret2
  exact ⟨_, S, rfl, HB.out, HR.out, HK.out⟩

theorem onew_no (n : Int) (w : World) (h : n < 1 ∨ 64 < n) :
    Calls Try.prog 7 #[.int .i64 n] w fun e w' => e = .returned (.tuple #[.pointer none, .int .i64 1]) ∧ w = w' := by
  by_cases h1 : n < 1
  · have d1 : decide (n < 1) = true := by simp; omega
    go_enter Try.func7, Try.ntmps7
    go_wp2
    go_ret2
    exact ⟨rfl, rfl⟩
  · have d1 : decide (n < 1) = false := by simp; omega
    have d2 : decide (64 < n) = true := by simp; omega
    go_enter Try.func7, Try.ntmps7
    go_wp2
    go_ret2
    exact ⟨rfl, rfl⟩

section
variable {w w' w2 : World} {base o q g gw : Nat} {ids : List Bool} {k : Int} {A : Option Addr} {c : Nat} {ts : List Tc} {S : Nat → Prop}

theorem offer_none (h : Oq w base o ids k ts S) (who : Int) (hi : who < 0 ∨ ids.length ≤ who) : Calls Try.prog 8 #[.pointer (some ⟨o, 0, none⟩), .int .i64 who] w fun e w' => e = .returned (.tuple #[.bool false, .int .i64 1]) ∧ w = w' := by
  obtain ⟨q, g, gw, A, c, h1, h2⟩ := h
  have T := Lib.hid (has_no h1 who hi)
  clear h1 h2 hi
  go_enter Try.func8, Try.ntmps8
  go_wp2_with fail
  refine T.out.mono ?_
  rintro e w1 ⟨rfl, rfl⟩
  go_wp2
  go_ret2
  exact ⟨rfl, rfl⟩
theorem offer_twice (h : Oq w base o ids k ts S) (who : Nat) (hi : who < ids.length) (hb : ids.getD who false = true) : Calls Try.prog 8 #[.pointer (some ⟨o, 0, none⟩), .int .i64 who] w fun e w' => e = .returned (.tuple #[.bool false, .int .i64 9]) ∧ w = w' := by
  obtain ⟨q, g, gw, A, c, h1, h2⟩ := h
  have T := Lib.hid (has_yes h1 who hi)
  have hc0 : w.cell? ⟨o, 0, none⟩ = some (.slice (some ⟨q, 0, none⟩) ids.length ids.length) := h1.own.cell 0
  have hcq := h1.cell_at who hi _ hb
  clear h1 h2 hb
  have d0 : (0 : Int) ≤ (who : Int) := by omega
  have d1 : (who : Int) < (ids.length : Int) := by omega
  go_enter Try.func8, Try.ntmps8
  go_wp2_with fail
  refine T.out.mono ?_
  rintro e w1 ⟨rfl, rfl⟩
  go_wp2
  go_ret2
  exact ⟨rfl, rfl⟩

set_option maxHeartbeats 1000000 in
theorem offer_yes (h : Oq w base o ids k ts S) (who : Nat) (hi : who < ids.length) (h64 : ids.length ≤ 64) (hb : ids.getD who false = false) (hts : ts.length ≤ 30000) (hk0 : 0 ≤ k) (hk1 : k ≤ 1000) (b : Bool) (he : (k + 1 == (ids.length : Int)) = b) :
    Calls Try.prog 8 #[.pointer (some ⟨o, 0, none⟩), .int .i64 who] w fun e w' => e = .returned (.tuple #[.bool b, .int .i64 0]) ∧ Step w w' base o S (ids.set who true) (k + 1) (ts ++ [⟨who, 0, 4, k, k + 1⟩]) := by
  obtain ⟨q, g, gw, A, c, R1, h2⟩ := h
  have T0 := Lib.hid (has_yes R1 who hi)
  have hc0 : w.cell? ⟨o, 0, none⟩ = some (.slice (some ⟨q, 0, none⟩) ids.length ids.length) := R1.own.cell 0
  have hc1 : w.cell? ⟨o, 1, none⟩ = some (.pointer (some ⟨g, 0, none⟩)) := R1.own.cell 1
  have hcq := R1.cell_at who hi _ hb
  have hfq := R1.idle.frozen who
  have hne : o ≠ q := R1.own.apart R1.idle (by decide)
  have R2 := R1.turned who true
  have j1 : (w.setCell ⟨q, who, none⟩ (.bool true)).cell? ⟨o, 1, none⟩ = some (.pointer (some ⟨g, 0, none⟩)) := R2.own.cell 1
  have HC : Hid (Chg S w (w.setCell ⟨q, who, none⟩ (.bool true))) := Lib.hid (Chg.turned.wider fun i hi => (h2 i).2 hi)
  have HS := Lib.hid h2
  have hw1 : wrap64 (k + 1) = k + 1 := by rw [wrap64]; omega
  have T := add_yes R2.at_ hts who 0 1 (by omega) (by omega) (by simp) k rfl
  rw [hw1] at T
  have T := Lib.hid T
  have HR := Lib.hid R2
  have m3 : IntKind.i64.wrap (k + 1) = k + 1 := IntWalk.i64_in _ (by omega)
  have d0 : (0 : Int) ≤ (who : Int) := by omega
  have d1 : (who : Int) < (ids.length : Int) := by omega
  have el : Hid ((ids.set who true).length = ids.length) := Lib.hid (by simp)
  clear R1 R2 h2 hb
  go_enter Try.func8, Try.ntmps8
  go_wp2_with fail
  refine T0.out.mono ?_
  rintro e w1 ⟨rfl, rfl⟩
  go_wp2_with fail
  refine T.out.mono ?_
  rintro e w1 ⟨rfl, D⟩
  obtain ⟨A', c', R2, C2, M2⟩ := HR.out.touched D
  have K := Lib.hid (((Step.of_theirs ⟨_, R2.oq, C2, M2⟩ HS.out)).after HC.out)
  have j0 : w1.cell? ⟨o, 0, none⟩ = some (.slice (some ⟨q, 0, none⟩) ids.length ids.length) := by rw [← el.out]; exact R2.own.cell 0
  clear D R2 C2 M2 T T0 HR hc0 hc1 hcq hfq j1 el HC HS hw1
  go_wp2
  go_ret2
  exact ⟨rfl, K.out⟩

theorem look_none (h : Oq w base o ids k ts S) (who : Int) (hi : who < 0 ∨ ids.length ≤ who) : Calls Try.prog 9 #[.pointer (some ⟨o, 0, none⟩), .int .i64 who] w fun e w' => e = .returned (.tuple #[.int .i64 0, .int .i64 1]) ∧ w = w' := by
  obtain ⟨q, g, gw, A, c, h1, h2⟩ := h
  have T := Lib.hid (has_no h1 who hi)
  clear h1 h2 hi
  go_enter Try.func9, Try.ntmps9
  go_wp2_with fail
  refine T.out.mono ?_
  rintro e w1 ⟨rfl, rfl⟩
  go_wp2
  go_ret2
  exact ⟨rfl, rfl⟩
set_option maxHeartbeats 1000000 in
theorem look_yes (h : Oq w base o ids k ts S) (who : Nat) (hi : who < ids.length) (h64 : ids.length ≤ 64) (hts : ts.length ≤ 30000) :
    Calls Try.prog 9 #[.pointer (some ⟨o, 0, none⟩), .int .i64 who] w fun e w' => e = .returned (.tuple #[.int .i64 k, .int .i64 0]) ∧ Step w w' base o S ids k (ts ++ [⟨who, 0, 1, k, k⟩]) := by
  obtain ⟨q, g, gw, A, c, R1, h2⟩ := h
  have T0 := Lib.hid (has_yes R1 who hi)
  have hc1 : w.cell? ⟨o, 1, none⟩ = some (.pointer (some ⟨g, 0, none⟩)) := R1.own.cell 1
  have T := Lib.hid (load_yes R1.at_ hts who 0 (by omega) (by omega) (by simp) k rfl)
  have HR := Lib.hid R1
  have HS := Lib.hid h2
  clear R1 h2 hi
  go_enter Try.func9, Try.ntmps9
  go_wp2_with fail
  refine T0.out.mono ?_
  rintro e w1 ⟨rfl, rfl⟩
  go_wp2_with fail
  refine T.out.mono ?_
  rintro e w1 ⟨rfl, D⟩
  obtain ⟨A', c', R2, C2, M2⟩ := HR.out.touched D
  have K := Lib.hid ((Step.of_theirs ⟨_, R2.oq, C2, M2⟩ HS.out))
  clear D R2 C2 M2 T T0 HR hc1 HS
  go_wp2
  go_ret2
  exact ⟨rfl, K.out⟩

theorem back_none (h : Oq w base o ids k ts S) (who seen : Int) (hi : who < 0 ∨ ids.length ≤ who) : Calls Try.prog 10 #[.pointer (some ⟨o, 0, none⟩), .int .i64 who, .int .i64 seen] w fun e w' => e = .returned (.int .i64 1) ∧ w = w' := by
  obtain ⟨q, g, gw, A, c, h1, h2⟩ := h
  have T := Lib.hid (has_no h1 who hi)
  clear h1 h2 hi
  go_enter Try.func10, Try.ntmps10
  go_wp2_with fail
  refine T.out.mono ?_
  rintro e w1 ⟨rfl, rfl⟩
  go_wp2
  go_ret
  exact ⟨rfl, rfl⟩
theorem back_order (h : Oq w base o ids k ts S) (who : Nat) (seen : Int) (hi : who < ids.length) (hb : ids.getD who false = false) : Calls Try.prog 10 #[.pointer (some ⟨o, 0, none⟩), .int .i64 who, .int .i64 seen] w fun e w' => e = .returned (.int .i64 9) ∧ w = w' := by
  obtain ⟨q, g, gw, A, c, h1, h2⟩ := h
  have T := Lib.hid (has_yes h1 who hi)
  have hc0 : w.cell? ⟨o, 0, none⟩ = some (.slice (some ⟨q, 0, none⟩) ids.length ids.length) := h1.own.cell 0
  have hcq := h1.cell_at who hi _ hb
  clear h1 h2 hb
  have d0 : (0 : Int) ≤ (who : Int) := by omega
  have d1 : (who : Int) < (ids.length : Int) := by omega
  go_enter Try.func10, Try.ntmps10
  go_wp2_with fail
  refine T.out.mono ?_
  rintro e w1 ⟨rfl, rfl⟩
  go_wp2
  go_ret
  exact ⟨rfl, rfl⟩
theorem back_end (h : Oq w base o ids k ts S) (who : Nat) (seen : Int) (hi : who < ids.length) (hb : ids.getD who false = true) (he : seen = ids.length) : Calls Try.prog 10 #[.pointer (some ⟨o, 0, none⟩), .int .i64 who, .int .i64 seen] w fun e w' => e = .returned (.int .i64 12) ∧ w = w' := by
  subst he
  obtain ⟨q, g, gw, A, c, h1, h2⟩ := h
  have T := Lib.hid (has_yes h1 who hi)
  have hc0 : w.cell? ⟨o, 0, none⟩ = some (.slice (some ⟨q, 0, none⟩) ids.length ids.length) := h1.own.cell 0
  have hcq := h1.cell_at who hi _ hb
  clear h1 h2 hb
  have d0 : (0 : Int) ≤ (who : Int) := by omega
  have d1 : (who : Int) < (ids.length : Int) := by omega
  go_enter Try.func10, Try.ntmps10
  go_wp2_with fail
  refine T.out.mono ?_
  rintro e w1 ⟨rfl, rfl⟩
  go_wp2
  go_ret
  exact ⟨rfl, rfl⟩
set_option maxHeartbeats 1000000 in
theorem back_lost (h : Oq w base o ids k ts S) (who : Nat) (seen : Int) (hi : who < ids.length) (h64 : ids.length ≤ 64) (hb : ids.getD who false = true) (he : seen ≠ ids.length) (hne : k ≠ seen) (hts : ts.length ≤ 30000) :
    Calls Try.prog 10 #[.pointer (some ⟨o, 0, none⟩), .int .i64 who, .int .i64 seen] w fun e w' => e = .returned (.int .i64 8) ∧ Step w w' base o S ids k (ts ++ [⟨who, 0, 3, k, k⟩]) := by
  obtain ⟨q, g, gw, A, c, R1, h2⟩ := h
  have T0 := Lib.hid (has_yes R1 who hi)
  have hc0 : w.cell? ⟨o, 0, none⟩ = some (.slice (some ⟨q, 0, none⟩) ids.length ids.length) := R1.own.cell 0
  have hc1 : w.cell? ⟨o, 1, none⟩ = some (.pointer (some ⟨g, 0, none⟩)) := R1.own.cell 1
  have hcq := R1.cell_at who hi _ hb
  have T := Lib.hid (fun n => swap_miss R1.at_ hts who 0 seen n (by omega) (by omega) (by simp) k rfl hne)
  have HR := Lib.hid R1
  have HS := Lib.hid h2
  have d0 : (0 : Int) ≤ (who : Int) := by omega
  have d1 : (who : Int) < (ids.length : Int) := by omega
  have d2 : (seen == (ids.length : Int)) = false := by simp [he]
  clear R1 h2 hb he hne
  go_enter Try.func10, Try.ntmps10
  go_wp2_with fail
  refine T0.out.mono ?_
  rintro e w1 ⟨rfl, rfl⟩
  go_wp2_with fail
  refine (T.out _).mono ?_
  rintro e w1 ⟨rfl, D⟩
  obtain ⟨A', c', R2, C2, M2⟩ := HR.out.touched D
  have K := Lib.hid ((Step.of_theirs ⟨_, R2.oq, C2, M2⟩ HS.out))
  clear D R2 C2 M2 T T0 HR hc1 HS hc0 hcq
  go_wp2
  go_ret
  exact ⟨rfl, K.out⟩
set_option maxHeartbeats 1000000 in
theorem back_yes (h : Oq w base o ids k ts S) (who : Nat) (seen : Int) (hi : who < ids.length) (h64 : ids.length ≤ 64) (hb : ids.getD who false = true) (he : seen ≠ ids.length) (heq : k = seen) (hk0 : 0 ≤ k) (hk1 : k ≤ 1000) (hts : ts.length ≤ 30000) :
    Calls Try.prog 10 #[.pointer (some ⟨o, 0, none⟩), .int .i64 who, .int .i64 seen] w fun e w' => e = .returned (.int .i64 0) ∧ Step w w' base o S (ids.set who false) (k - 1) (ts ++ [⟨who, 0, 3, k, k - 1⟩]) := by
  subst heq
  obtain ⟨q, g, gw, A, c, R1, h2⟩ := h
  have T0 := Lib.hid (has_yes R1 who hi)
  have hc0 : w.cell? ⟨o, 0, none⟩ = some (.slice (some ⟨q, 0, none⟩) ids.length ids.length) := R1.own.cell 0
  have hc1 : w.cell? ⟨o, 1, none⟩ = some (.pointer (some ⟨g, 0, none⟩)) := R1.own.cell 1
  have hcq := R1.cell_at who hi _ hb
  have T := Lib.hid (swap_hit R1.at_ hts who 0 k (k - 1) (by omega) (by omega) (by simp) k rfl rfl)
  have HR := Lib.hid R1
  have HS := Lib.hid h2
  have d0 : (0 : Int) ≤ (who : Int) := by omega
  have d1 : (who : Int) < (ids.length : Int) := by omega
  have d2 : (k == (ids.length : Int)) = false := by simp [he]
  have m3 : IntKind.i64.wrap (k - 1) = k - 1 := IntWalk.i64_in _ (by omega)
  clear R1 h2 he
  go_enter Try.func10, Try.ntmps10
  go_wp2_with fail
  refine T0.out.mono ?_
  rintro e w1 ⟨rfl, rfl⟩
  go_wp2_with fail
  refine T.out.mono ?_
  rintro e w1 ⟨rfl, D⟩
  obtain ⟨A', c', R2, C2, M2⟩ := HR.out.touched D
  have j0 : w1.cell? ⟨o, 0, none⟩ = some (.slice (some ⟨q, 0, none⟩) ids.length ids.length) := R2.own.cell 0
  have jq := R2.cell_at who hi _ hb
  have jf := R2.idle.frozen who
  have K : Hid (Step w (w1.setCell ⟨q, who, none⟩ (.bool false)) base o S (ids.set who false) (k - 1) (ts ++ [⟨who, 0, 3, k, k - 1⟩])) := Lib.hid (
    Step.of_theirs ⟨_, (R2.turned who false).oq, C2.trans (Chg.turned (o := o) (g := g) (gw := gw) (A := A') (q := q)) M2, M2⟩ HS.out)
  clear D R2 C2 M2 T T0 HR hc1 HS hc0 hcq hb
  go_wp2
  go_ret
  exact ⟨rfl, K.out⟩
end
end Go.Proofs.Ytpifnhfdbcckjaa
