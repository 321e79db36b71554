/- The walk of TaskSplits: it returns true whatever it is handed, and turns nothing that was there. -/
import Derived.Test.YtdahlihnmmgkaaaLoopM
namespace Go.Proofs.Ytdahlihnmmgkaaa
open Go.RowKit
set_option linter.unusedVariables false
set_option linter.unusedSimpArgs false

set_option maxRecDepth 100000 in
set_option maxHeartbeats 4000000 in
theorem splits_more (a f t p : Int) (w : World) (hg : goodB a f t = true) (hp : 1 < p) :
    Calls Try.prog 5 #[.agg #[.int .i64 a, .int .i64 f, .int .i64 t], .int .i64 p] w fun e w' => e = .returned (.bool true) ∧ Below w.heap.size w w' := by
  have em : most p = p := by unfold most; rw [if_neg (by omega)]
  have hm1 : (1 : Int) ≤ p := by omega
  have HEM := Lib.hid em
  clear em
  go_enter Try.func5, Try.ntmps5
  go_wp2_with fail
  refine (awake_any _).mono ?_
  rintro e w1 ⟨rfl, hb1⟩
  have hB1 : Below w.heap.size w w1 := on (below_one _ _) (by simp) hb1
  have L1 : Lies w1 w.heap.size 23 [.int .i64 a, .int .i64 f, .int .i64 t] := (Lies.new w 23 [_, _, _]).kept hb1
  have x0 : w1.cell? ⟨w.heap.size, 0, none⟩ = some (.int .i64 a) := L1.cell 0
  have x1 : w1.cell? ⟨w.heap.size, 1, none⟩ = some (.int .i64 f) := L1.cell 1
  have x2 : w1.cell? ⟨w.heap.size, 2, none⟩ = some (.int .i64 t) := L1.cell 2
  have HB1 := Lib.hid hB1
  have HL1 := Lib.hid L1
  clear hB1 L1 hb1
  go_wp2_with fail
  refine (good_any a f t _).mono ?_
  rintro e w2 ⟨rfl, rfl⟩
  rw [hg]
  go_wp2_with fail
  refine (split_any a f t p _ hg).mono ?_
  rintro e w2 ⟨g, c, k, rfl, S⟩
  rw [HEM.out] at S
  have L2 := HL1.out.kept S.old
  have B2 := Lib.hid (on HB1.out HB1.out.size S.old)
  have y0 : w2.cell? ⟨w.heap.size, 0, none⟩ = some (.int .i64 a) := L2.cell 0
  have y1 : w2.cell? ⟨w.heap.size, 1, none⟩ = some (.int .i64 f) := L2.cell 1
  have y2 : w2.cell? ⟨w.heap.size, 2, none⟩ = some (.int .i64 t) := L2.cell 2
  have hk := S.few
  have HS := Lib.hid S
  have HL2 := Lib.hid L2
  clear S L2 HB1 HL1 x0 x1 x2
  obtain ⟨n, hn⟩ : ∃ n, n = k + 1 := ⟨_, rfl⟩
  rw [← hn]
  have HN := Lib.hid hn
  have n1 : (0 : Int) < (n : Int) := by omega
  have n4 : n ≤ 4096 := by omega
  clear hn
  go_wp2
  go_loopw [32, 7, 8, 9] (fun i v _ _ wr => ∃ (j : Nat) (V : Int), j ≤ n ∧ i = .int .i64 j ∧ v = .int .i64 V ∧ Hid (V = frm f t p k j) ∧ Below w2.heap.size w2 wr) (fun i _ _ _ _ => n - (intOf i).toNat)
  case atStart => exact ⟨0, f, Nat.zero_le _, rfl, rfl, Lib.hid (frm_zero f t p k).symm, Below.refl _ _⟩
  case round =>
    obtain ⟨j, V, hj, rfl, rfl, HV, BB⟩ := hrel
    have L3 := HL2.out.below BB HL2.out.lt
    have v0 : wr.cell? ⟨w.heap.size, 0, none⟩ = some (.int .i64 a) := L3.cell 0
    have v1 : wr.cell? ⟨w.heap.size, 1, none⟩ = some (.int .i64 f) := L3.cell 1
    have v2 : wr.cell? ⟨w.heap.size, 2, none⟩ = some (.int .i64 t) := L3.cell 2
    have l3 := L3.lt
    have HB := Lib.hid BB
    clear L3 y0 y1 y2
    by_cases hjn : j < n
    · have hjk : j ≤ k := by have := HN.out; omega
      obtain ⟨r0, r1, r2⟩ := HS.out.cells BB j hjk
      obtain ⟨q1, q2, q3, q4, q5⟩ := HS.out.num hm1 hg j hjk
      have gl : g < wr.heap.size := by have := (HS.out.own.lt g rfl).2; have := BB.size; omega
      obtain ⟨U, hU⟩ : ∃ U, frm f t p k (j + 1) = U := ⟨_, rfl⟩
      have HU := Lib.hid hU
      rw [← HV.out] at r1
      rw [← HV.out, hU] at q1 q3 q4 q5
      rw [hU] at r2
      clear hU q2 BB
      obtain ⟨d1, d2, d3, d4, d5⟩ := (good_iff a V U).1 q1
      have k0 : (0 : Int) ≤ (j : Int) := by omega
      have k1 : (j : Int) < (n : Int) := by omega
      by_cases hlast : j < k
      · have e1 : (j : Int) < (n : Int) - 1 := by have := HN.out; omega
        have e2 : (U - V != p) = false := by have := q4 hlast; simp; omega
        have e3 : (1 : Int) < (n : Int) := by have := HN.out; omega
        have e4 : (U - V == 0) = false := by have := q4 hlast; rw [beq_eq_false_iff_ne]; omega
        clear q4 q5
        go_wp2_with fail
        refine (len_any a V U _ q1).mono ?_
        rintro e w3 ⟨rfl, rfl⟩
        go_wp2_with fail
        refine (len_any a V U _ q1).mono ?_
        rintro e w3 ⟨rfl, rfl⟩
        go_wp2_with fail
        refine (len_any a V U _ q1).mono ?_
        rintro e w3 ⟨rfl, rfl⟩
        go_wp2
        refine ⟨⟨j + 1, U, by omega, by go_num, rfl, Lib.hid HU.out.symm, ?_⟩, by simp [intOf]; omega⟩
        have hsz := HB.out.size
        repeat (first | exact HB.out | refine Below.alloc ?_ (by first | omega | (simp; omega)) _)
      · have e1 : ¬ (j : Int) < (n : Int) - 1 := by have := HN.out; omega
        by_cases hk1 : 1 ≤ k
        · have e3 : (1 : Int) < (n : Int) := by have := HN.out; omega
          have e4 : (U - V == 0) = false := by have := q5 hk1; rw [beq_eq_false_iff_ne]; omega
          clear q4 q5
          go_wp2_with fail
          refine (len_any a V U _ q1).mono ?_
          rintro e w3 ⟨rfl, rfl⟩
          go_wp2_with fail
          refine (len_any a V U _ q1).mono ?_
          rintro e w3 ⟨rfl, rfl⟩
          go_wp2
          refine ⟨⟨j + 1, U, by omega, by go_num, rfl, Lib.hid HU.out.symm, ?_⟩, by simp [intOf]; omega⟩
          have hsz := HB.out.size
          repeat (first | exact HB.out | refine Below.alloc ?_ (by first | omega | (simp; omega)) _)
        · have e3 : ¬ (1 : Int) < (n : Int) := by have := HN.out; omega
          clear q4 q5
          go_wp2_with fail
          refine (len_any a V U _ q1).mono ?_
          rintro e w3 ⟨rfl, rfl⟩
          go_wp2
          refine ⟨⟨j + 1, U, by omega, by go_num, rfl, Lib.hid HU.out.symm, ?_⟩, by simp [intOf]; omega⟩
          have hsz := HB.out.size
          repeat (first | exact HB.out | refine Below.alloc ?_ (by first | omega | (simp; omega)) _)
    · obtain rfl : V = t := by
        have h1 := HV.out
        rw [show j = k + 1 by have := HN.out; omega, frm_end] at h1
        exact h1
      clear BB
      go_wp2
      go_ret
      exact ⟨rfl, on B2.out B2.out.size HB.out⟩

set_option maxRecDepth 100000 in
set_option maxHeartbeats 4000000 in
theorem splits_less (a f t p : Int) (w : World) (hg : goodB a f t = true) (hp : p < 1) :
    Calls Try.prog 5 #[.agg #[.int .i64 a, .int .i64 f, .int .i64 t], .int .i64 p] w fun e w' => e = .returned (.bool true) ∧ Below w.heap.size w w' := by
  have em : most p = 1 := by unfold most; rw [if_pos (by omega)]
  have hm1 : (1 : Int) ≤ 1 := by omega
  have HEM := Lib.hid em
  clear em
  go_enter Try.func5, Try.ntmps5
  go_wp2_with fail
  refine (awake_any _).mono ?_
  rintro e w1 ⟨rfl, hb1⟩
  have hB1 : Below w.heap.size w w1 := on (below_one _ _) (by simp) hb1
  have L1 : Lies w1 w.heap.size 23 [.int .i64 a, .int .i64 f, .int .i64 t] := (Lies.new w 23 [_, _, _]).kept hb1
  have x0 : w1.cell? ⟨w.heap.size, 0, none⟩ = some (.int .i64 a) := L1.cell 0
  have x1 : w1.cell? ⟨w.heap.size, 1, none⟩ = some (.int .i64 f) := L1.cell 1
  have x2 : w1.cell? ⟨w.heap.size, 2, none⟩ = some (.int .i64 t) := L1.cell 2
  have HB1 := Lib.hid hB1
  have HL1 := Lib.hid L1
  clear hB1 L1 hb1
  go_wp2_with fail
  refine (good_any a f t _).mono ?_
  rintro e w2 ⟨rfl, rfl⟩
  rw [hg]
  go_wp2_with fail
  refine (split_any a f t p _ hg).mono ?_
  rintro e w2 ⟨g, c, k, rfl, S⟩
  rw [HEM.out] at S
  have L2 := HL1.out.kept S.old
  have B2 := Lib.hid (on HB1.out HB1.out.size S.old)
  have y0 : w2.cell? ⟨w.heap.size, 0, none⟩ = some (.int .i64 a) := L2.cell 0
  have y1 : w2.cell? ⟨w.heap.size, 1, none⟩ = some (.int .i64 f) := L2.cell 1
  have y2 : w2.cell? ⟨w.heap.size, 2, none⟩ = some (.int .i64 t) := L2.cell 2
  have hk := S.few
  have HS := Lib.hid S
  have HL2 := Lib.hid L2
  clear S L2 HB1 HL1 x0 x1 x2
  obtain ⟨n, hn⟩ : ∃ n, n = k + 1 := ⟨_, rfl⟩
  rw [← hn]
  have HN := Lib.hid hn
  have n1 : (0 : Int) < (n : Int) := by omega
  have n4 : n ≤ 4096 := by omega
  clear hn
  go_wp2
  go_loopw [32, 7, 8, 9] (fun i v _ _ wr => ∃ (j : Nat) (V : Int), j ≤ n ∧ i = .int .i64 j ∧ v = .int .i64 V ∧ Hid (V = frm f t 1 k j) ∧ Below w2.heap.size w2 wr) (fun i _ _ _ _ => n - (intOf i).toNat)
  case atStart => exact ⟨0, f, Nat.zero_le _, rfl, rfl, Lib.hid (frm_zero f t 1 k).symm, Below.refl _ _⟩
  case round =>
    obtain ⟨j, V, hj, rfl, rfl, HV, BB⟩ := hrel
    have L3 := HL2.out.below BB HL2.out.lt
    have v0 : wr.cell? ⟨w.heap.size, 0, none⟩ = some (.int .i64 a) := L3.cell 0
    have v1 : wr.cell? ⟨w.heap.size, 1, none⟩ = some (.int .i64 f) := L3.cell 1
    have v2 : wr.cell? ⟨w.heap.size, 2, none⟩ = some (.int .i64 t) := L3.cell 2
    have l3 := L3.lt
    have HB := Lib.hid BB
    clear L3 y0 y1 y2
    by_cases hjn : j < n
    · have hjk : j ≤ k := by have := HN.out; omega
      obtain ⟨r0, r1, r2⟩ := HS.out.cells BB j hjk
      obtain ⟨q1, q2, q3, q4, q5⟩ := HS.out.num hm1 hg j hjk
      have gl : g < wr.heap.size := by have := (HS.out.own.lt g rfl).2; have := BB.size; omega
      obtain ⟨U, hU⟩ : ∃ U, frm f t 1 k (j + 1) = U := ⟨_, rfl⟩
      have HU := Lib.hid hU
      rw [← HV.out] at r1
      rw [← HV.out, hU] at q1 q3 q4 q5
      rw [hU] at r2
      clear hU q2 BB
      obtain ⟨d1, d2, d3, d4, d5⟩ := (good_iff a V U).1 q1
      have k0 : (0 : Int) ≤ (j : Int) := by omega
      have k1 : (j : Int) < (n : Int) := by omega
      by_cases hlast : j < k
      · have e1 : (j : Int) < (n : Int) - 1 := by have := HN.out; omega
        have e2 : (U - V != 1) = false := by have := q4 hlast; simp; omega
        have e3 : (1 : Int) < (n : Int) := by have := HN.out; omega
        have e4 : (U - V == 0) = false := by have := q4 hlast; rw [beq_eq_false_iff_ne]; omega
        clear q4 q5
        go_wp2_with fail
        refine (len_any a V U _ q1).mono ?_
        rintro e w3 ⟨rfl, rfl⟩
        go_wp2_with fail
        refine (len_any a V U _ q1).mono ?_
        rintro e w3 ⟨rfl, rfl⟩
        go_wp2_with fail
        refine (len_any a V U _ q1).mono ?_
        rintro e w3 ⟨rfl, rfl⟩
        go_wp2
        refine ⟨⟨j + 1, U, by omega, by go_num, rfl, Lib.hid HU.out.symm, ?_⟩, by simp [intOf]; omega⟩
        have hsz := HB.out.size
        repeat (first | exact HB.out | refine Below.alloc ?_ (by first | omega | (simp; omega)) _)
      · have e1 : ¬ (j : Int) < (n : Int) - 1 := by have := HN.out; omega
        by_cases hk1 : 1 ≤ k
        · have e3 : (1 : Int) < (n : Int) := by have := HN.out; omega
          have e4 : (U - V == 0) = false := by have := q5 hk1; rw [beq_eq_false_iff_ne]; omega
          clear q4 q5
          go_wp2_with fail
          refine (len_any a V U _ q1).mono ?_
          rintro e w3 ⟨rfl, rfl⟩
          go_wp2_with fail
          refine (len_any a V U _ q1).mono ?_
          rintro e w3 ⟨rfl, rfl⟩
          go_wp2
          refine ⟨⟨j + 1, U, by omega, by go_num, rfl, Lib.hid HU.out.symm, ?_⟩, by simp [intOf]; omega⟩
          have hsz := HB.out.size
          repeat (first | exact HB.out | refine Below.alloc ?_ (by first | omega | (simp; omega)) _)
        · have e3 : ¬ (1 : Int) < (n : Int) := by have := HN.out; omega
          clear q4 q5
          go_wp2_with fail
          refine (len_any a V U _ q1).mono ?_
          rintro e w3 ⟨rfl, rfl⟩
          go_wp2
          refine ⟨⟨j + 1, U, by omega, by go_num, rfl, Lib.hid HU.out.symm, ?_⟩, by simp [intOf]; omega⟩
          have hsz := HB.out.size
          repeat (first | exact HB.out | refine Below.alloc ?_ (by first | omega | (simp; omega)) _)
    · obtain rfl : V = t := by
        have h1 := HV.out
        rw [show j = k + 1 by have := HN.out; omega, frm_end] at h1
        exact h1
      clear BB
      go_wp2
      go_ret
      exact ⟨rfl, on B2.out B2.out.size HB.out⟩

set_option maxRecDepth 100000 in
set_option maxHeartbeats 4000000 in
theorem splits_one (a f t : Int) (w : World) (hg : goodB a f t = true) :
    Calls Try.prog 5 #[.agg #[.int .i64 a, .int .i64 f, .int .i64 t], .int .i64 1] w fun e w' => e = .returned (.bool true) ∧ Below w.heap.size w w' := by
  have em : most 1 = 1 := by unfold most; rw [if_pos (by omega)]
  have hm1 : (1 : Int) ≤ 1 := by omega
  have HEM := Lib.hid em
  clear em
  go_enter Try.func5, Try.ntmps5
  go_wp2_with fail
  refine (awake_any _).mono ?_
  rintro e w1 ⟨rfl, hb1⟩
  have hB1 : Below w.heap.size w w1 := on (below_one _ _) (by simp) hb1
  have L1 : Lies w1 w.heap.size 23 [.int .i64 a, .int .i64 f, .int .i64 t] := (Lies.new w 23 [_, _, _]).kept hb1
  have x0 : w1.cell? ⟨w.heap.size, 0, none⟩ = some (.int .i64 a) := L1.cell 0
  have x1 : w1.cell? ⟨w.heap.size, 1, none⟩ = some (.int .i64 f) := L1.cell 1
  have x2 : w1.cell? ⟨w.heap.size, 2, none⟩ = some (.int .i64 t) := L1.cell 2
  have HB1 := Lib.hid hB1
  have HL1 := Lib.hid L1
  clear hB1 L1 hb1
  go_wp2_with fail
  refine (good_any a f t _).mono ?_
  rintro e w2 ⟨rfl, rfl⟩
  rw [hg]
  go_wp2_with fail
  refine (split_any a f t 1 _ hg).mono ?_
  rintro e w2 ⟨g, c, k, rfl, S⟩
  rw [HEM.out] at S
  have L2 := HL1.out.kept S.old
  have B2 := Lib.hid (on HB1.out HB1.out.size S.old)
  have y0 : w2.cell? ⟨w.heap.size, 0, none⟩ = some (.int .i64 a) := L2.cell 0
  have y1 : w2.cell? ⟨w.heap.size, 1, none⟩ = some (.int .i64 f) := L2.cell 1
  have y2 : w2.cell? ⟨w.heap.size, 2, none⟩ = some (.int .i64 t) := L2.cell 2
  have hk := S.few
  have HS := Lib.hid S
  have HL2 := Lib.hid L2
  clear S L2 HB1 HL1 x0 x1 x2
  obtain ⟨n, hn⟩ : ∃ n, n = k + 1 := ⟨_, rfl⟩
  rw [← hn]
  have HN := Lib.hid hn
  have n1 : (0 : Int) < (n : Int) := by omega
  have n4 : n ≤ 4096 := by omega
  clear hn
  go_wp2
  go_loopw [32, 7, 8, 9] (fun i v _ _ wr => ∃ (j : Nat) (V : Int), j ≤ n ∧ i = .int .i64 j ∧ v = .int .i64 V ∧ Hid (V = frm f t 1 k j) ∧ Below w2.heap.size w2 wr) (fun i _ _ _ _ => n - (intOf i).toNat)
  case atStart => exact ⟨0, f, Nat.zero_le _, rfl, rfl, Lib.hid (frm_zero f t 1 k).symm, Below.refl _ _⟩
  case round =>
    obtain ⟨j, V, hj, rfl, rfl, HV, BB⟩ := hrel
    have L3 := HL2.out.below BB HL2.out.lt
    have v0 : wr.cell? ⟨w.heap.size, 0, none⟩ = some (.int .i64 a) := L3.cell 0
    have v1 : wr.cell? ⟨w.heap.size, 1, none⟩ = some (.int .i64 f) := L3.cell 1
    have v2 : wr.cell? ⟨w.heap.size, 2, none⟩ = some (.int .i64 t) := L3.cell 2
    have l3 := L3.lt
    have HB := Lib.hid BB
    clear L3 y0 y1 y2
    by_cases hjn : j < n
    · have hjk : j ≤ k := by have := HN.out; omega
      obtain ⟨r0, r1, r2⟩ := HS.out.cells BB j hjk
      obtain ⟨q1, q2, q3, q4, q5⟩ := HS.out.num hm1 hg j hjk
      have gl : g < wr.heap.size := by have := (HS.out.own.lt g rfl).2; have := BB.size; omega
      obtain ⟨U, hU⟩ : ∃ U, frm f t 1 k (j + 1) = U := ⟨_, rfl⟩
      have HU := Lib.hid hU
      rw [← HV.out] at r1
      rw [← HV.out, hU] at q1 q3 q4 q5
      rw [hU] at r2
      clear hU q2 BB
      obtain ⟨d1, d2, d3, d4, d5⟩ := (good_iff a V U).1 q1
      have k0 : (0 : Int) ≤ (j : Int) := by omega
      have k1 : (j : Int) < (n : Int) := by omega
      by_cases hlast : j < k
      · have e1 : (j : Int) < (n : Int) - 1 := by have := HN.out; omega
        have e2 : (U - V != 1) = false := by have := q4 hlast; simp; omega
        have e3 : (1 : Int) < (n : Int) := by have := HN.out; omega
        have e4 : (U - V == 0) = false := by have := q4 hlast; rw [beq_eq_false_iff_ne]; omega
        clear q4 q5
        go_wp2_with fail
        refine (len_any a V U _ q1).mono ?_
        rintro e w3 ⟨rfl, rfl⟩
        go_wp2_with fail
        refine (len_any a V U _ q1).mono ?_
        rintro e w3 ⟨rfl, rfl⟩
        go_wp2_with fail
        refine (len_any a V U _ q1).mono ?_
        rintro e w3 ⟨rfl, rfl⟩
        go_wp2
        refine ⟨⟨j + 1, U, by omega, by go_num, rfl, Lib.hid HU.out.symm, ?_⟩, by simp [intOf]; omega⟩
        have hsz := HB.out.size
        repeat (first | exact HB.out | refine Below.alloc ?_ (by first | omega | (simp; omega)) _)
      · have e1 : ¬ (j : Int) < (n : Int) - 1 := by have := HN.out; omega
        by_cases hk1 : 1 ≤ k
        · have e3 : (1 : Int) < (n : Int) := by have := HN.out; omega
          have e4 : (U - V == 0) = false := by have := q5 hk1; rw [beq_eq_false_iff_ne]; omega
          clear q4 q5
          go_wp2_with fail
          refine (len_any a V U _ q1).mono ?_
          rintro e w3 ⟨rfl, rfl⟩
          go_wp2_with fail
          refine (len_any a V U _ q1).mono ?_
          rintro e w3 ⟨rfl, rfl⟩
          go_wp2
          refine ⟨⟨j + 1, U, by omega, by go_num, rfl, Lib.hid HU.out.symm, ?_⟩, by simp [intOf]; omega⟩
          have hsz := HB.out.size
          repeat (first | exact HB.out | refine Below.alloc ?_ (by first | omega | (simp; omega)) _)
        · have e3 : ¬ (1 : Int) < (n : Int) := by have := HN.out; omega
          clear q4 q5
          go_wp2_with fail
          refine (len_any a V U _ q1).mono ?_
          rintro e w3 ⟨rfl, rfl⟩
          go_wp2
          refine ⟨⟨j + 1, U, by omega, by go_num, rfl, Lib.hid HU.out.symm, ?_⟩, by simp [intOf]; omega⟩
          have hsz := HB.out.size
          repeat (first | exact HB.out | refine Below.alloc ?_ (by first | omega | (simp; omega)) _)
    · obtain rfl : V = t := by
        have h1 := HV.out
        rw [show j = k + 1 by have := HN.out; omega, frm_end] at h1
        exact h1
      clear BB
      go_wp2
      go_ret
      exact ⟨rfl, on B2.out B2.out.size HB.out⟩

set_option maxHeartbeats 1000000 in
theorem splits_no (a f t p : Int) (w : World) (hg : goodB a f t = false) :
    Calls Try.prog 5 #[.agg #[.int .i64 a, .int .i64 f, .int .i64 t], .int .i64 p] w fun e w' => e = .returned (.bool true) ∧ Below w.heap.size w w' := by
  go_enter Try.func5, Try.ntmps5
  go_wp2_with fail
  refine (awake_any _).mono ?_
  rintro e w1 ⟨rfl, hb1⟩
  have hB1 : Below w.heap.size w w1 := on (below_one _ _) (by simp) hb1
  have L1 : Lies w1 w.heap.size 23 [.int .i64 a, .int .i64 f, .int .i64 t] := (Lies.new w 23 [_, _, _]).kept hb1
  have x0 : w1.cell? ⟨w.heap.size, 0, none⟩ = some (.int .i64 a) := L1.cell 0
  have x1 : w1.cell? ⟨w.heap.size, 1, none⟩ = some (.int .i64 f) := L1.cell 1
  have x2 : w1.cell? ⟨w.heap.size, 2, none⟩ = some (.int .i64 t) := L1.cell 2
  clear L1 hb1
  go_wp2_with fail
  refine (good_any a f t _).mono ?_
  rintro e w2 ⟨rfl, rfl⟩
  rw [hg]
  go_wp2_with fail
  refine (awake_any _).mono ?_
  rintro e w2 ⟨rfl, hb2⟩
  go_wp2
  go_ret
  exact ⟨rfl, on hB1 hB1.size hb2⟩

theorem splits_walk (a f t p : Int) (w : World) :
    Calls Try.prog 5 #[.agg #[.int .i64 a, .int .i64 f, .int .i64 t], .int .i64 p] w fun e w' => e = .returned (.bool true) ∧ Below w.heap.size w w' := by
  cases hg : goodB a f t with
  | false => exact splits_no a f t p w hg
  | true =>
    rcases Int.lt_trichotomy p 1 with h | rfl | h
    · exact splits_less a f t p w hg h
    · exact splits_one a f t w hg
    · exact splits_more a f t p w hg h
end Go.Proofs.Ytdahlihnmmgkaaa
