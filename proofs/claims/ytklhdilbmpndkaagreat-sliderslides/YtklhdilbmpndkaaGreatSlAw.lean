/- awaiting, whole. -/
import Derived.Test.YtklhdilbmpndkaaGreatGq
import Derived.Test.YtklhdilbmpndkaaGreatGp
namespace Go.Proofs.YtklhdilbmpndkaaGreat
set_option maxRecDepth 20000
open Go.RowKit Go.Sort
set_option linter.unusedVariables false
set_option linter.unusedSimpArgs false


theorem filter_range_stop {P : Nat → Bool} {k K : Nat} (h : k ≤ K) (hP : ∀ i, k ≤ i → P i = false) : (List.range K).filter P = (List.range k).filter P := by
  induction K with
  | zero => obtain rfl : k = 0 := by omega
            rfl
  | succ K ih =>
    by_cases e : k = K + 1
    · subst e; rfl
    · rw [List.range_succ, List.filter_append, ih (by omega)]
      have := hP K (by omega)
      simp [this]
theorem filter_range_more {P : Nat → Bool} {k : Nat} : (List.range (k + 1)).filter P = (List.range k).filter P ++ if P k then [k] else [] := by
  rw [List.range_succ, List.filter_append]
  cases h : P k <;> simp [h]
theorem filter_range_none {P : Nat → Bool} {k : Nat} (h : ∀ i, i < k → P i = false) : (List.range k).filter P = [] := by
  rw [List.filter_eq_nil_iff]
  intro i hi
  rw [List.mem_range] at hi
  simp [h i hi]
def awP (f : Nat → Bool) (W : Nat) (L : List (Nat × Ob)) (x : Nat × Ob) (k : Nat) : Bool := (decide (k ≠ x.1 / W) && decide (0 < liveR f W k L)) && (decide (x.1 < firstR f W L (k + 1)) && decide (firstR f W L k ≤ x.1 + x.2.2.length))
theorem awL_eq (f : Nat → Bool) (W K : Nat) (L : List (Nat × Ob)) (x : Nat × Ob) : awL f W K L x = (List.range K).filter (awP f W L x) := rfl
def natZ (l : List Nat) : List Int := l.map fun k : Nat => (k : Int)

set_option maxRecDepth 1000000 in
set_option maxHeartbeats 4000000 in
theorem awaiting_any {w : World} {b q W K T top : Nat} {f : Nat → Bool} {obs : List Ob} (F : Fq w b q W K T top f obs) (hfl : ∀ k, firstR f W (adr 0 obs) k ≤ 65536) (hK : K ≤ 65536) (S : Nat) (hS : ∀ V, Below w.heap.size w V → V.cell? ⟨S, 0, none⟩ = some (.pointer (some ⟨b, 0, none⟩)))
    (x : Nat × Ob) (hx : x.1 ≤ 65536) (kd pt : Int) (ln : Nat) (hln : x.2.2.length = ln) (hl2 : ln ≤ 4095) :
    Calls Tryz.prog 55 #[.pointer (some ⟨S, 0, none⟩), .int .i64 (x.1 : Nat), .agg #[.int .i64 kd, .int .i64 (ln : Nat), .int .i64 pt]] w fun e w' => ∃ B cap, e = .returned (.slice B (awL f W K (adr 0 obs) x).length cap) ∧ Rv w' w.heap.size B cap (natZ (awL f W K (adr 0 obs) x)) ∧ Below w.heap.size w w' := by
  have L1 : Lies (w.alloc (.cells #[.pointer (some ⟨S, 0, none⟩)] 38)) w.heap.size 38 [.pointer (some ⟨S, 0, none⟩)] := Lies.new w 38 [_]
  have B1 := below_one w (.cells #[.pointer (some ⟨S, 0, none⟩)] 38)
  obtain ⟨w1, hw1⟩ : ∃ w1, w.alloc (.cells #[.pointer (some ⟨S, 0, none⟩)] 38) = w1 := ⟨_, rfl⟩
  have s1 : w1.heap.size = w.heap.size + 1 := by rw [← hw1]; simp
  rw [hw1] at L1 B1
  have L2 : Lies (w1.alloc (.cells #[.int .i64 (x.1 : Nat)] 3)) w1.heap.size 3 [.int .i64 (x.1 : Nat)] := Lies.new w1 3 [_]
  have B2 := below_one w1 (.cells #[.int .i64 (x.1 : Nat)] 3)
  obtain ⟨w2, hw2⟩ : ∃ w2, w1.alloc (.cells #[.int .i64 (x.1 : Nat)] 3) = w2 := ⟨_, rfl⟩
  have s2 : w2.heap.size = w1.heap.size + 1 := by rw [← hw2]; simp
  rw [hw2] at L2 B2
  have L3 : Lies (w2.alloc (.cells #[.int .i64 kd, .int .i64 (ln : Nat), .int .i64 pt] 64)) w2.heap.size 64 [.int .i64 kd, .int .i64 (ln : Nat), .int .i64 pt] := Lies.new w2 64 [_, _, _]
  have B3 := below_one w2 (.cells #[.int .i64 kd, .int .i64 (ln : Nat), .int .i64 pt] 64)
  obtain ⟨w3, hw3⟩ : ∃ w3, w2.alloc (.cells #[.int .i64 kd, .int .i64 (ln : Nat), .int .i64 pt] 64) = w3 := ⟨_, rfl⟩
  rw [hw3] at L3 B3
  have HL1 := Lib.hid ((L1.kept B2).kept B3)
  have HL2 := Lib.hid (L2.kept B3)
  have HL3 := Lib.hid L3
  have HB3 := Lib.hid (on (on B1 B1.size B2) (on B1 B1.size B2).size B3)
  have HF3 := Lib.hid (F.kept HB3.out)
  have HS := Lib.hid (fun V (hV : Below w3.heap.size w3 V) => hS V (on HB3.out HB3.out.size hV))
  obtain ⟨bs, hbs⟩ : ∃ bs, w.heap.size = bs := ⟨_, rfl⟩
  have HBS := Lib.hid hbs
  rw [hbs] at HL1
  rw [s1, hbs] at HL2
  rw [s2, s1, hbs] at HL3
  have HFL := Lib.hid hfl
  have HW1 := Lib.hid hw1
  have HW2 := Lib.hid hw2
  have HW3 := Lib.hid hw3
  have HSZ1 := Lib.hid s1
  clear L1 L2 L3 B1 B2 B3 hS F hfl hw1 hw2 hw3 s2 s1
  have HLN := Lib.hid hln
  clear hln hbs
  obtain ⟨P, hP⟩ : ∃ P, awP f W (adr 0 obs) x = P := ⟨_, rfl⟩
  obtain ⟨AW, hAW⟩ : ∃ AW, awL f W K (adr 0 obs) x = AW := ⟨_, rfl⟩
  have HAW : Hid (AW = (List.range K).filter P) := Lib.hid (by rw [← hAW, ← hP]; rfl)
  rw [hAW]
  have HP := Lib.hid hP
  clear hP hAW
  go_enter Tryz.func55, Tryz.ntmps55
  go_upto_region 2 with fail
  rw [HW1.out, HW2.out, HW3.out, HBS.out]
  have z0 := HF3.out.c0 w3 (Below.refl _ _)
  have z1 := HF3.out.c1 w3 (Below.refl _ _)
  have z2 := HF3.out.c2 w3 (Below.refl _ _)
  have hS := HS.out w3 (Below.refl _ _)
  have hbs : w3.cell? ⟨bs, 0, none⟩ = some (.pointer (some ⟨S, 0, none⟩)) := HL1.out.cell 0
  go_wp2_with fail
  refine (HF3.out.len w3).mono ?_
  rintro e w4 ⟨rfl, hb4⟩
  have HB4 := Lib.hid hb4
  have HF4 := Lib.hid (HF3.out.kept hb4)
  have hmf := Ce.run_mf
  clear z0 z1 z2 hS hbs hb4
  have cl : Hid (∀ V, Below w4.heap.size w4 V → ∀ k : Nat, k < K → Calls Tryz.prog 86 (#[.int .i64 (k : Nat)] ++ #[.pointer (some ⟨bs, 0, none⟩), .pointer (some ⟨bs + 1, 0, none⟩)]) V fun e w' => e = .returned (.bool (decide (x.1 < firstR f W (adr 0 obs) (k + 1)))) ∧ Below V.heap.size V w') :=
    Lib.hid (fun V hV k hk => cl83 (HF4.out.kept hV) HFL.out S bs (bs + 1) x.1 (HS.out V (on HB4.out HB4.out.size hV)) (((HL1.out.kept HB4.out).kept hV).cell 0) (((HL2.out.kept HB4.out).kept hV).cell 0) k hk)
  have mono : Hid (∀ i j : Nat, i ≤ j → decide (x.1 < firstR f W (adr 0 obs) (i + 1)) = true → decide (x.1 < firstR f W (adr 0 obs) (j + 1)) = true) := Lib.hid (fun i j hij h => by
    have h1 := first_mono (f := f) (W := W) (L := adr 0 obs) (show i + 1 ≤ j + 1 by omega)
    simp only [decide_eq_true_eq] at h ⊢; omega)
  go_wp2_with fail
  refine (search_any (w := w4) K 86 #[.pointer (some ⟨bs, 0, none⟩), .pointer (some ⟨bs + 1, 0, none⟩)] (fun k => decide (x.1 < firstR f W (adr 0 obs) (k + 1))) (by omega) mono.out enter83 cl.out).mono ?_
  rintro e w5 ⟨k0, rfl, hk0, hlo, hhi0, hb5⟩
  have HHI := Lib.hid hhi0
  have HLO := Lib.hid hlo
  have HB5 := Lib.hid (on HB4.out HB4.out.size hb5)
  clear hlo hhi0 hb5 cl mono hmf
  go_wp2_with fail
  have Hnone : Hid (∀ i, i < k0 → P i = false) := Lib.hid fun i hi => by rw [← HP.out]; have := HLO.out i hi; unfold awP; simp at this ⊢; omega
  clear HLO
  go_loopw [7, 8] (fun l kk wr => ∃ (k : Nat) (B : Option Addr) (cap n : Nat), k0 ≤ k ∧ k ≤ K ∧ kk = .int .i64 (k : Nat) ∧ l = .slice B n cap ∧ n = ((List.range k).filter P).length ∧ Rv wr w3.heap.size B cap (natZ ((List.range k).filter P)) ∧ Below w3.heap.size w3 wr) (fun _ kk _ => K - (intOf kk).toNat)
  case atStart => exact ⟨k0, none, 0, 0, Nat.le_refl _, hk0, rfl, rfl, by rw [filter_range_none Hnone.out]; rfl, by rw [filter_range_none Hnone.out]; exact Rv.nil _ _, HB5.out⟩
  case round =>
    obtain ⟨k, B, cap, n, hk1, hkK, rfl, rfl, hn, hR, hb⟩ := hrel
    have HN := Lib.hid hn
    have HR := Lib.hid hR
    have HB := Lib.hid hb
    have z0 := HF3.out.c0 wr hb
    have z1 := HF3.out.c1 wr hb
    have z2 := HF3.out.c2 wr hb
    have zS := HS.out wr hb
    have zb : wr.cell? ⟨bs, 0, none⟩ = some (.pointer (some ⟨S, 0, none⟩)) := (HL1.out.kept hb).cell 0
    have za : wr.cell? ⟨bs + 1, 0, none⟩ = some (.int .i64 (x.1 : Nat)) := (HL2.out.kept hb).cell 0
    have zl : wr.cell? ⟨bs + 1 + 1, 1, none⟩ = some (.int .i64 (ln : Nat)) := (HL3.out.kept hb).cell 1
    clear hn hR hb
    go_upto_region 3 with fail
    by_cases hkk : k = K
    · have d0 : decide ((k : Int) < (K : Int)) = false := by simp; omega
      have HEQ : Hid (AW = (List.range k).filter P) := Lib.hid (by rw [HAW.out, hkk])
      have hmx : Tryz.prog.follows .mixedOrders = true := by kernel_rfl
      have y0 : ∀ d os, (grow (redrawn wr d) os).cell? ⟨b, 0, none⟩ = some (.int .i64 (W : Nat)) := fun d os => cell_regrown z0 d os
      have y1 : ∀ d os, (grow (redrawn wr d) os).cell? ⟨b, 1, none⟩ = some (.slice (some ⟨q, 0, none⟩) K K) := fun d os => cell_regrown z1 d os
      have y2 : ∀ d os, (grow (redrawn wr d) os).cell? ⟨b, 2, none⟩ = some (.int .i64 (T : Nat)) := fun d os => cell_regrown z2 d os
      have y3 : ∀ d os, (grow (redrawn wr d) os).cell? ⟨S, 0, none⟩ = some (.pointer (some ⟨b, 0, none⟩)) := fun d os => cell_regrown zS d os
      have y4 : ∀ d os, (grow (redrawn wr d) os).cell? ⟨bs, 0, none⟩ = some (.pointer (some ⟨S, 0, none⟩)) := fun d os => cell_regrown zb d os
      have y5 : ∀ d os, (grow (redrawn wr d) os).cell? ⟨bs + 1, 0, none⟩ = some (.int .i64 (x.1 : Nat)) := fun d os => cell_regrown za d os
      have y6 : ∀ d os, (grow (redrawn wr d) os).cell? ⟨bs + 1 + 1, 1, none⟩ = some (.int .i64 (ln : Nat)) := fun d os => cell_regrown zl d os
      have c0 : ∀ d os, Hid (Calls Tryz.prog 50 #[.agg #[.int .i64 (W : Nat), .slice (some ⟨q, 0, none⟩) K K, .int .i64 (T : Nat)]] (grow (redrawn wr d) os) fun e w' => e = .returned (.int .i64 (K : Nat)) ∧ Below (grow (redrawn wr d) os).heap.size (grow (redrawn wr d) os) w') := fun d os => Lib.hid (HF3.out.len _)
      refine wp_region_quiet_below hmx (by kernel_rfl) ?_
      repeat (with_reducible refine wpQuiet_step ?_; intro K hK; go_simp; first | (with_reducible refine hK _ ?_; clear hK K) | (with_reducible apply Exists.intro; with_reducible refine ⟨fun _ => ?_, hK _ ?_⟩; (first | (with_reducible exact Calls.regrown_of (c0 _ _).out)); clear hK K))
      with_reducible refine wpQuiet_nil ?_
      rintro wq ⟨pp, rfl⟩
      have hq := below_regrown wr pp.d pp.os
      generalize grow (redrawn wr pp.d) pp.os = wq at *
      have HB2 := Lib.hid (on HB.out HB.out.size hq)
      have HR2 := Lib.hid (HR.out.below hq)
      clear z0 z1 z2 zS zb za zl y0 y1 y2 y3 y4 y5 y6 c0 hq
      go_wp2_with fail
      go_ret
      refine ⟨B, cap, by rw [HEQ.out, HN.out]; rfl, ?_, on HB3.out HB3.out.size HB2.out⟩
      rw [HEQ.out]
      exact HR2.out.wider (by have := HB3.out.size; omega)

    have hkl : k < K := by omega
    have d0 : decide ((k : Int) < (K : Int)) = true := by simp; omega
    have HC1 := Lib.hid (fun V hV => HF3.out.first V (on HB.out HB.out.size hV) k hkl)
    have HC2 := Lib.hid (fun V hV => HF3.out.live V (on HB.out HB.out.size hV) k hkl)
    have hu := HFL.out k
    have HPK : Hid (P k = awP f W (adr 0 obs) x k) := Lib.hid (by rw [HP.out])
    have HPL : Hid (∀ i, k ≤ i → ¬ (firstR f W (adr 0 obs) i ≤ x.1 + ln) → P i = false) := Lib.hid (fun i _ hi => by rw [← HP.out]; unfold awP; rw [HLN.out]; simp [hi])
    have HPM : Hid (∀ i, k ≤ i → firstR f W (adr 0 obs) k ≤ firstR f W (adr 0 obs) i) := Lib.hid (fun i hi => first_mono hi)
    have HPN : Hid (x.1 < firstR f W (adr 0 obs) (k + 1)) := Lib.hid (by have h1 := HHI.out k hk1 hkl; simpa using h1)
    unfold awP at HPK
    rw [HLN.out] at HPK
    obtain ⟨v, hv0⟩ : ∃ v, liveR f W k (adr 0 obs) = v := ⟨_, rfl⟩
    rw [hv0] at HPK HC2
    have HVV := Lib.hid hv0
    clear hv0
    obtain ⟨u, hu0⟩ : ∃ u, firstR f W (adr 0 obs) k = u := ⟨_, rfl⟩
    rw [hu0] at HC1 HPM HPK hu
    have HU := Lib.hid hu0
    clear hu0
    have hw : IntKind.i64.wrap ((x.1 : Int) + (ln : Int)) = ((x.1 + ln : Nat) : Int) := by rw [IntWalk.i64_in _ (by omega)]; omega
    by_cases hle : u ≤ x.1 + ln
    · have HPI : Hid (P k = (decide (k ≠ x.1 / W) && decide (0 < v))) := Lib.hid (by rw [HPK.out]; have h2 := HPN.out; simp [hle, h2])
      have d1 : decide ((u : Int) ≤ (x.1 : Int) + (ln : Int)) = true := by simp; omega
      have hmx : Tryz.prog.follows .mixedOrders = true := by kernel_rfl
      have y0 : ∀ d os, (grow (redrawn wr d) os).cell? ⟨b, 0, none⟩ = some (.int .i64 (W : Nat)) := fun d os => cell_regrown z0 d os
      have y1 : ∀ d os, (grow (redrawn wr d) os).cell? ⟨b, 1, none⟩ = some (.slice (some ⟨q, 0, none⟩) K K) := fun d os => cell_regrown z1 d os
      have y2 : ∀ d os, (grow (redrawn wr d) os).cell? ⟨b, 2, none⟩ = some (.int .i64 (T : Nat)) := fun d os => cell_regrown z2 d os
      have y3 : ∀ d os, (grow (redrawn wr d) os).cell? ⟨S, 0, none⟩ = some (.pointer (some ⟨b, 0, none⟩)) := fun d os => cell_regrown zS d os
      have y4 : ∀ d os, (grow (redrawn wr d) os).cell? ⟨bs, 0, none⟩ = some (.pointer (some ⟨S, 0, none⟩)) := fun d os => cell_regrown zb d os
      have y5 : ∀ d os, (grow (redrawn wr d) os).cell? ⟨bs + 1, 0, none⟩ = some (.int .i64 (x.1 : Nat)) := fun d os => cell_regrown za d os
      have y6 : ∀ d os, (grow (redrawn wr d) os).cell? ⟨bs + 1 + 1, 1, none⟩ = some (.int .i64 (ln : Nat)) := fun d os => cell_regrown zl d os
      have c0 : ∀ d os, Hid (Calls Tryz.prog 50 #[.agg #[.int .i64 (W : Nat), .slice (some ⟨q, 0, none⟩) K K, .int .i64 (T : Nat)]] (grow (redrawn wr d) os) fun e w' => e = .returned (.int .i64 (K : Nat)) ∧ Below (grow (redrawn wr d) os).heap.size (grow (redrawn wr d) os) w') := fun d os => Lib.hid (HF3.out.len _)
      have c1 : ∀ d os, Hid (Calls Tryz.prog 84 #[.agg #[.int .i64 (W : Nat), .slice (some ⟨q, 0, none⟩) K K, .int .i64 (T : Nat)], .int .i64 (k : Nat)] (grow (redrawn wr d) os) fun e w' => e = .returned (.int .i64 (u : Nat)) ∧ Below (grow (redrawn wr d) os).heap.size (grow (redrawn wr d) os) w') := fun d os => Lib.hid (HC1.out _ (below_regrown wr d os))
      refine wp_region_quiet_below hmx (by kernel_rfl) ?_
      repeat (with_reducible refine wpQuiet_step ?_; intro K hK; go_simp; first | (with_reducible refine hK _ ?_; clear hK K) | (with_reducible apply Exists.intro; with_reducible refine ⟨fun _ => ?_, hK _ ?_⟩; (first | (with_reducible exact Calls.regrown_of (c0 _ _).out) | (with_reducible exact Calls.regrown_of (c1 _ _).out)); clear hK K))
      with_reducible refine wpQuiet_nil ?_
      rintro wq ⟨pp, rfl⟩
      have hq := below_regrown wr pp.d pp.os
      generalize grow (redrawn wr pp.d) pp.os = wq at *
      have HB2 := Lib.hid (on HB.out HB.out.size hq)
      have HR2 := Lib.hid (HR.out.below hq)
      clear z0 z1 z2 zS zb za zl y0 y1 y2 y3 y4 y5 y6 c0 c1 hq HC1
      have z0 := HF3.out.c0 wq HB2.out
      have z1 := HF3.out.c1 wq HB2.out
      have z2 := HF3.out.c2 wq HB2.out
      have zS := HS.out wq HB2.out
      have zb : wq.cell? ⟨bs, 0, none⟩ = some (.pointer (some ⟨S, 0, none⟩)) := (HL1.out.kept HB2.out).cell 0
      have za : wq.cell? ⟨bs + 1, 0, none⟩ = some (.int .i64 (x.1 : Nat)) := (HL2.out.kept HB2.out).cell 0
      have HC3 := Lib.hid (fun V => HF3.out.at_ V x.1 hx)
      obtain ⟨r, hr⟩ : ∃ r, x.1 / W = r := ⟨_, rfl⟩
      rw [hr] at HPI HC3
      clear hr
      have HC2' := Lib.hid (fun V hV => HF3.out.live V (on HB2.out HB2.out.size hV) k hkl)
      rw [HVV.out] at HC2'
      go_upto_region 5 with fail
      by_cases hne : k = r
      · have d2 : ((k : Int) != (r : Int)) = false := by simp; omega
        have HPF : Hid (P k = false) := Lib.hid (by rw [HPI.out]; simp [hne])
        have hmx : Tryz.prog.follows .mixedOrders = true := by kernel_rfl
        have y0 : ∀ d os, (grow (redrawn wq d) os).cell? ⟨b, 0, none⟩ = some (.int .i64 (W : Nat)) := fun d os => cell_regrown z0 d os
        have y1 : ∀ d os, (grow (redrawn wq d) os).cell? ⟨b, 1, none⟩ = some (.slice (some ⟨q, 0, none⟩) K K) := fun d os => cell_regrown z1 d os
        have y2 : ∀ d os, (grow (redrawn wq d) os).cell? ⟨b, 2, none⟩ = some (.int .i64 (T : Nat)) := fun d os => cell_regrown z2 d os
        have y3 : ∀ d os, (grow (redrawn wq d) os).cell? ⟨S, 0, none⟩ = some (.pointer (some ⟨b, 0, none⟩)) := fun d os => cell_regrown zS d os
        have y4 : ∀ d os, (grow (redrawn wq d) os).cell? ⟨bs, 0, none⟩ = some (.pointer (some ⟨S, 0, none⟩)) := fun d os => cell_regrown zb d os
        have y5 : ∀ d os, (grow (redrawn wq d) os).cell? ⟨bs + 1, 0, none⟩ = some (.int .i64 (x.1 : Nat)) := fun d os => cell_regrown za d os
        have c0 : ∀ d os, Hid (Calls Tryz.prog 59 #[.agg #[.int .i64 (W : Nat), .slice (some ⟨q, 0, none⟩) K K, .int .i64 (T : Nat)], .int .i64 (x.1 : Nat)] (grow (redrawn wq d) os) fun e w' => e = .returned (.int .i64 (r : Nat)) ∧ Below (grow (redrawn wq d) os).heap.size (grow (redrawn wq d) os) w') := fun d os => Lib.hid (HC3.out _)
        refine wp_region_quiet_below hmx (by kernel_rfl) ?_
        repeat (with_reducible refine wpQuiet_step ?_; intro K hK; go_simp; first | (with_reducible refine hK _ ?_; clear hK K) | (with_reducible apply Exists.intro; with_reducible refine ⟨fun _ => ?_, hK _ ?_⟩; (first | (with_reducible exact Calls.regrown_of (c0 _ _).out)); clear hK K))
        with_reducible refine wpQuiet_nil ?_
        rintro wp ⟨pp, rfl⟩
        have hp := below_regrown wq pp.d pp.os
        generalize grow (redrawn wq pp.d) pp.os = wp at *
        have HB3' := Lib.hid (on HB2.out HB2.out.size hp)
        have HR3 := Lib.hid (HR2.out.below hp)
        clear z0 z1 z2 zS zb za y0 y1 y2 y3 y4 y5 c0 hp
        go_wp2_with fail
        refine ⟨⟨k + 1, B, cap, n, by omega, by omega, by go_num, rfl, ?_, ?_, HB3'.out⟩, by simp [intOf]; omega⟩
        · rw [filter_range_more, HPF.out, HN.out]; simp
        · rw [filter_range_more, HPF.out]; simpa using HR3.out
      · have d2 : ((k : Int) != (r : Int)) = true := by simp; omega
        have HPF : Hid (P k = decide (0 < v)) := Lib.hid (by rw [HPI.out]; simp [hne])
        have hvd : decide (0 < (v : Int)) = decide (0 < v) := by rw [decide_eq_decide]; omega
        have hmx : Tryz.prog.follows .mixedOrders = true := by kernel_rfl
        have y0 : ∀ d os, (grow (redrawn wq d) os).cell? ⟨b, 0, none⟩ = some (.int .i64 (W : Nat)) := fun d os => cell_regrown z0 d os
        have y1 : ∀ d os, (grow (redrawn wq d) os).cell? ⟨b, 1, none⟩ = some (.slice (some ⟨q, 0, none⟩) K K) := fun d os => cell_regrown z1 d os
        have y2 : ∀ d os, (grow (redrawn wq d) os).cell? ⟨b, 2, none⟩ = some (.int .i64 (T : Nat)) := fun d os => cell_regrown z2 d os
        have y3 : ∀ d os, (grow (redrawn wq d) os).cell? ⟨S, 0, none⟩ = some (.pointer (some ⟨b, 0, none⟩)) := fun d os => cell_regrown zS d os
        have y4 : ∀ d os, (grow (redrawn wq d) os).cell? ⟨bs, 0, none⟩ = some (.pointer (some ⟨S, 0, none⟩)) := fun d os => cell_regrown zb d os
        have y5 : ∀ d os, (grow (redrawn wq d) os).cell? ⟨bs + 1, 0, none⟩ = some (.int .i64 (x.1 : Nat)) := fun d os => cell_regrown za d os
        have c0 : ∀ d os, Hid (Calls Tryz.prog 59 #[.agg #[.int .i64 (W : Nat), .slice (some ⟨q, 0, none⟩) K K, .int .i64 (T : Nat)], .int .i64 (x.1 : Nat)] (grow (redrawn wq d) os) fun e w' => e = .returned (.int .i64 (r : Nat)) ∧ Below (grow (redrawn wq d) os).heap.size (grow (redrawn wq d) os) w') := fun d os => Lib.hid (HC3.out _)
        have c1 : ∀ d os, Hid (Calls Tryz.prog 87 #[.agg #[.int .i64 (W : Nat), .slice (some ⟨q, 0, none⟩) K K, .int .i64 (T : Nat)], .int .i64 (k : Nat)] (grow (redrawn wq d) os) fun e w' => e = .returned (.int .i64 (v : Nat)) ∧ Below (grow (redrawn wq d) os).heap.size (grow (redrawn wq d) os) w') := fun d os => Lib.hid (HC2'.out _ (below_regrown wq d os))
        refine wp_region_quiet_below hmx (by kernel_rfl) ?_
        repeat (with_reducible refine wpQuiet_step ?_; intro K hK; go_simp; first | (with_reducible refine hK _ ?_; clear hK K) | (with_reducible apply Exists.intro; with_reducible refine ⟨fun _ => ?_, hK _ ?_⟩; (first | (with_reducible exact Calls.regrown_of (c0 _ _).out) | (with_reducible exact Calls.regrown_of (c1 _ _).out)); clear hK K))
        with_reducible refine wpQuiet_nil ?_
        rintro wp ⟨pp, rfl⟩
        have hp := below_regrown wq pp.d pp.os
        generalize grow (redrawn wq pp.d) pp.os = wp at *
        have HB3' := Lib.hid (on HB2.out HB2.out.size hp)
        have HR3 := Lib.hid (HR2.out.below hp)
        clear z0 z1 z2 zS zb za y0 y1 y2 y3 y4 y5 c0 c1 hp
        by_cases hv : 0 < v
        · have d3 : decide (0 < (v : Int)) = true := by simp; omega
          have HPT : Hid (P k = true) := Lib.hid (by rw [HPF.out]; simp [hv])
          have cc : (wp.alloc (.cells #[.int .i64 (k : Nat)] 3)).cell? ⟨wp.heap.size, 0, none⟩ = some (.int .i64 (k : Nat)) := (Lies.new wp 3 [_]).cell 0
          have RV := Lib.hid (HR3.out.below (below_one wp (.cells #[.int .i64 (k : Nat)] 3)))
          have HB4 := Lib.hid (on HB3'.out HB3'.out.size (below_one wp (.cells #[.int .i64 (k : Nat)] 3)))
          have HLEN : Hid (n = (natZ ((List.range k).filter P)).length) := Lib.hid (by rw [HN.out]; simp [natZ])
          have hn65 : n ≤ 100000 := by
            rw [HN.out]
            have := List.length_filter_le P (List.range k)
            rw [List.length_range] at this; omega
          go_wp2_with (at_builtin; (have RV7 := RV.out); refine wpList_append_rv (row := natZ ((List.range k).filter P)) rfl (.tmp 70) (.tmp 72) rfl (by rw [← HLEN.out]; rfl) RV7 HB4.out.size (by rw [← HLEN.out]; exact hn65) ⟨wp.heap.size, 0, none⟩ (k : Int) rfl cc ?_; intro B7 cap7 w7 R7 G7 M7; have HR7 := Lib.hid R7; have HB7 := Lib.hid (HB4.out.grown G7 HB4.out.size (fun k e => (RV.out.blk_lt e).1)); rw [← HLEN.out]; clear R7 G7 M7 RV HB4 cc RV7)
          refine ⟨⟨k + 1, B7, cap7, n + 1, by omega, by omega, by go_num, rfl, ?_, ?_, HB7.out⟩, by simp [intOf]; omega⟩
          · rw [filter_range_more, HPT.out, HN.out]; simp
          · rw [filter_range_more, HPT.out]; have := HR7.out; unfold natZ at this ⊢; simpa using this
        · have d3 : decide (0 < (v : Int)) = false := by simp; omega
          have HPT : Hid (P k = false) := Lib.hid (by rw [HPF.out]; simp [hv])
          go_wp2_with fail
          refine ⟨⟨k + 1, B, cap, n, by omega, by omega, by go_num, rfl, ?_, ?_, HB3'.out⟩, by simp [intOf]; omega⟩
          · rw [filter_range_more, HPT.out, HN.out]; simp
          · rw [filter_range_more, HPT.out]; simpa using HR3.out
    · have d1 : decide ((u : Int) ≤ ((x.1 + ln : Nat) : Int)) = false := by simp; omega
      have HEQ : Hid (AW = (List.range k).filter P) := Lib.hid (by rw [HAW.out]; exact filter_range_stop (by omega) fun i hi => HPL.out i hi (by have := HPM.out i hi; omega))
      have hmx : Tryz.prog.follows .mixedOrders = true := by kernel_rfl
      have y0 : ∀ d os, (grow (redrawn wr d) os).cell? ⟨b, 0, none⟩ = some (.int .i64 (W : Nat)) := fun d os => cell_regrown z0 d os
      have y1 : ∀ d os, (grow (redrawn wr d) os).cell? ⟨b, 1, none⟩ = some (.slice (some ⟨q, 0, none⟩) K K) := fun d os => cell_regrown z1 d os
      have y2 : ∀ d os, (grow (redrawn wr d) os).cell? ⟨b, 2, none⟩ = some (.int .i64 (T : Nat)) := fun d os => cell_regrown z2 d os
      have y3 : ∀ d os, (grow (redrawn wr d) os).cell? ⟨S, 0, none⟩ = some (.pointer (some ⟨b, 0, none⟩)) := fun d os => cell_regrown zS d os
      have y4 : ∀ d os, (grow (redrawn wr d) os).cell? ⟨bs, 0, none⟩ = some (.pointer (some ⟨S, 0, none⟩)) := fun d os => cell_regrown zb d os
      have y5 : ∀ d os, (grow (redrawn wr d) os).cell? ⟨bs + 1, 0, none⟩ = some (.int .i64 (x.1 : Nat)) := fun d os => cell_regrown za d os
      have y6 : ∀ d os, (grow (redrawn wr d) os).cell? ⟨bs + 1 + 1, 1, none⟩ = some (.int .i64 (ln : Nat)) := fun d os => cell_regrown zl d os
      have c0 : ∀ d os, Hid (Calls Tryz.prog 50 #[.agg #[.int .i64 (W : Nat), .slice (some ⟨q, 0, none⟩) K K, .int .i64 (T : Nat)]] (grow (redrawn wr d) os) fun e w' => e = .returned (.int .i64 (K : Nat)) ∧ Below (grow (redrawn wr d) os).heap.size (grow (redrawn wr d) os) w') := fun d os => Lib.hid (HF3.out.len _)
      have c1 : ∀ d os, Hid (Calls Tryz.prog 84 #[.agg #[.int .i64 (W : Nat), .slice (some ⟨q, 0, none⟩) K K, .int .i64 (T : Nat)], .int .i64 (k : Nat)] (grow (redrawn wr d) os) fun e w' => e = .returned (.int .i64 (u : Nat)) ∧ Below (grow (redrawn wr d) os).heap.size (grow (redrawn wr d) os) w') := fun d os => Lib.hid (HC1.out _ (below_regrown wr d os))
      refine wp_region_quiet_below hmx (by kernel_rfl) ?_
      repeat (with_reducible refine wpQuiet_step ?_; intro K hK; go_simp; first | (with_reducible refine hK _ ?_; clear hK K) | (with_reducible apply Exists.intro; with_reducible refine ⟨fun _ => ?_, hK _ ?_⟩; (first | (with_reducible exact Calls.regrown_of (c0 _ _).out) | (with_reducible exact Calls.regrown_of (c1 _ _).out)); clear hK K))
      with_reducible refine wpQuiet_nil ?_
      rintro wq ⟨pp, rfl⟩
      have hq := below_regrown wr pp.d pp.os
      generalize grow (redrawn wr pp.d) pp.os = wq at *
      have HB2 := Lib.hid (on HB.out HB.out.size hq)
      have HR2 := Lib.hid (HR.out.below hq)
      clear z0 z1 z2 zS zb za zl y0 y1 y2 y3 y4 y5 y6 c0 c1 hq HC1 HC2
      go_wp2_with fail
      go_ret
      refine ⟨B, cap, by rw [HEQ.out, HN.out]; rfl, ?_, on HB3.out HB3.out.size HB2.out⟩
      rw [HEQ.out]
      exact HR2.out.wider (by have := HB3.out.size; omega)
end Go.Proofs.YtklhdilbmpndkaaGreat
