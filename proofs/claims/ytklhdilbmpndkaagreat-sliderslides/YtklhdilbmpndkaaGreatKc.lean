/- The law's own step, of one worker. While the law plays. -/
import Derived.Test.YtklhdilbmpndkaaGreatKb
import Derived.Deep.DeepCutAuto
import Derived.BigQuiet
namespace Go.Proofs.YtklhdilbmpndkaaGreat
set_option maxRecDepth 20000
open Go.RowKit Go.Sort
set_option linter.unusedVariables false
set_option linter.unusedSimpArgs false


section
variable {C : Cx} {size : Nat} {base : Nat → Int} {w0 : W2} {w w' : World} {t : Int} {Q : Pm}
theorem Run.rebase (R : Run C size base w0 w t Q) : Run C size base ⟨w0.toWorld, w⟩ w t Q := by
  obtain ⟨M, h1, h2⟩ := R.mem
  exact ⟨⟨M, h1.rebase, h2⟩, R.inv, R.few, R.cok, R.obk, R.small⟩
theorem Run.off (R : Run C size base w0 w t Q) (p : Addr) (hp1 : C.B1 ≤ p.block) (hp2 : p.block < C.B2) (u : Value) : Run C size base ⟨w0.toWorld, w.setCell p u⟩ (w.setCell p u) t Q := by
  obtain ⟨M, h1, h2⟩ := R.mem
  exact ⟨⟨M, h1.off p hp1 hp2 u, h2⟩, R.inv, R.few, R.cok, R.obk, R.small⟩
theorem Run.hik (R : Run C size base w0 w t Q) : ∀ b, C.B1 ≤ b → b < C.B2 → w.heap[b]? = w0.also.heap[b]? := by
  obtain ⟨M, h1, h2⟩ := R.mem
  exact h1.hik
theorem Run.sz (R : Run C size base w0 w t Q) : C.B2 ≤ w.heap.size := by
  obtain ⟨M, h1, h2⟩ := R.mem
  exact h1.size
theorem run_touches (R : Run C size base w0 w t Q) : Calls Tryz.prog 13 #[.pointer (some ⟨C.S, 0, none⟩)] w fun e w' => e = .returned (.int .i64 t) ∧ w = w' := by
  obtain ⟨M, h1, h2, h3⟩ := R.mem
  rw [← h3]
  exact touches_any h1
theorem run_moved (R : Run C size base w0 w t Q) : Calls Tryz.prog 14 #[.pointer (some ⟨C.S, 0, none⟩)] w fun e w' => e = .returned (.int .i64 (Q.moved : Nat)) ∧ w = w' := by
  obtain ⟨M, h1, h2, h3⟩ := R.mem
  rw [← h2.moved]
  exact moved_any h1
theorem run_range (R : Run C size base w0 w t Q) (i : Int) (hi : i < 0 ∨ (C.n : Int) ≤ i) : Calls Tryz.prog 11 #[.pointer (some ⟨C.S, 0, none⟩), .int .i64 i] w fun e w' => e = .returned (.int .i64 1) ∧ w = w' := by
  obtain ⟨M, h1, h2, h3⟩ := R.mem
  exact step_range h1 i hi
theorem run_roots (R : Run C size base w0 w t Q) (A : Option Addr) (n c : Nat) (l : List Int) (hl : Row w A l) (hn : l.length = n) (hn2 : n ≤ 65536) (hin : ∀ z ∈ l, InR z) (hok : l.all (okW C.f (adr 0 C.obs)) = true) :
    Calls Tryz.prog 16 #[.pointer (some ⟨C.S, 0, none⟩), .slice A n c] w fun e w' => ∃ q, e = .returned (.tuple #[.slice (some ⟨q, 0, none⟩) n n, .int .i64 0]) ∧ w.heap.size ≤ q ∧ Lies w' q 3 ((l.map (mvW C.f (adr 0 C.obs))).map (Value.int .i64)) ∧ Below w.heap.size w w' := by
  obtain ⟨M, h1, h2, h3⟩ := R.mem
  refine (roots_any h1 A n c l hl hn hn2 hin).mono ?_
  rintro e w' ⟨a, _, b⟩
  obtain ⟨q, x1, x2, x3⟩ := a hok
  exact ⟨q, x1, x2, x3, b⟩
theorem run_end (R : Run C size base w0 w t Q) (hl : Q.left = 0) {j : Nat} (hj : j < C.n) : Calls Tryz.prog 11 #[.pointer (some ⟨C.S, 0, none⟩), .int .i64 (j : Nat)] w fun e w' => e = .returned (.int .i64 12) ∧ w = w' := by
  obtain ⟨M, h1, h2, h3⟩ := R.mem
  exact step_end h1 (by rw [h2.left, hl]; rfl) j hj
set_option maxHeartbeats 1000000 in
theorem sheap_no (R : Run C size base w0 w t Q) (hl : Q.left ≠ 0) : Calls Tryz.prog 12 #[.pointer (some ⟨C.S, 0, none⟩)] w fun e w' => e = .returned (.tuple #[.pointer none, .int .i64 9]) ∧ w = w' := by
  have HO := Lib.hid (run_over R)
  have hd0 : decide (Q.left = 0) = false := by simp [hl]
  rw [hd0] at HO
  clear R hl hd0
  go_enter Tryz.func12, Tryz.ntmps12
  go_wp2_with fail
  refine HO.out.mono ?_
  rintro e w2 ⟨rfl, rfl⟩
  go_wp2
  go_ret2
  exact ⟨rfl, rfl⟩
/-- How many objects stay. -/
theorem st_eq {st : List Bool} {f : Nat → Bool} {obs : List Ob} (h : Stb st f obs) : st = (adr 0 obs).map (keepB f) := by
  refine List.ext_getElem? fun i => ?_
  by_cases hi : i < obs.length
  · obtain ⟨o, ho⟩ : ∃ o, obs[i]? = some o := ⟨_, List.getElem?_eq_getElem hi⟩
    rw [h.at_ i o ho, List.getElem?_map, adr_atI ho]; rfl
  · rw [List.getElem?_eq_none (by rw [h.len]; omega), List.getElem?_eq_none (by rw [List.length_map, adr_len]; omega)]
theorem count_filter (g : Nat × Ob → Bool) : ∀ l : List (Nat × Ob), (l.map g).count true = (l.filter g).length
  | [] => rfl
  | x :: l => by
    rw [List.map_cons, List.filter_cons, List.count_cons, count_filter g l]
    cases h : g x <;> simp
theorem run_many (R : Run C size base w0 w t Q) {st : List Bool} (hst : Stb st C.f C.obs) : Q.moved ≤ st.count true := by
  have h1 := many_regions R.cok
  have h2 := R.inv.moved
  rw [st_eq hst, count_filter]
  unfold Cx.L at h1
  omega
theorem run_all (R : Run C size base w0 w t Q) {st : List Bool} (hst : Stb st C.f C.obs) (hl : Q.left = 0) : Q.moved = st.count true := by
  have h1 := many_regions R.cok
  have h2 := (at_end R.cok R.inv hl).2.2
  rw [st_eq hst, count_filter]
  unfold Cx.L at h1
  omega
end
set_option maxRecDepth 1000000 in
set_option maxHeartbeats 4000000 in
theorem stepz_any {C : Cx} {size : Nat} {base : Nat → Int} {w0 : W2} {w : World} {t : Int} {Q : Pm} {st : List Bool} {j bs bt bm many : Nat} (R : Run C size base w0 w t Q) (hj : j < C.n) (hst : Stb st C.f C.obs) (hmany : st.count true = many) (hm2 : many ≤ 65536) (ht : 0 ≤ t ∧ t ≤ 100000000)
    (Ls : Lies w bs 38 [.pointer (some ⟨C.S, 0, none⟩)]) (Lt : Lies w bt 3 [.int .i64 t]) (Lm : Lies w bm 3 [.int .i64 (many : Nat)]) (hbs : C.B1 ≤ bs ∧ bs < C.B2) (hbt : C.B1 ≤ bt ∧ bt < C.B2) (hbm : C.B1 ≤ bm ∧ bm < C.B2) (hne : bm ≠ bt) :
    Calls Tryz.prog 9 (#[.int .i64 (j : Nat)] ++ #[.pointer (some ⟨bs, 0, none⟩), .pointer (some ⟨bt, 0, none⟩), .pointer (some ⟨bm, 0, none⟩)]) w fun e w' => e = .returned (.bool true) ∧ ∃ t', Run C size base ⟨w0.toWorld, w'⟩ w' t' (stepO C Q j) ∧ t ≤ t' ∧ t' ≤ t + 1 ∧ Lies w' bt 3 [.int .i64 t'] ∧ (∀ b, C.B1 ≤ b → b < C.B2 → b ≠ bt → w'.heap[b]? = w.heap[b]?) := by
  have R1 := R.rebase
  have HR := Lib.hid R1
  have HO := Lib.hid (run_over R1)
  obtain ⟨Q2, hQ2⟩ : ∃ Q2, stepO C Q j = Q2 := ⟨_, rfl⟩
  have hst9 := run_step R1 hj
  rw [hQ2] at hst9 ⊢
  have HQ2 := Lib.hid hQ2
  have HST := Lib.hid hst9
  have HS := Lib.hid hst
  have HJ := Lib.hid hj
  have HMY := Lib.hid hmany
  have HLs := Lib.hid Ls
  have HLt := Lib.hid Lt
  have HLm := Lib.hid Lm
  have HBS := Lib.hid hbs
  have HBT := Lib.hid hbt
  have HBM := Lib.hid hbm
  have HNE := Lib.hid hne
  have c0 : w.cell? ⟨bs, 0, none⟩ = some (.pointer (some ⟨C.S, 0, none⟩)) := Ls.cell 0
  have ht0 := ht.1
  have ht1 := ht.2
  clear R R1 hj hst hmany hst9 hQ2 Ls Lt Lm hbs hbt hbm hne ht
  by_cases hl : Q.left = 0
  · have HL0 := Lib.hid hl
    have hd0 : decide (Q.left = 0) = true := by simp [hl]
    rw [hd0] at HO
    have HEN := Lib.hid (run_end HR.out hl HJ.out)
    have HSO : Hid (Q2 = Q) := Lib.hid (by rw [← HQ2.out]; unfold stepO; rw [if_pos hl])
    clear hl hd0 HST
    go_enter Tryz.func9, Tryz.ntmps9
    go_wp2_with fail
    refine HO.out.mono ?_
    rintro e w2 ⟨rfl, rfl⟩
    go_wp2_with fail
    refine HEN.out.mono ?_
    rintro e w2 ⟨rfl, rfl⟩
    go_wp2_with fail
    go_ret
    exact ⟨rfl, t, by rw [HSO.out]; exact HR.out, Int.le_refl _, by omega, HLt.out, fun _ _ _ _ => rfl⟩
  · have HL0 := Lib.hid hl
    have hd0 : decide (Q.left = 0) = false := by simp [hl]
    have HNO := Lib.hid (sheap_no HR.out hl)
    rw [hd0] at HO
    rw [if_neg hl] at HST
    clear hl hd0
    go_enter Tryz.func9, Tryz.ntmps9
    go_wp2_with fail
    refine HO.out.mono ?_
    rintro e w2 ⟨rfl, rfl⟩
    go_wp2_with fail
    refine HNO.out.mono ?_
    rintro e w2 ⟨rfl, rfl⟩
    go_wp2_with fail
    refine HST.out.mono ?_
    rintro e w2 ⟨rfl, t2, hR2, htt, -⟩
    have ht2 : t ≤ t2 ∧ t2 ≤ t + 1 := by
      rcases htt with e | e
      · omega
      · rw [IntWalk.i64_in _ (by omega)] at e; omega
    have HR2 := Lib.hid hR2
    have hfr := hR2.hik
    have HFR := Lib.hid hfr
    have Ls2 := HLs.out.of_block (hfr bs HBS.out.1 HBS.out.2)
    have Lt2 := HLt.out.of_block (hfr bt HBT.out.1 HBT.out.2)
    have Lm2 := HLm.out.of_block (hfr bm HBM.out.1 HBM.out.2)
    have x0 : w2.cell? ⟨bs, 0, none⟩ = some (.pointer (some ⟨C.S, 0, none⟩)) := Ls2.cell 0
    have x1 : w2.cell? ⟨bt, 0, none⟩ = some (.int .i64 t) := Lt2.cell 0
    have x2 := Lt2.frozen 0
    have x3 := Lt2.lt
    have HLs2 := Lib.hid Ls2
    have HLt2 := Lib.hid Lt2
    have HLm2 := Lib.hid Lm2
    have HTC := Lib.hid (run_touches hR2)
    have hge := ht2.1
    have hle := ht2.2
    clear hR2 htt hfr Ls2 Lt2 Lm2 ht2
    go_wp2_with fail
    refine HTC.out.mono ?_
    rintro e wx ⟨rfl, hwx⟩
    rw [← hwx]; clear hwx wx
    have hbsne : bs ≠ bt := HLs2.out.apart HLt2.out (by decide)
    have R8 := HR2.out.off ⟨bt, 0, none⟩ HBT.out.1 HBT.out.2 (.int .i64 t2)
    have HR8 := Lib.hid R8
    have HF8 : Hid (∀ b, b ≠ bt → (w2.setCell ⟨bt, 0, none⟩ (.int .i64 t2)).heap[b]? = w2.heap[b]?) := Lib.hid (fun b hb => Below.heap_setCell w2 ⟨bt, 0, none⟩ _ b hb)
    have L8 : Lies (w2.setCell ⟨bt, 0, none⟩ (.int .i64 t2)) bt 3 [.int .i64 t2] := HLt2.out.set 0 _
    have HL8 := Lib.hid L8
    have y0 : (w2.setCell ⟨bt, 0, none⟩ (.int .i64 t2)).cell? ⟨bt, 0, none⟩ = some (.int .i64 t2) := L8.cell 0
    have y1 : (w2.setCell ⟨bt, 0, none⟩ (.int .i64 t2)).cell? ⟨bs, 0, none⟩ = some (.pointer (some ⟨C.S, 0, none⟩)) := (HLs2.out.of_block (HF8.out bs hbsne)).cell 0
    have y2 : (w2.setCell ⟨bt, 0, none⟩ (.int .i64 t2)).cell? ⟨bm, 0, none⟩ = some (.int .i64 (many : Nat)) := (HLm2.out.of_block (HF8.out bm HNE.out)).cell 0
    have hmv := run_many R8 HS.out
    rw [HMY.out] at hmv
    clear L8 R8
    go_upto_region 8 with fail
    obtain ⟨w8, hw8⟩ : ∃ w8, w2.setCell ⟨bt, 0, none⟩ (.int .i64 t2) = w8 := ⟨_, rfl⟩
    rw [hw8] at y0 y1 y2 HR8 HF8 HL8 ⊢
    obtain ⟨mv, hmv2⟩ : ∃ mv, Q2.moved = mv := ⟨_, rfl⟩
    have HMV := Lib.hid hmv2
    rw [hmv2] at hmv
    have d1 : decide (t2 ≥ t) = true := by simp; omega
    have e1 : IntKind.i64.wrap (t + 1) = t + 1 := IntWalk.i64_in _ (by omega)
    have d2 : decide (t2 ≤ t + 1) = true := by simp; omega
    have d3 : decide (mv ≤ many) = true := by simp; omega
    have HMC := Lib.hid (fun k => by have h := run_moved (HR8.out.kept (Mk.below_drewN w8 k)); rw [hmv2] at h; exact h)
    clear hmv2 hw8 x0 x1 x2 x3 c0
    go_quiet ((go_at_call 14; exact Mk.quiet_same (HMC.out _)))
    go_wp2
    go_ret
    exact ⟨rfl, t2, (HR8.out.kept (Mk.below_drewN w8 nq)).rebase, hge, hle, HL8.out.kept (Mk.below_drewN w8 nq), fun b hB1 hB2 hb => ((Mk.below_drewN w8 nq).block b (Nat.lt_of_lt_of_le hB2 HR8.out.sz)).trans ((HF8.out b hb).trans (HFR.out b hB1 hB2))⟩
end Go.Proofs.YtklhdilbmpndkaaGreat

namespace Go.Proofs.YtklhdilbmpndkaaGreat
set_option maxRecDepth 20000
open Go.RowKit Go.Sort
set_option linter.unusedVariables false
set_option linter.unusedSimpArgs false


/-- While the law plays: the sliding, its touches in a variable, all else of the law's as it was. -/
structure Go3 (C : Cx) (size : Nat) (base : Nat → Int) (W0 wL : World) (bt T : Nat) (w : World) (Q : Pm) : Prop where
  run : ∃ t, Run C size base ⟨W0, w⟩ w t Q ∧ 0 ≤ t ∧ t ≤ (T : Int) ∧ Lies w bt 3 [.int .i64 t]
  prot : ∀ b, C.B1 ≤ b → b < C.B2 → b ≠ bt → w.heap[b]? = wL.heap[b]?
section
variable {C : Cx} {size : Nat} {base : Nat → Int} {W0 wL w w' : World} {bt T T' : Nat} {Q : Pm}
theorem Go3.mono (h : Go3 C size base W0 wL bt T w Q) (hT : T ≤ T') : Go3 C size base W0 wL bt T' w Q := by
  obtain ⟨t, h1, h2, h3, h4⟩ := h.run
  exact ⟨⟨t, h1, h2, by omega, h4⟩, h.prot⟩
theorem Go3.kept (h : Go3 C size base W0 wL bt T w Q) (hb : Below w.heap.size w w') : Go3 C size base W0 wL bt T w' Q := by
  obtain ⟨t, h1, h2, h3, h4⟩ := h.run
  exact ⟨⟨t, (h1.kept hb).rebase, h2, h3, h4.kept hb⟩, fun b hB1 hB2 hne => (hb.block b (Nat.lt_of_lt_of_le hB2 h1.sz)).trans (h.prot b hB1 hB2 hne)⟩
theorem Go3.inv (h : Go3 C size base W0 wL bt T w Q) : Inv C size base C.final Q := by
  obtain ⟨t, h1, _⟩ := h.run; exact h1.inv
theorem Go3.cok (h : Go3 C size base W0 wL bt T w Q) : Cok C size base := by
  obtain ⟨t, h1, _⟩ := h.run; exact h1.cok
theorem Go3.old (h : Go3 C size base W0 wL bt T w Q) : Below W0.heap.size W0 w := by
  obtain ⟨t, h1, _⟩ := h.run; exact h1.old
theorem Go3.lies (h : Go3 C size base W0 wL bt T w Q) {b : Nat} {ty : TypeId} {cs : List Value} (hl : Lies wL b ty cs) (h1 : C.B1 ≤ b) (h2 : b < C.B2) (h3 : b ≠ bt) : Lies w b ty cs := hl.of_block (h.prot b h1 h2 h3)
theorem phi_le (h : Inv C size base C.final Q) {j : Nat} (hj : j < C.n) : Phi C (stepO C Q j) ≤ Phi C Q := by
  unfold stepO
  by_cases hl : Q.left = 0
  · rw [if_pos hl]; exact Nat.le_refl _
  · rw [if_neg hl]
    by_cases hc : can Q j
    · exact Nat.le_of_lt (phi_falls h hj hc)
    · rw [stuck hc]; exact Nat.le_refl _
theorem Go3.step (h : Go3 C size base W0 wL bt T w Q) {st : List Bool} {j bs bm many : Nat} (hj : j < C.n) (hst : Stb st C.f C.obs) (hmany : st.count true = many) (hm2 : many ≤ 65536) (hT : T ≤ 100000000)
    (Ls : Lies wL bs 38 [.pointer (some ⟨C.S, 0, none⟩)]) (Lm : Lies wL bm 3 [.int .i64 (many : Nat)]) (hbs : C.B1 ≤ bs ∧ bs < C.B2) (hbt : C.B1 ≤ bt ∧ bt < C.B2) (hbm : C.B1 ≤ bm ∧ bm < C.B2) (hne : bm ≠ bt) (hne2 : bs ≠ bt) :
    Calls Tryz.prog 9 (#[.int .i64 (j : Nat)] ++ #[.pointer (some ⟨bs, 0, none⟩), .pointer (some ⟨bt, 0, none⟩), .pointer (some ⟨bm, 0, none⟩)]) w fun e w' => e = .returned (.bool true) ∧ Go3 C size base W0 wL bt (T + 1) w' (stepO C Q j) := by
  obtain ⟨t, h1, h2, h3, h4⟩ := h.run
  refine (stepz_any h1 hj hst hmany hm2 ⟨h2, by omega⟩ (h.lies Ls hbs.1 hbs.2 hne2) h4 (h.lies Lm hbm.1 hbm.2 hne) hbs hbt hbm hne).mono ?_
  rintro e w' ⟨he, t', x1, x2, x3, x4, x5⟩
  exact ⟨he, ⟨t', x1, by omega, by omega, x4⟩, fun b hB1 hB2 hb => (x5 b hB1 hB2 hb).trans (h.prot b hB1 hB2 hb)⟩
end
end Go.Proofs.YtklhdilbmpndkaaGreat
