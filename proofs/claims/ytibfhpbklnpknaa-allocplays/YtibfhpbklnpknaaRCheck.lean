/- What the reference's Check answers. -/
import Derived.Test.YtibfhpbklnpknaaModel
import Derived.Test.YtibfhpbklnpknaaGd
namespace Go.Proofs.Ytibfhpbklnpknaa
open Go.RowKit Go.Sort
set_option linter.unusedVariables false
set_option linter.unusedSimpArgs false

set_option maxRecDepth 100000 in
set_option maxHeartbeats 400000 in
theorem rcheck_any {w : World} {A : Option Addr} {obs : List Ob} (s : Int) (n c : Nat) (hf : Fine obs) (h : Things w A obs) (hw : Within obs) (hn : obs.length = n) (hm : n ≤ 65536) :
    Calls Try.prog 41 #[.agg #[.int .i64 s, .slice A n c]] w fun e w' => e = .returned (.bool (!badB obs)) ∧ Below w.heap.size w w' := by
  have HH := Lib.hid h
  have HF := Lib.hid hf
  have HW := Lib.hid hw
  have HN := Lib.hid hn
  clear h hf hn hw
  have hmx : Try.prog.follows .mixedOrders = true := by kernel_rfl
  go_enter Try.func41, Try.ntmps41
  go_wp2
  go_loopw [8, 3, 4] (fun i _ _ wr => ∃ k : Nat, k ≤ n ∧ i = .int .i64 k ∧ (obs.take k).any (badOb obs) = false ∧ Lies wr w.heap.size 36 [.int .i64 s, .slice A n c] ∧ Below w.heap.size w wr) (fun i _ _ _ => n - (intOf i).toNat)
  case atStart => exact ⟨0, Nat.zero_le _, rfl, rfl, Lies.new w 36 [.int .i64 s, .slice A n c], (Below.refl _ w).alloc (Nat.le_refl _) _⟩
  case round =>
    obtain ⟨k, hk, rfl, hno, L, BB⟩ := hrel
    have HNo := Lib.hid hno
    clear hno
    by_cases hlt : k < n
    · obtain ⟨o, ho⟩ : ∃ o, obs[k]? = some o := ⟨_, List.getElem?_eq_getElem (by rw [HN.out]; exact hlt)⟩
      have hfo := HF.out o (List.mem_of_getElem? ho)
      obtain ⟨_, _, _, _, hp0, hp1, _⟩ := (good_iff _ _ _).1 (head_good hfo.1)
      obtain ⟨P, hP⟩ := Int.eq_ofNat_of_zero_le hp0
      have hP' : ptrs o.1 = P := by unfold ptrs; rw [hP]; simp
      have hPl : P ≤ o.2.length := by have := hfo.2; unfold lenOf at this; omega
      have hPb : P ≤ 4095 := by have := len_le hfo.1; have := hfo.2; omega
      have hob : badOb obs o = (o.2.take P).any (astrayO obs) := by unfold badOb; rw [hP']
      obtain ⟨M, hM⟩ : ∃ M, o.2.length = M := ⟨_, rfl⟩
      rw [hM] at hPl
      have HO := Lib.hid ho
      have HP := Lib.hid hP
      have HOb := Lib.hid hob
      have HM := Lib.hid hM
      clear ho hP hob hM hP' hfo hp0 hp1
      have k0 : (0 : Int) ≤ (k : Int) := by omega
      have k1 : (k : Int) < (n : Int) := by omega
      go_wp2
      go_loopw [4] (fun i wr => ∃ q : Nat, q ≤ P ∧ i = .int .i64 q ∧ (o.2.take q).any (astrayO obs) = false ∧ Lies wr w.heap.size 36 [.int .i64 s, .slice A n c] ∧ Below w.heap.size w wr) (fun i _ => P - (intOf i).toNat)
      case atStart => exact ⟨0, Nat.zero_le _, rfl, rfl, L, BB⟩
      case round =>
        clear L BB
        obtain ⟨q, hq, rfl, hno, L, BB⟩ := hrel
        have HNq := Lib.hid hno
        clear hno
        obtain ⟨ad, B, cc, rfl, c0, c1, c2, c3, c4, hR, -, -⟩ := (HH.out.kept BB).at_ HO.out
        rw [HP.out] at c3
        rw [HM.out] at c4
        have HR := Lib.hid hR
        have x1 : wr.cell? ⟨w.heap.size, 1, none⟩ = some (.slice (some ad) n c) := L.cell 1
        have x0 : wr.cell? ⟨w.heap.size, 0, none⟩ = some (.int .i64 s) := L.cell 0
        clear c0 c1 c2 hR
        by_cases hql : q < P
        · obtain ⟨bd, rfl, hcx⟩ := HR.out.at_ (i := q) (by rw [HM.out]; omega)
          have hqm : q < o.2.length := by rw [HM.out]; omega
          have e0 : o.2.getD q 0 = o.2[q] := by simp [List.getD, hqm]
          have hin := HW.out o (List.mem_of_getElem? HO.out) o.2[q] (List.getElem_mem hqm)
          have hnx : (o.2.take (q + 1)).any (astrayO obs) = astrayO obs (o.2.getD q 0) := by
            rw [List.take_succ_eq_append_getElem hqm, List.any_append, HNq.out, e0]; simp
          have hyes : astrayO obs (o.2.getD q 0) = true → badB obs = true := fun hc => by
            unfold badB
            rw [List.any_eq_true]
            refine ⟨o, List.mem_of_getElem? HO.out, ?_⟩
            rw [HOb.out, List.any_eq_true]
            refine ⟨o.2.getD q 0, ?_, hc⟩
            rw [e0, List.mem_iff_getElem?]
            exact ⟨q, by rw [List.getElem?_take, if_pos hql]; exact List.getElem?_eq_getElem hqm⟩
          rw [← e0] at hin
          have HNx := Lib.hid hnx
          have HYs := Lib.hid hyes
          clear hnx hyes e0 hqm
          generalize o.2.getD q 0 = v at *
          have X0 := fun d os => cell_regrown x0 d os
          have X1 := fun d os => cell_regrown x1 d os
          have X4 := fun d os => cell_regrown c4 d os
          have XV := fun d os => cell_regrown hcx d os
          have HC : ∀ d os, Hid (Calls Try.prog 53 #[.agg #[.int .i64 s, .slice (some ad) n c], .int .i64 v] (grow (redrawn wr d) os) fun e w' => e = .returned (.bool (!astrayO obs v)) ∧ Below (grow (redrawn wr d) os).heap.size (grow (redrawn wr d) os) w') := fun d os =>
            Lib.hid (leads_any s v n c ((HH.out.kept BB).kept (below_regrown wr d os)) HN.out hm hin)
          have q0 : (0 : Int) ≤ (q : Int) := by omega
          have q1 : (q : Int) < (M : Int) := by omega
          clear hin
          go_wp2_with fail
          refine wp_region_quiet_below hmx (by kernel_rfl) ?_
          repeat (quiet_step (exact Calls.regrown_of (HC _ _).out))
          refine wpQuiet_nil ?_
          rintro w4 ⟨p, rfl⟩
          have hb4 := below_regrown wr p.d p.os
          generalize grow (redrawn wr p.d) p.os = w4 at *
          have B4 := on BB BB.size hb4
          have L4 := L.below hb4 L.lt
          clear X0 X1 X4 XV HC x0 x1 c3 c4 hcx
          cases hb : astrayO obs v with
          | false =>
            go_wp2
            exact ⟨⟨q + 1, by omega, by go_num, by rw [HNx.out]; exact hb, L4, B4⟩, by simp [intOf]; omega⟩
          | true =>
            go_wp2
            go_ret
            exact ⟨by rw [HYs.out hb]; rfl, B4⟩
        · obtain rfl : q = P := by omega
          have hnx : (obs.take (k + 1)).any (badOb obs) = false := by
            obtain ⟨hi, he⟩ := List.getElem?_eq_some_iff.1 HO.out
            rw [List.take_succ_eq_append_getElem hi, List.any_append, HNo.out, he]
            have := HNq.out
            simp [HOb.out, this]
          have HNx := Lib.hid hnx
          clear hnx c4
          go_wp2
          exact ⟨⟨k + 1, by omega, by go_num, HNx.out, L, BB⟩, by simp [intOf]; omega⟩
    · obtain rfl : k = n := by omega
      have hall : badB obs = false := by
        have := HNo.out
        rw [List.take_of_length_le (by rw [HN.out]; exact Nat.le_refl _)] at this
        exact this
      have HAll := Lib.hid hall
      clear hall
      go_wp2
      go_ret
      exact ⟨by rw [HAll.out]; rfl, BB⟩
end Go.Proofs.Ytibfhpbklnpknaa
