/- slices.Repeat of one number, and bits.Mul under it. What the heap's Read and Head answer, over the list of objects. -/
import Derived.Test.YtklhdilbmpndkaaGreatHa
import Derived.Laws.BitsAllLaws
import Derived.Laws.Bits128
import Derived.Laws.MakeOwn
import Derived.Laws.CopyOwn
import Derived.Lib.Hide
import Derived.Deep.RegionLaw
import Derived.Lib.SliceRun
import Derived.Test.YtklhdilbmpndkaaGreatWalk
namespace Go.Proofs.YtklhdilbmpndkaaGreat
set_option maxRecDepth 20000
open Go.RowKit
set_option linter.unusedVariables false
set_option linter.unusedSimpArgs false

theorem mask_n (n : Nat) (hn : n ≤ 65536) : bits .and .u64 (n : Int) 4294967295 = (n : Int) := by
  have h := bits_and_u64_nat n 4294967295 (by omega) (by omega)
  have e : n &&& 4294967295 = n % 4294967296 := Nat.and_two_pow_sub_one_eq_mod n 32
  rw [e, Nat.mod_eq_of_lt (by omega)] at h
  exact h
set_option maxHeartbeats 1000000 in
theorem mul64_one (n : Nat) (hn : n ≤ 65536) (w : World) : Calls Tryz.prog 103 #[.int .u64 1, .int .u64 (n : Nat)] w fun e w' => e = .returned (.tuple #[.int .u64 0, .int .u64 (n : Nat)]) ∧ w = w' := by
  have m0 : bits .and .u64 (0 : Int) 4294967295 = 0 := mask_n 0 (by omega)
  have m1 : bits .and .u64 (1 : Int) 4294967295 = 1 := mask_n 1 (by omega)
  have m2 := mask_n n hn
  have m3 : (n : Int) / 4294967296 = 0 := by omega
  go_enter Tryz.func103, Tryz.ntmps103
  go_wp2
  go_ret2
  exact ⟨rfl, rfl⟩
set_option maxHeartbeats 1000000 in
theorem mul_one (n : Nat) (hn : n ≤ 65536) (w : World) : Calls Tryz.prog 82 #[.int .u64 1, .int .u64 (n : Nat)] w fun e w' => e = .returned (.tuple #[.int .u64 0, .int .u64 (n : Nat)]) ∧ w = w' := by
  go_enter Tryz.func82, Tryz.ntmps82
  go_wp2_with fail
  refine (mul64_one n hn _).mono ?_
  rintro e w2 ⟨rfl, rfl⟩
  go_wp2
  go_ret2
  exact ⟨rfl, rfl⟩

/-- A row that is filled with the number up to a place, behind it noughts. -/
def mrow (k n : Nat) : List Value := List.replicate k (.int .i64 (-1)) ++ List.replicate (n - k) (.int .i64 0)
theorem mrow_len {k n : Nat} (h : k ≤ n) : (mrow k n).length = n := by simp [mrow]; omega
theorem mrow_at {k n j : Nat} (h : j < k) : (mrow k n)[j]? = some (.int .i64 (-1)) := by
  unfold mrow
  rw [List.getElem?_append_left (by simpa using h)]
  simp [h]
theorem mrow_set {k n c : Nat} (h : k + c ≤ n) : (mrow k n).take k ++ (List.replicate c (.int .i64 (-1)) ++ (mrow k n).drop (k + c)) = mrow (k + c) n := by
  unfold mrow
  rw [List.take_append_of_le_length (by simp), List.drop_append, ← List.append_assoc]
  simp [List.replicate_append_replicate, List.take_of_length_le]
  omega
theorem mrow_zero (n : Nat) : mrow 0 n = noughts n := by simp [mrow, noughts]
theorem mrow_full (n : Nat) : mrow n n = (List.replicate n (-1 : Int)).map (Value.int .i64) := by simp [mrow]

theorem copy_row {W : World} {a k n c : Nat} (h : Lies W a 3 (mrow k n)) (hc : k + c ≤ n) (dLen dCap sLen sCap : Nat) (sb : Nat) (hn : c = Nat.min sLen dLen) (hs : ∀ j, j < c → W.cell? ⟨sb, j, none⟩ = some (.int .i64 (-1))) :
    ∃ W', (Builtin.copy_ #[30, 30] 3 #[.slice (some ⟨a, k, none⟩) dLen dCap, .slice (some ⟨sb, 0, none⟩) sLen sCap]).run Tryz.prog W = .ok (goInt c) W' ∧ Lies W' a 3 (mrow (k + c) n) ∧ (∀ B, B ≤ a → Below B W W') ∧ W'.heap.size = W.heap.size := by
  have hl := mrow_len (k := k) (n := n) (by omega)
  have hrun := run_copy_row (P := Tryz.prog) W 30 30 3 3 a k dLen dCap ⟨sb, 0, none⟩ sLen sCap _ 3 (List.replicate c (.int .i64 (-1))) Tryz.underlying30 (by kernel_rfl) h (by simpa using hn) (fun j v hv => by
      have hj : j < c := by have := (List.getElem?_eq_some_iff.1 hv).1; simpa using this
      rw [show (⟨sb, 0, none⟩ : Addr).add j = ⟨sb, j, none⟩ by unfold Addr.add; split <;> simp_all]
      rw [hs j hj, ← hv]; simp [hj]) (by simp [hl]; omega) (fun v hv => by rw [(List.mem_replicate.1 hv).2]; rfl)
  have e0 : (mrow k n).take k ++ List.replicate c (Value.int .i64 (-1)) ++ (mrow k n).drop (k + c) = mrow (k + c) n := by rw [List.append_assoc]; exact mrow_set hc
  simp only [List.length_replicate, ← List.append_assoc] at hrun
  rw [e0] at hrun
  refine ⟨_, hrun, ?_, fun B hB => below_setRow (Below.refl _ _) hB _, by simp [World.setRow]⟩
  unfold Lies at h ⊢
  simp [World.setRow, Array.getElem?_modify, h]

theorem add_r (q i : Nat) : (⟨q, 0, none⟩ : Addr).add i = ⟨q, i, none⟩ := by unfold Addr.add; split <;> simp_all
theorem slice_from {q n k : Nat} (hk : k < n) (W : World) : (Instr.slice 30 (.slice (some ⟨q, 0, none⟩) n n) (some (.int .i64 (k : Int))) none none).run Tryz.prog W = .ok (.slice (some ⟨q, k, none⟩) (n - k) (n - k)) W := by
  obtain ⟨i0, hi0, _, hs0, _⟩ := info_3
  have h1 : (k : Int) ≤ (n : Int) := by omega
  have h2 : ¬ k = n := by omega
  simp [Instr.slice, run_underlying Tryz.underlying30, Instr.sliceBounds, go_sem, sizeOf, typeInfo, hi0, hs0, add_r, h1, h2]
  omega
theorem slice_upto {q n k : Nat} (hk : k < n) (W : World) : (Instr.slice 30 (.slice (some ⟨q, 0, none⟩) n n) none (some (.int .i64 (k : Int))) none).run Tryz.prog W = .ok (.slice (some ⟨q, 0, none⟩) k n) W := by
  obtain ⟨i0, hi0, _, hs0, _⟩ := info_3
  have h1 : (k : Int) ≤ (n : Int) := by omega
  have h2 : ¬ k = n := by omega
  simp [Instr.slice, run_underlying Tryz.underlying30, Instr.sliceBounds, go_sem, sizeOf, typeInfo, hi0, hs0, add_r, h1, h2]
theorem step_copy38 {ops : Array Oper} {o : Oper} {a : Act} {w w' : World} {K : Act → World → Prop} {Q : Exit → Act → World → Prop} {E : Prop} (hgd : o.guard = none) (d s : Operand)
    (ho : o.op = .call { callee := .builtin .copy, args := #[d, s], argTypes := #[30, 30] }) (dv sv : Value) (c : Nat) (hd : a.eval d = dv) (hs : a.eval s = sv)
    (hrun : (Builtin.copy_ #[30, 30] o.type #[dv, sv]).run Tryz.prog w = .ok (goInt c) w') (h : K (a.put o.dst (goInt c)) w') :
    if Region.wanted o (yielded ops a.tmps) = true then Oper.wp Tryz.prog o a w K Q else E := by
  have hw : Region.wanted o (yielded ops a.tmps) = true := by simp [Region.wanted, hgd]
  rw [if_pos hw]
  unfold Oper.wp
  simp [execOp, ho, resolve, invoke, builtin, hd, hs, hrun, Result.andThen]
  exact h

set_option maxHeartbeats 1000000 in
theorem repeat_any {w : World} (b0 n : Nat) (hn : n ≤ 65536) (h : Lies w b0 3 [.int .i64 (-1)]) :
    Calls Tryz.prog 49 #[.slice (some ⟨b0, 0, none⟩) 1 1, .int .i64 (n : Nat)] w fun e w' => ∃ a, e = .returned (.slice (some ⟨a, 0, none⟩) n n) ∧ w.heap.size ≤ a ∧ Lies w' a 3 ((List.replicate n (-1 : Int)).map (Value.int .i64)) ∧ Below w.heap.size w w' := by
  have hmk := make51 n hn w
  have b1 := below_one w (.cells (noughts n).toArray 3)
  have L1 : Lies (w.alloc (.cells (noughts n).toArray 3)) w.heap.size 3 (mrow 0 n) := by rw [mrow_zero]; exact Lies.new w 3 _
  obtain ⟨c, hc⟩ : ∃ c, Nat.min 1 n = c := ⟨_, rfl⟩
  have hcn : c ≤ n ∧ c ≤ 1 ∧ (n = 0 ∨ 1 ≤ c) := by
    have e1 : c = if 1 ≤ n then 1 else n := by rw [← hc]; exact Nat.min_def
    split at e1 <;> omega
  obtain ⟨hc1, hc2, hc3⟩ := hcn
  have h1 := h.kept b1
  obtain ⟨w2, hcp, L2, B2, hs2⟩ := copy_row (c := c) L1 (by omega) n n 1 1 b0 hc.symm (fun j hj => by
    have h0 : j = 0 := by omega
    subst h0
    rw [h1.cell]; rfl)
  rw [Nat.zero_add] at L2
  have HB2 := Lib.hid (b1.trans (B2 _ (Nat.le_refl _)))
  have HL2 := Lib.hid L2
  clear h b1 L1 h1 L2 B2 hc
  go_enter Tryz.func49, Tryz.ntmps49
  go_wp2_with fail
  refine (mul_one n hn _).mono ?_
  rintro e w3 ⟨rfl, rfl⟩
  go_wp2_with fail
  clear hmk hcp
  go_loopw [8] (fun v wr => ∃ k : Nat, k ≤ n ∧ (n = 0 ∨ 1 ≤ k) ∧ v = .int .i64 k ∧ Lies wr w.heap.size 3 (mrow k n) ∧ Below w.heap.size w wr) (fun v _ => n - (intOf v).toNat)
  case atStart => exact ⟨c, hc1, hc3, rfl, HL2.out, HB2.out⟩
  case round =>
    obtain ⟨k, hk, hk1, rfl, LK, BK⟩ := hrel
    have HBK := Lib.hid BK
    have HLK := Lib.hid LK
    clear LK BK
    by_cases hlt : k < n
    · have hk2 : 1 ≤ k := by omega
      obtain ⟨c2, hc4⟩ : ∃ c2, Nat.min k (n - k) = c2 := ⟨_, rfl⟩
      have hcn2 : k + c2 ≤ n ∧ 1 ≤ c2 := by
        have e1 : c2 = if k ≤ n - k then k else n - k := by rw [← hc4]; exact Nat.min_def
        split at e1 <;> omega
      obtain ⟨hc5, hc6⟩ := hcn2
      have LK := HLK.out.drew
      obtain ⟨W3, hcp3, L3, B3, hs3⟩ := copy_row (c := c2) LK hc5 (n - k) (n - k) k n w.heap.size hc4.symm (fun j hj => by
        rw [LK.cell]
        have h1 : c2 ≤ k := by rw [← hc4]; exact Nat.min_le_left _ _
        exact mrow_at (by omega))
      have HL3 := Lib.hid L3
      have HB3 := Lib.hid (HBK.out.drew.trans (B3 _ (Nat.le_refl _)))
      have k0 : (0 : Int) ≤ (k : Int) := by omega
      have k1 : (k : Int) < (n : Int) := by omega
      have k2 : (k : Int) ≤ (n : Int) := by omega
      have s0 := slice_from (q := w.heap.size) hlt
      have s1 := slice_upto (q := w.heap.size) hlt
      have HCP := Lib.hid hcp3
      have hw : IntKind.i64.wrap ((k : Int) + (c2 : Int)) = (k : Int) + (c2 : Int) := IntWalk.i64_in _ (by omega)
      clear L3 B3 LK hc4 hcp3
      go_wp2_with fail
      go_region_law (refine step_copy38 rfl (.tmp 41) (.tmp 44) rfl _ _ c2 (by simp [Act.eval, Act.put]) (by simp [Act.eval, Act.put]) HCP.out ?_)
      all_goals go_wp2
      all_goals go_simp
      all_goals exact ⟨⟨k + c2, hc5, Or.inr (by omega), by go_num, HL3.out, HB3.out⟩, by simp [intOf]; omega⟩
    · obtain rfl : k = n := by omega
      go_wp2_with fail
      go_ret
      exact ⟨_, rfl, Nat.le_refl _, by rw [← mrow_full]; exact HLK.out, HBK.out⟩
end Go.Proofs.YtklhdilbmpndkaaGreat

namespace Go.Proofs.YtklhdilbmpndkaaGreat
set_option maxRecDepth 20000
open Go.RowKit
set_option linter.unusedVariables false

/-- What Read answers. -/
def readF (obs : List Ob) (a f : Int) : Int × Int :=
  match look obs a with
  | none => (0, 3)
  | some x => if 0 ≤ f ∧ f < x.2.1.1 / 65536 then (x.2.1.2.getD f.toNat 0, 0) else (0, 4)

/-- What Head answers. -/
def headF (obs : List Ob) (a : Int) : (Int × Int × Int) × Int :=
  match look obs a with
  | none => ((0, 0, 0), 3)
  | some x => ((x.2.1.1 % 16, x.2.1.1 / 65536, x.2.1.1 % 65536 / 16), 0)

theorem headF_st {w : World} {g gw gb : Nat} {obs : List Ob} {tail : List Int} (S : St w g gw gb obs tail) (a : Int) :
    Calls Tryz.prog 77 #[.pointer (some ⟨g, 0, none⟩), .int .i64 a] w fun e w' => e = .returned (.tuple #[.agg #[.int .i64 (headF obs a).1.1, .int .i64 (headF obs a).1.2.1, .int .i64 (headF obs a).1.2.2], .int .i64 (headF obs a).2]) ∧ Below w.heap.size w w' := by
  unfold headF
  cases hl : look obs a with
  | none => exact head_no S.lies a (start_not (look_none _ hl))
  | some x =>
    obtain ⟨pre, o, post⟩ := x
    obtain ⟨e0, rfl⟩ := look_some _ _ _ hl
    simp only at e0 ⊢
    subst e0
    exact head_st S _ rfl

end Go.Proofs.YtklhdilbmpndkaaGreat
