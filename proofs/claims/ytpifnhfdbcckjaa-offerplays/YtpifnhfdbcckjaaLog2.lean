/- Log. -/
import Derived.Test.YtpifnhfdbcckjaaLog
namespace Go.Proofs.Ytpifnhfdbcckjaa
open Go.RowKit
set_option linter.unusedVariables false
set_option linter.unusedSimpArgs false

theorem addr_zero (p : Nat) : (⟨p, 0, none⟩ : Addr).add 0 = ⟨p, 0, none⟩ := add_at p 0
def Plain (A : Option Addr) : Prop := A = none ∨ ∃ p, A = some ⟨p, 0, none⟩
theorem plain_map {A : Option Addr} (h : Plain A) : A.map (fun a => a.add 0) = A := by
  rcases h with rfl | ⟨p, rfl⟩
  · rfl
  · simp [addr_zero]
theorem slice0 {A : Option Addr} (n c : Nat) (h : Plain A) (W : World) : (Instr.slice 37 (.slice A n c) (some (.int .i64 0)) none none).run Try.prog W = .ok (.slice A n c) W := by
  have := plain_map h
  obtain ⟨i0, hi0, _⟩ := info39
  simp [Instr.slice, run_underlying Try.underlying37, Instr.sliceBounds, go_sem, sizeOf, typeInfo, hi0, this]
theorem slice1 {A : Option Addr} (n c : Nat) (h : Plain A) (W : World) : (Instr.slice 37 (.slice A n c) none (some (.int .i64 0)) none).run Try.prog W = .ok (.slice A 0 c) W := by
  have := plain_map h
  obtain ⟨i0, hi0, _⟩ := info39
  simp [Instr.slice, run_underlying Try.underlying37, Instr.sliceBounds, go_sem, sizeOf, typeInfo, hi0, this]
theorem sliceN (q n : Nat) (hn : (n : Int) ≤ n) (W : World) : (Instr.slice 37 (.slice (some ⟨q, 0, none⟩) n n) (some (.int .i64 (n : Int))) none none).run Try.prog W = .ok (.slice (some ⟨q, 0, none⟩) 0 0) W := by
  obtain ⟨i0, hi0, _⟩ := info39
  simp [Instr.slice, run_underlying Try.underlying37, Instr.sliceBounds, go_sem, sizeOf, typeInfo, hi0]

section
variable {w : World} {base g gw : Nat} {zs : List Int} {A : Option Addr} {c : Nat} {ts : List Tc}
theorem At.plain (h : At w base g gw zs A c ts) : Plain A := by
  obtain ⟨_, ⟨e, _⟩ | ⟨q, cap, cur, e, _⟩⟩ := h.log
  · injection e with e; exact Or.inl e
  · injection e with e; exact Or.inr ⟨q, e⟩

set_option maxHeartbeats 1000000 in
theorem log_any (h : At w base g gw zs A c ts) (hn : ts.length ≤ 30000) : Calls Try.prog 20 #[.pointer (some ⟨g, 0, none⟩)] w fun e w' => e = .returned (.slice (some ⟨w.heap.size, 0, none⟩) ts.length ts.length) ∧ Lies w' w.heap.size 58 (cellsT ts) ∧ Below w.heap.size w w' := by
  have hmk := make30 ts.length (by omega)
  have hc1 : w.cell? ⟨g, 1, none⟩ = some (.slice A ts.length c) := h.own.cell 1
  have hlt := h.own.lt
  obtain ⟨X, hX⟩ : ∃ X : Obj, X = .cells (blank ts.length).toArray 58 := ⟨_, rfl⟩
  rw [← hX] at hmk
  have LX : Lies (w.alloc X) w.heap.size 58 (blank ts.length) := by rw [hX]; exact Lies.new w 58 _
  have BX := below_one w X
  obtain ⟨W2, hcp, L2, B2⟩ := run_copy30 (q := w.heap.size) 3 (w.alloc X).drew LX.drew (h.kept BX.drew).log w.heap.size (Nat.le_refl _)
  have HB2 := Lib.hid (BX.drew.trans B2)
  have HL2 := Lib.hid L2
  have h2 := h.kept HB2.out
  have k1 : W2.cell? ⟨g, 1, none⟩ = some (.slice A ts.length c) := h2.own.cell 1
  have k2 : W2.cell? ⟨g, 2, none⟩ = some (.int .i64 0) := h2.own.cell 2
  have j1 : (w.alloc X).cell? ⟨g, 1, none⟩ = some (.slice A ts.length c) := (h.kept BX).own.cell 1
  have j2 : (w.alloc X).cell? ⟨g, 2, none⟩ = some (.int .i64 0) := (h.kept BX).own.cell 2
  have s0 := slice0 (A := A) ts.length c h.plain
  have s1 := slice1 (A := A) ts.length c h.plain
  have sN := sliceN w.heap.size ts.length (Int.le_refl _)
  have HZ := Lib.hid (fun W : World => run_copy_zero (P := Try.prog) W 37 37 3 58 5 (some ⟨w.heap.size, 0, none⟩) A 0 0 0 c Try.underlying37 (by kernel_rfl) rfl)
  have HCP := Lib.hid hcp
  clear hcp L2 B2 h2 h BX LX hX
  go_enter Try.func20, Try.ntmps20
  go_wp2_with fail
  go_region_law (refine step_copy30 rfl (.tmp 11) (.tmp 20) rfl _ _ _ (by simp [Act.eval, Act.put]) (by simp [Act.eval, Act.put]) HCP.out ?_)
  all_goals go_wp2_with fail
  all_goals go_region_law (refine step_copy30 rfl (.tmp 24) (.tmp 33) rfl _ _ _ (by simp [Act.eval, Act.put]) (by simp [Act.eval, Act.put]) (HZ.out _) ?_)
  all_goals go_wp2
  all_goals go_ret
  all_goals exact ⟨rfl, HL2.out, HB2.out.drew⟩
end
end Go.Proofs.Ytpifnhfdbcckjaa
