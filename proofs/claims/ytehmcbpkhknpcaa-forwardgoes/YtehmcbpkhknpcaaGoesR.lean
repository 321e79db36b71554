/- The three numbers that ForwardGoes takes. -/
import Derived.Test.YtehmcbpkhknpcaaRdZ
import Derived.Lib.SmallJoins
namespace Go.Proofs.Ytehmcbpkhknpcaa
set_option maxRecDepth 20000
open Go.ChangeShapes Go.WideShapes Go.ChangeAt Go.RowKit Go.Joins
set_option linter.unusedVariables false

theorem cells_3 : Try.prog.cellsOf 3 = 1 := by kernel_rfl
theorem cells26 : Try.prog.cellsOf 26 = 3 := by kernel_rfl
theorem okWide_arr {P : Program} {w : World} {r : Reach} {base : Nat} {t e : TypeId} {n : Nat} {v : Value} (ht : P.underlying t = some (.array n e)) (h : Value.okWide P w r base t v) : ∃ cs, v = .agg cs ∧ cs.size = P.cellsOf t := by
  simp only [Value.okWide, ht] at h
  cases v <;> simp_all
theorem bd_lit {k : IntKind} {n : Int} (h : (Lit.int k n).wf = true) : k.min ≤ n ∧ n ≤ k.max := by simpa [Lit.wf] using h
theorem bd_int {n : Int} (h : (Lit.int .i64 n).wf = true) : InR n := by unfold InR; exact bd_lit h
theorem reads_three {H : Type} {enc : TypeId × Value → H} {W : World} {base : Nat} {v : Value} {d : DataW H} {p : List MemPlace} (hv : Value.okWide Try.prog W .any base 26 v) (h : DataW.Trod enc Try.prog W 0 (fun _ => true) true 26 v d p) :
    ∃ z0 z1 z2 : Int, v = .agg #[.int .i64 z0, .int .i64 z1, .int .i64 z2] ∧ (InR z0 ∧ InR z1 ∧ InR z2) := by
  obtain ⟨cs, rfl, hsz⟩ := okWide_arr Try.underlying26 hv
  obtain ⟨c0, c1, c2, rfl⟩ := array3 (hsz.trans cells26)
  obtain ⟨fuel, hf⟩ := h
  obtain ⟨xs, m, _, _, _, hlen, hi⟩ := DataW.trod_array Try.underlying26 hf
  rw [cells_3] at hi
  match xs, hlen with
  | [y0, y1, y2], _ =>
    have h0 := hi 0 (by omega)
    have h1 := hi 1 (by omega)
    have h2 := hi 2 (by omega)
    simp [Value.cells] at h0 h1 h2
    obtain ⟨z0, e0, -, w0⟩ := DataW.trod_int Try.underlying3 h0
    obtain ⟨z1, e1, -, w1⟩ := DataW.trod_int Try.underlying3 h1
    obtain ⟨z2, e2, -, w2⟩ := DataW.trod_int Try.underlying3 h2
    simp at e0 e1 e2
    subst e0 e1 e2
    exact ⟨z0, z1, z2, rfl, bd_int w0, bd_int w1, bd_int w2⟩
end Go.Proofs.Ytehmcbpkhknpcaa
