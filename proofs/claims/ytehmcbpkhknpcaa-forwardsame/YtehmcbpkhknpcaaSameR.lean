/- The pair of bytes that RegionSame takes. -/
import Derived.Test.YtehmcbpkhknpcaaRdZ
import Derived.Lib.SmallJoins
namespace Go.Proofs.Ytehmcbpkhknpcaa
set_option maxRecDepth 20000
open Go.ChangeShapes Go.WideShapes Go.ChangeAt Go.RowKit Go.Joins
set_option linter.unusedVariables false

theorem cells53 : Try.prog.cellsOf 53 = 2 := by kernel_rfl
theorem okWide_arr {P : Program} {w : World} {r : Reach} {base : Nat} {t e : TypeId} {n : Nat} {v : Value} (ht : P.underlying t = some (.array n e)) (h : Value.okWide P w r base t v) : ∃ cs, v = .agg cs ∧ cs.size = P.cellsOf t := by
  simp only [Value.okWide, ht] at h
  cases v <;> simp_all
theorem bd_lit {k : IntKind} {n : Int} (h : (Lit.int k n).wf = true) : k.min ≤ n ∧ n ≤ k.max := by simpa [Lit.wf] using h
theorem bd_byte {n : Int} (h : (Lit.int .u8 n).wf = true) : 0 ≤ n ∧ n ≤ 255 := bd_lit h
theorem reads_pair {H : Type} {enc : TypeId × Value → H} {W : World} {base : Nat} {v : Value} {d : DataW H} {p : List MemPlace} (hv : Value.okWide Try.prog W .any base 53 v) (h : DataW.Trod enc Try.prog W 0 (fun _ => true) true 53 v d p) :
    ∃ z0 z1 : Int, v = .agg #[.int .u8 z0, .int .u8 z1] ∧ ((0 ≤ z0 ∧ z0 ≤ 255) ∧ (0 ≤ z1 ∧ z1 ≤ 255)) := by
  obtain ⟨cs, rfl, hsz⟩ := okWide_arr Try.underlying53 hv
  obtain ⟨c0, c1, rfl⟩ := array2 (hsz.trans cells53)
  obtain ⟨fuel, hf⟩ := h
  obtain ⟨xs, m, _, _, _, hlen, hi⟩ := DataW.trod_array Try.underlying53 hf
  rw [cells5] at hi
  match xs, hlen with
  | [y0, y1], _ =>
    have h0 := hi 0 (by omega)
    have h1 := hi 1 (by omega)
    simp [Value.cells] at h0 h1
    obtain ⟨z0, e0, -, w0⟩ := DataW.trod_int Try.underlying5 h0
    obtain ⟨z1, e1, -, w1⟩ := DataW.trod_int Try.underlying5 h1
    simp at e0 e1
    subst e0 e1
    exact ⟨z0, z1, rfl, bd_byte w0, bd_byte w1⟩
end Go.Proofs.Ytehmcbpkhknpcaa
