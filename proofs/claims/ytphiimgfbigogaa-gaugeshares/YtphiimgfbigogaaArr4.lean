/- An array of four numbers that came in: its four numbers, each of which fits. -/
import Derived.Test.YtphiimgfbigogaaSharesW
import Derived.ProofKit
import Derived.OpenShut
import Derived.Lib.SmallJoins
namespace Go.Proofs.Ytphiimgfbigogaa
open Go.ChangeShapes Go.WideShapes Go.ChangeAt Go.RowKit Go.Joins
set_option linter.unusedVariables false

theorem cells43 : Try.prog.cellsOf 43 = 4 := by kernel_rfl
theorem cells21 : Try.prog.cellsOf 21 = 1 := by kernel_rfl
theorem okWide_arr {P : Program} {w : World} {r : Reach} {base : Nat} {t e : TypeId} {n : Nat} {v : Value} (ht : P.underlying t = some (.array n e)) (h : Value.okWide P w r base t v) : ∃ cs, v = .agg cs ∧ cs.size = P.cellsOf t := by
  simp only [Value.okWide, ht] at h
  cases v <;> simp_all
theorem reads_arr4 {H : Type} {enc : TypeId × Value → H} {W : World} {base : Nat} {v : Value} {d : DataW H} {p : List MemPlace} (hv : Value.okWide Try.prog W .any base 43 v) (h : DataW.Trod enc Try.prog W 0 (fun _ => true) true 43 v d p) :
    ∃ z0 z1 z2 z3 : Int, v = .agg #[.int .i32 z0, .int .i32 z1, .int .i32 z2, .int .i32 z3] ∧ ((-2147483648 ≤ z0 ∧ z0 ≤ 2147483647) ∧ (-2147483648 ≤ z1 ∧ z1 ≤ 2147483647) ∧ (-2147483648 ≤ z2 ∧ z2 ≤ 2147483647) ∧ (-2147483648 ≤ z3 ∧ z3 ≤ 2147483647)) := by
  obtain ⟨cs, rfl, hsz⟩ := okWide_arr Try.underlying43 hv
  obtain ⟨c0, c1, c2, c3, rfl⟩ := array4 (hsz.trans cells43)
  obtain ⟨fuel, hf⟩ := h
  obtain ⟨xs, m, _, _, _, hlen, hi⟩ := DataW.trod_array Try.underlying43 hf
  rw [cells21] at hi
  match xs, hlen with
  | [y0, y1, y2, y3], _ =>
    have h0 := hi 0 (by omega)
    have h1 := hi 1 (by omega)
    have h2 := hi 2 (by omega)
    have h3 := hi 3 (by omega)
    simp [Value.cells] at h0 h1 h2 h3
    obtain ⟨z0, e0, -, w0⟩ := DataW.trod_int Try.underlying21 h0
    obtain ⟨z1, e1, -, w1⟩ := DataW.trod_int Try.underlying21 h1
    obtain ⟨z2, e2, -, w2⟩ := DataW.trod_int Try.underlying21 h2
    obtain ⟨z3, e3, -, w3⟩ := DataW.trod_int Try.underlying21 h3
    simp at e0 e1 e2 e3
    subst e0 e1 e2 e3
    exact ⟨z0, z1, z2, z3, rfl, bounds_i32 w0, bounds_i32 w1, bounds_i32 w2, bounds_i32 w3⟩
end Go.Proofs.Ytphiimgfbigogaa
