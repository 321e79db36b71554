/- A slice of bytes that came in reads as a list, and is no longer than a slice may be. The arrays of numbers that the laws take. -/
import Derived.Test.YtklhdilbmpndkaaGj
import Derived.ProofKit
import Derived.Lib.SmallJoins
namespace Go.Proofs.Ytklhdilbmpndkaa
set_option maxRecDepth 20000
open Go.ChangeShapes Go.WideShapes Go.ChangeAt Go.RowKit Go.Deep
theorem reads_z {H : Type} {enc : TypeId × Value → H} {W : World} {sp : Nat → Bool} {held : Bool} {a : Option Addr} {len cap : Nat} {d : DataW H} {p : List MemPlace} (h : DataW.Trod enc Try.prog W 0 sp held 23 (.slice a len cap) d p) :
    ∃ zs, Mk.Came .u8 W a len zs ∧ len ≤ maxLen := by
  obtain ⟨fuel, hf⟩ := h
  have e : (Value.slice a len cap).cells.toList = [.slice a len cap] := rfl
  rw [e] at hf
  obtain ⟨a', len', cap', zs, e, h1, h2⟩ := bytes_reads hf
  injection e with e1 e2 e3
  subst e1 e2 e3
  exact ⟨zs, h1, h2⟩
end Go.Proofs.Ytklhdilbmpndkaa

namespace Go.Proofs.Ytklhdilbmpndkaa
set_option maxRecDepth 20000
open Go.ChangeShapes Go.WideShapes Go.ChangeAt Go.RowKit Go.Joins
set_option linter.unusedVariables false

theorem cells_3 : Try.prog.cellsOf 3 = 1 := by kernel_rfl
theorem okWide_arr {P : Program} {w : World} {r : Reach} {base : Nat} {t e : TypeId} {n : Nat} {v : Value} (ht : P.underlying t = some (.array n e)) (h : Value.okWide P w r base t v) : ∃ cs, v = .agg cs ∧ cs.size = P.cellsOf t := by
  simp only [Value.okWide, ht] at h
  cases v <;> simp_all
theorem bd_lit {k : IntKind} {n : Int} (h : (Lit.int k n).wf = true) : k.min ≤ n ∧ n ≤ k.max := by simpa [Lit.wf] using h
theorem bd_int {n : Int} (h : (Lit.int .i64 n).wf = true) : InR n := by unfold InR; exact bd_lit h
theorem bd_byte {n : Int} (h : (Lit.int .u8 n).wf = true) : 0 ≤ n ∧ n ≤ 255 := bd_lit h
theorem cellsT26 : Try.prog.cellsOf 26 = 2 := by kernel_rfl
theorem reads_two {H : Type} {enc : TypeId × Value → H} {W : World} {base : Nat} {v : Value} {d : DataW H} {p : List MemPlace} (hv : Value.okWide Try.prog W .any base 26 v) (h : DataW.Trod enc Try.prog W 0 (fun _ => true) true 26 v d p) :
    ∃ z0 z1 : Int, v = .agg #[.int .i64 z0, .int .i64 z1] ∧ (InR z0 ∧ InR z1) := by
  obtain ⟨cs, rfl, hsz⟩ := okWide_arr Try.underlying26 hv
  obtain ⟨c0, c1, rfl⟩ := array2 (hsz.trans cellsT26)
  obtain ⟨fuel, hf⟩ := h
  obtain ⟨xs, m, _, _, _, hlen, hi⟩ := DataW.trod_array Try.underlying26 hf
  rw [cells_3] at hi
  match xs, hlen with
  | [y0, y1], _ =>
    have h0 := hi 0 (by omega)
    have h1 := hi 1 (by omega)
    simp [Value.cells] at h0 h1
    obtain ⟨z0, e0, -, w0⟩ := DataW.trod_int Try.underlying3 h0
    obtain ⟨z1, e1, -, w1⟩ := DataW.trod_int Try.underlying3 h1
    simp at e0 e1
    subst e0 e1
    exact ⟨z0, z1, rfl, bd_int w0, bd_int w1⟩
theorem cellsT66 : Try.prog.cellsOf 66 = 2 := by kernel_rfl
theorem reads_pair {H : Type} {enc : TypeId × Value → H} {W : World} {base : Nat} {v : Value} {d : DataW H} {p : List MemPlace} (hv : Value.okWide Try.prog W .any base 66 v) (h : DataW.Trod enc Try.prog W 0 (fun _ => true) true 66 v d p) :
    ∃ z0 z1 : Int, v = .agg #[.int .u8 z0, .int .u8 z1] ∧ ((0 ≤ z0 ∧ z0 ≤ 255) ∧ (0 ≤ z1 ∧ z1 ≤ 255)) := by
  obtain ⟨cs, rfl, hsz⟩ := okWide_arr Try.underlying66 hv
  obtain ⟨c0, c1, rfl⟩ := array2 (hsz.trans cellsT66)
  obtain ⟨fuel, hf⟩ := h
  obtain ⟨xs, m, _, _, _, hlen, hi⟩ := DataW.trod_array Try.underlying66 hf
  rw [cells5] at hi
  match xs, hlen with
  | [y0, y1], _ =>
    have h0 := hi 0 (by omega)
    have h1 := hi 1 (by omega)
    simp [Value.cells] at h0 h1
    obtain ⟨z0, e0, -, w0⟩ := DataW.trod_int Try.underlying5 h0
    obtain ⟨z1, e1, -, w1⟩ := DataW.trod_int Try.underlying5 h1
    simp at e0 e1
    subst e0 e1
    exact ⟨z0, z1, rfl, bd_byte w0, bd_byte w1⟩
theorem cellsT57 : Try.prog.cellsOf 57 = 4 := by kernel_rfl
theorem reads_four {H : Type} {enc : TypeId × Value → H} {W : World} {base : Nat} {v : Value} {d : DataW H} {p : List MemPlace} (hv : Value.okWide Try.prog W .any base 57 v) (h : DataW.Trod enc Try.prog W 0 (fun _ => true) true 57 v d p) :
    ∃ z0 z1 z2 z3 : Int, v = .agg #[.int .u8 z0, .int .u8 z1, .int .u8 z2, .int .u8 z3] ∧ ((0 ≤ z0 ∧ z0 ≤ 255) ∧ (0 ≤ z1 ∧ z1 ≤ 255) ∧ (0 ≤ z2 ∧ z2 ≤ 255) ∧ (0 ≤ z3 ∧ z3 ≤ 255)) := by
  obtain ⟨cs, rfl, hsz⟩ := okWide_arr Try.underlying57 hv
  obtain ⟨c0, c1, c2, c3, rfl⟩ := array4 (hsz.trans cellsT57)
  obtain ⟨fuel, hf⟩ := h
  obtain ⟨xs, m, _, _, _, hlen, hi⟩ := DataW.trod_array Try.underlying57 hf
  rw [cells5] at hi
  match xs, hlen with
  | [y0, y1, y2, y3], _ =>
    have h0 := hi 0 (by omega)
    have h1 := hi 1 (by omega)
    have h2 := hi 2 (by omega)
    have h3 := hi 3 (by omega)
    simp [Value.cells] at h0 h1 h2 h3
    obtain ⟨z0, e0, -, w0⟩ := DataW.trod_int Try.underlying5 h0
    obtain ⟨z1, e1, -, w1⟩ := DataW.trod_int Try.underlying5 h1
    obtain ⟨z2, e2, -, w2⟩ := DataW.trod_int Try.underlying5 h2
    obtain ⟨z3, e3, -, w3⟩ := DataW.trod_int Try.underlying5 h3
    simp at e0 e1 e2 e3
    subst e0 e1 e2 e3
    exact ⟨z0, z1, z2, z3, rfl, bd_byte w0, bd_byte w1, bd_byte w2, bd_byte w3⟩
end Go.Proofs.Ytklhdilbmpndkaa
