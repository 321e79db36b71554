/- A slice of bytes that came in reads as a list, and is no longer than a slice may be. -/
import Derived.Test.YtehmcbpkhknpcaaGj
import Derived.ProofKit
namespace Go.Proofs.Ytehmcbpkhknpcaa
set_option maxRecDepth 20000
open Go.ChangeShapes Go.WideShapes Go.ChangeAt Go.RowKit Go.Deep
theorem reads_z {H : Type} {enc : TypeId × Value → H} {W : World} {sp : Nat → Bool} {held : Bool} {a : Option Addr} {len cap : Nat} {d : DataW H} {p : List MemPlace} (h : DataW.Trod enc Try.prog W 0 sp held 23 (.slice a len cap) d p) :
    ∃ zs, Mk.Came .u8 W a len zs ∧ len ≤ maxLen := by
  obtain ⟨fuel, hf⟩ := h
  have e : (Value.slice a len cap).cells.toList = [.slice a len cap] := rfl
  rw [e] at hf
  obtain ⟨a', len', cap', zs, e, h1, h2⟩ := bytes_reads hf
  injection e with e1 e2 e3
  subst e1 e2 e3
  exact ⟨zs, h1, h2⟩
end Go.Proofs.Ytehmcbpkhknpcaa
