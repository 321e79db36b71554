/- ForwardSame, whatever comes in. -/
import Derived.Test.YtehmcbpkhknpcaaSameW
import Derived.Test.YtehmcbpkhknpcaaSameR
namespace Go.Proofs.Ytehmcbpkhknpcaa
open Go.RowKit
theorem same_walk (A0 B0 C0 : Option Addr) (n cN m cR q cZ : Nat) (x0 x1 : Int) (ds : List Nd) (rs : List Int) (w : World) (hN : CameN w A0 n ds) (hR : Mk.Came .u8 w B0 m rs) (hm : m ≤ maxLen) (hZ : ∃ zs, Mk.Came .u8 w C0 q zs ∧ q ≤ maxLen) (hx : (0 ≤ x0 ∧ x0 ≤ 255) ∧ (0 ≤ x1 ∧ x1 ≤ 255)) :
    Calls Try.prog 4 #[.agg #[.slice A0 n cN, .slice B0 m cR], .slice C0 q cZ, .agg #[.int .u8 x0, .int .u8 x1]] w fun e w' => e = .returned (.bool true) ∧ Below w.heap.size w w' := by
  obtain ⟨zs, hz, hq⟩ := hZ
  by_cases h : fewB ds m = true ∧ q ≤ 40
  · exact same_near A0 B0 C0 n cN m cR q cZ x0 x1 (1 + x0).toNat (1 + x1).toNat ds rs zs w hN hR hz h.1 h.2 hx.1.1 hx.1.2 hx.2.1 hx.2.2 (by omega) (by omega) (by omega) (by omega) (by omega) (by omega)
  · refine same_far A0 B0 C0 n cN m cR q cZ x0 x1 ds w hN hm hq ?_
    cases hf : fewB ds m with
    | false => exact .inl rfl
    | true => 
      by_cases h2 : q ≤ 40
      · exact absurd ⟨hf, h2⟩ h
      · exact .inr (by omega)
end Go.Proofs.Ytehmcbpkhknpcaa
