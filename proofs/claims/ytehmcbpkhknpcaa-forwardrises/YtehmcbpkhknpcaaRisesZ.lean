/- ForwardRises, whatever comes in. -/
import Derived.Test.YtehmcbpkhknpcaaRisesW
import Derived.Test.YtehmcbpkhknpcaaRdZ
namespace Go.Proofs.Ytehmcbpkhknpcaa
open Go.RowKit
theorem rises_walk (A0 B0 C0 : Option Addr) (n cN m cR q cZ : Nat) (wd : Int) (ds : List Nd) (rs : List Int) (w : World) (hN : CameN w A0 n ds) (hR : Mk.Came .u8 w B0 m rs) (hm : m ≤ maxLen) (hZ : ∃ zs, Mk.Came .u8 w C0 q zs ∧ q ≤ maxLen) (hw : 0 ≤ wd ∧ wd ≤ 255) :
    Calls Try.prog 5 #[.agg #[.slice A0 n cN, .slice B0 m cR], .slice C0 q cZ, .int .u8 wd] w fun e w' => e = .returned (.bool true) ∧ Below w.heap.size w w' := by
  obtain ⟨zs, hz, hq⟩ := hZ
  by_cases h : fewB ds m = true ∧ q ≤ 40
  · exact rises_near A0 B0 C0 n cN m cR q cZ wd (1 + wd).toNat ds rs zs w hN hR hz h.1 h.2 hw.1 hw.2 (by omega) (by omega) (by omega)
  · refine rises_far A0 B0 C0 n cN m cR q cZ wd ds w hN hm hq ?_
    cases hf : fewB ds m with
    | false => exact .inl rfl
    | true => 
      by_cases h2 : q ≤ 40
      · exact absurd ⟨hf, h2⟩ h
      · exact .inr (by omega)
end Go.Proofs.Ytehmcbpkhknpcaa
