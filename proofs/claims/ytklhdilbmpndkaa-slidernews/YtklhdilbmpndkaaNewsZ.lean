/- SliderNews, whatever comes in. -/
import Derived.Test.YtklhdilbmpndkaaGv
import Derived.Test.YtklhdilbmpndkaaGx
namespace Go.Proofs.Ytklhdilbmpndkaa
open Go.RowKit
theorem news_walk (A0 B0 C0 : Option Addr) (n cN m cR q cZ : Nat) (x0 x1 : Int) (ds : List Nd) (rs : List Int) (w : World) (hN : CameN w A0 n ds) (hR : Mk.Came .u8 w B0 m rs) (hm : m ≤ maxLen) (hZ : ∃ zs, Mk.Came .u8 w C0 q zs ∧ q ≤ maxLen) (hx : InR x0 ∧ InR x1) :
    Calls Try.prog 3 #[.agg #[.slice A0 n cN, .slice B0 m cR], .slice C0 q cZ, .agg #[.int .i64 x0, .int .i64 x1]] w fun e w' => e = .returned (.bool true) ∧ Below w.heap.size w w' := by
  obtain ⟨zs, hz, hq⟩ := hZ
  by_cases h : fewB ds m = true ∧ q ≤ 40
  · exact news_near A0 B0 C0 n cN m cR q cZ x0 x1 ds rs zs w hN hR hz h.1 h.2 hx.1 hx.2
  · refine news_far A0 B0 C0 n cN m cR q cZ x0 x1 ds w hN hm hq ?_
    cases hf : fewB ds m with
    | false => exact .inl rfl
    | true =>
      by_cases h2 : q ≤ 40
      · exact absurd ⟨hf, h2⟩ h
      · exact .inr (by omega)
end Go.Proofs.Ytklhdilbmpndkaa
