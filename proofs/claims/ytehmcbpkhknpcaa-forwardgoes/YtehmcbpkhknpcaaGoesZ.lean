/- ForwardGoes, whatever comes in. -/
import Derived.Test.YtehmcbpkhknpcaaGoesW
import Derived.Test.YtehmcbpkhknpcaaGoesR
namespace Go.Proofs.Ytehmcbpkhknpcaa
open Go.RowKit
theorem clamp_of (wd : Int) : ∃ W : Nat, (W : Int) = (if wd < 1 then 1 else if 65536 < wd then 65536 else wd) ∧ 1 ≤ W ∧ W ≤ 65536 := by
  by_cases h1 : wd < 1
  · exact ⟨1, by rw [if_pos h1]; rfl, by omega, by omega⟩
  · by_cases h2 : 65536 < wd
    · exact ⟨65536, by rw [if_neg h1, if_pos h2]; rfl, by omega, by omega⟩
    · exact ⟨wd.toNat, by rw [if_neg h1, if_neg h2]; omega, by omega, by omega⟩
theorem goes_walk (A0 B0 C0 : Option Addr) (n cN m cR q cZ : Nat) (x0 x1 x2 : Int) (ds : List Nd) (rs : List Int) (w : World) (hN : CameN w A0 n ds) (hR : Mk.Came .u8 w B0 m rs) (hm : m ≤ maxLen) (hZ : ∃ zs, Mk.Came .u8 w C0 q zs ∧ q ≤ maxLen) (hx : InR x0 ∧ InR x1 ∧ InR x2) :
    Calls Try.prog 3 #[.agg #[.slice A0 n cN, .slice B0 m cR], .slice C0 q cZ, .agg #[.int .i64 x0, .int .i64 x1, .int .i64 x2]] w fun e w' => e = .returned (.bool true) ∧ Below w.heap.size w w' := by
  obtain ⟨zs, hz, hq⟩ := hZ
  by_cases h : fewB ds m = true ∧ q ≤ 40
  · obtain ⟨W, h1, h2, h3⟩ := clamp_of x0
    exact goes_near A0 B0 C0 n cN m cR q cZ x0 x1 x2 W ds rs zs w hN hR hz h.1 h.2 hx.1 hx.2.1 hx.2.2 h1 h2 h3
  · refine goes_far A0 B0 C0 n cN m cR q cZ x0 x1 x2 ds w hN hm hq ?_
    cases hf : fewB ds m with
    | false => exact .inl rfl
    | true => 
      by_cases h2 : q ≤ 40
      · exact absurd ⟨hf, h2⟩ h
      · exact .inr (by omega)
end Go.Proofs.Ytehmcbpkhknpcaa
