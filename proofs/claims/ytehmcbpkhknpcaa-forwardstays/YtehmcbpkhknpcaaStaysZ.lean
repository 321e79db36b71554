/- ForwardStays, whatever comes in. -/
import Derived.Test.YtehmcbpkhknpcaaStaysW
import Derived.Test.YtehmcbpkhknpcaaRdZ
namespace Go.Proofs.Ytehmcbpkhknpcaa
open Go.RowKit
theorem stays_walk (A0 B0 : Option Addr) (n cN m cR : Nat) (wd : Int) (ds : List Nd) (rs : List Int) (w : World) (hN : CameN w A0 n ds) (hR : Mk.Came .u8 w B0 m rs) (hm : m ≤ maxLen) (hw : 0 ≤ wd ∧ wd ≤ 255) :
    Calls Try.prog 6 #[.agg #[.slice A0 n cN, .slice B0 m cR], .int .u8 wd] w fun e w' => e = .returned (.bool true) ∧ Below w.heap.size w w' := by
  cases h : fewB ds m with
  | true => exact stays_near A0 B0 n cN m cR wd (1 + wd).toNat ds rs w hN hR h hw.1 hw.2 (by omega) (by omega) (by omega)
  | false => exact stays_far A0 B0 n cN m cR wd ds w hN hm h
end Go.Proofs.Ytehmcbpkhknpcaa
