/-
  No cell of these rows narrows 'for every input' (looked for: loops, veiled, ifaces, maps, wideKeys, modest, calm, conditions, laid).
  DERIVED. THE GIVEN ROWS OF THIS SEAT. 6 by the template 'for every input the law returns true; each argument reads behind the call as it read before'; 0 by the template 'total and deterministic' (their statements: YtcnpbdboeaaajaaTotals.lean).
  GIVEN WITH THE SEED: the statements are not yours to turn. If you find one false, say at which input.
  Laid BY PROGRAM, IN A SANDBOX (cutbox-rows.mjs): the forced cells as the released guide's own fill.sh prints them over the translation f250e5f769b40b76… (all of the seat's roots in one cut). By AI agents, Wed Nov 11 2026. No macro, syntax, notation, axiom, sorry.
-/
import Derived.Test.YtcnpbdboeaaajaaChecked
import GoSem.Claim
import GoSem.ClaimJoined
import GoSem.ClaimMapViews
import Derived.JoinedTies
import Derived.KernelRfl
namespace Go.Proofs.Ytcnpbdboeaaajaa
/- THE CELL 'sum', in the pinned program and in every row, IS THE sha256 OF THE DUMP (.gsa) THAT YtcnpbdboeaaajaaProg.lean LOADS. Nothing in Lean hashes anything: it is a label: what it is worth is what the hold of that sum in a sandbox is worth. -/
noncomputable def Try.pinned : Pinned := { name := "ytcnpbdboeaaajaa", sum := "f250e5f769b40b76a203fc6c84443312b77ea5b1e443d436a1cd12903d3048f0", checked := Try.checked }
namespace Rows
def none {H : Type} : Left H := { results := [], args := [] }

/-- 'besomlaw08.SpillAlone': WHATEVER THE INPUT: true; the input reads as it did. -/
def spillAloneSpec : ChangeSpec := { name := "spillAlone", fn := fun _ => fun
  | [d1, d2] => { results := [.lit (.bool true)], args := [d1, d2] }
  | _ => none }
def spillAloneRow : OpenClaim := { program := "ytcnpbdboeaaajaa", sum := "f250e5f769b40b76a203fc6c84443312b77ea5b1e443d436a1cd12903d3048f0", func := "besom/besomlaw08.SpillAlone", spec := "spillAlone", unfollowed := true, recurses := true, apart := false }
def SpillAloneSaid : Prop := spillAloneRow.holds Try.pinned (OpenSpec.ofChange spillAloneSpec)

/-- ITS FALSE NEIGHBOUR: 'it returns false'. Refute it at one input. -/
def spillAloneWrong : ChangeSpec := { name := "spillAlone", fn := fun _ => fun
  | [d1, d2] => { results := [.lit (.bool false)], args := [d1, d2] }
  | _ => none }
def SpillAloneWrongFalsely : Prop := spillAloneRow.holds Try.pinned (OpenSpec.ofChange spillAloneWrong)

/-- 'besomlaw08.SpillShared': WHATEVER THE INPUT: true; the input reads as it did. -/
def spillSharedSpec : ChangeSpec := { name := "spillShared", fn := fun _ => fun
  | [d1, d2] => { results := [.lit (.bool true)], args := [d1, d2] }
  | _ => none }
def spillSharedRow : OpenClaim := { program := "ytcnpbdboeaaajaa", sum := "f250e5f769b40b76a203fc6c84443312b77ea5b1e443d436a1cd12903d3048f0", func := "besom/besomlaw08.SpillShared", spec := "spillShared", unfollowed := true, recurses := true, apart := false }
def SpillSharedSaid : Prop := spillSharedRow.holds Try.pinned (OpenSpec.ofChange spillSharedSpec)

/-- ITS FALSE NEIGHBOUR: 'it returns false'. Refute it at one input. -/
def spillSharedWrong : ChangeSpec := { name := "spillShared", fn := fun _ => fun
  | [d1, d2] => { results := [.lit (.bool false)], args := [d1, d2] }
  | _ => none }
def SpillSharedWrongFalsely : Prop := spillSharedRow.holds Try.pinned (OpenSpec.ofChange spillSharedWrong)

/-- 'besomlaw08.SpillNews': WHATEVER THE INPUT: true; the input reads as it did. -/
def spillNewsSpec : ChangeSpec := { name := "spillNews", fn := fun _ => fun
  | [d1, d2] => { results := [.lit (.bool true)], args := [d1, d2] }
  | _ => none }
def spillNewsRow : OpenClaim := { program := "ytcnpbdboeaaajaa", sum := "f250e5f769b40b76a203fc6c84443312b77ea5b1e443d436a1cd12903d3048f0", func := "besom/besomlaw08.SpillNews", spec := "spillNews", unfollowed := true, recurses := true, apart := false }
def SpillNewsSaid : Prop := spillNewsRow.holds Try.pinned (OpenSpec.ofChange spillNewsSpec)

/-- ITS FALSE NEIGHBOUR: 'it returns false'. Refute it at one input. -/
def spillNewsWrong : ChangeSpec := { name := "spillNews", fn := fun _ => fun
  | [d1, d2] => { results := [.lit (.bool false)], args := [d1, d2] }
  | _ => none }
def SpillNewsWrongFalsely : Prop := spillNewsRow.holds Try.pinned (OpenSpec.ofChange spillNewsWrong)

/-- 'besomlaw08.SpillLocks': WHATEVER THE INPUT: true; the input reads as it did. -/
def spillLocksSpec : ChangeSpec := { name := "spillLocks", fn := fun _ => fun
  | [d1, d2, d3] => { results := [.lit (.bool true)], args := [d1, d2, d3] }
  | _ => none }
def spillLocksRow : OpenClaim := { program := "ytcnpbdboeaaajaa", sum := "f250e5f769b40b76a203fc6c84443312b77ea5b1e443d436a1cd12903d3048f0", func := "besom/besomlaw08.SpillLocks", spec := "spillLocks", unfollowed := true, recurses := true, apart := false }
def SpillLocksSaid : Prop := spillLocksRow.holds Try.pinned (OpenSpec.ofChange spillLocksSpec)

/-- ITS FALSE NEIGHBOUR: 'it returns false'. Refute it at one input. -/
def spillLocksWrong : ChangeSpec := { name := "spillLocks", fn := fun _ => fun
  | [d1, d2, d3] => { results := [.lit (.bool false)], args := [d1, d2, d3] }
  | _ => none }
def SpillLocksWrongFalsely : Prop := spillLocksRow.holds Try.pinned (OpenSpec.ofChange spillLocksWrong)

/-- 'besomlaw08.SpillPiles': WHATEVER THE INPUT: true; the input reads as it did. -/
def spillPilesSpec : ChangeSpec := { name := "spillPiles", fn := fun _ => fun
  | [d] => { results := [.lit (.bool true)], args := [d] }
  | _ => none }
def spillPilesRow : OpenClaim := { program := "ytcnpbdboeaaajaa", sum := "f250e5f769b40b76a203fc6c84443312b77ea5b1e443d436a1cd12903d3048f0", func := "besom/besomlaw08.SpillPiles", spec := "spillPiles", unfollowed := true, recurses := true, apart := false }
def SpillPilesSaid : Prop := spillPilesRow.holds Try.pinned (OpenSpec.ofChange spillPilesSpec)

/-- ITS FALSE NEIGHBOUR: 'it returns false'. Refute it at one input. -/
def spillPilesWrong : ChangeSpec := { name := "spillPiles", fn := fun _ => fun
  | [d] => { results := [.lit (.bool false)], args := [d] }
  | _ => none }
def SpillPilesWrongFalsely : Prop := spillPilesRow.holds Try.pinned (OpenSpec.ofChange spillPilesWrong)

/-- 'besomlaw08.SpillCrowd': WHATEVER THE INPUT: true; the input reads as it did. -/
def spillCrowdSpec : ChangeSpec := { name := "spillCrowd", fn := fun _ => fun
  | [d] => { results := [.lit (.bool true)], args := [d] }
  | _ => none }
def spillCrowdRow : OpenClaim := { program := "ytcnpbdboeaaajaa", sum := "f250e5f769b40b76a203fc6c84443312b77ea5b1e443d436a1cd12903d3048f0", func := "besom/besomlaw08.SpillCrowd", spec := "spillCrowd", unfollowed := true, recurses := true, apart := false }
def SpillCrowdSaid : Prop := spillCrowdRow.holds Try.pinned (OpenSpec.ofChange spillCrowdSpec)

/-- ITS FALSE NEIGHBOUR: 'it returns false'. Refute it at one input. -/
def spillCrowdWrong : ChangeSpec := { name := "spillCrowd", fn := fun _ => fun
  | [d] => { results := [.lit (.bool false)], args := [d] }
  | _ => none }
def SpillCrowdWrongFalsely : Prop := spillCrowdRow.holds Try.pinned (OpenSpec.ofChange spillCrowdWrong)

/- THE SECOND FORM. 'bulk': how many values and letters a reading holds, each counted each time it is reached (what is shared counts as often as it is met; a slice's spare places count too). A statement '..UptoSaid' is the law's where the arguments, and the package variables that the reading takes, are together of bulk at most 1048576: NARROWER than '..Said'. Prove '..Said' where nothing that the law and all that it calls make is longer than what came in: it says more and counts as full. Else prove '..UptoSaid'. A law counts once. -/
mutual
def uptoBulk {H : Type} : DataW H → Nat
  | .lit (.string bytes) => bytes.length + 1
  | .lit _ => 1
  | .nil => 1
  | .ptr d => uptoBulk d + 1
  | .slice elems spare => uptoBulkAll elems + uptoBulkAll spare + 1
  | .agg parts => uptoBulkAll parts + 1
  | .iface _ d => uptoBulk d + 1
  | .map entries => uptoBulkEntries entries + 1
  | .held _ => 1
def uptoBulkAll {H : Type} : List (DataW H) → Nat
  | [] => 0
  | d :: r => uptoBulk d + uptoBulkAll r
def uptoBulkEntries {H : Type} : List (Lit × DataW H) → Nat
  | [] => 0
  | x :: r => uptoBulkEntry x + uptoBulkEntries r
def uptoBulkEntry {H : Type} : Lit × DataW H → Nat
  | (.string bytes, d) => bytes.length + uptoBulk d + 1
  | (_, d) => uptoBulk d + 1
 end
def uptoSmall : (H : Type) → List (DataW H) → Bool := fun _ ds => decide (uptoBulkAll ds ≤ 1048576)
def OpenSpec.upto (s : _root_.Go.ChangeSpec) : _root_.Go.OpenSpec := { _root_.Go.OpenSpec.ofChange s with cond := some uptoSmall }

/-- 'besomlaw08.SpillAlone', WHERE WHAT IT READS IS OF BULK AT MOST 1048576: true; the input reads as it did. -/
def spillAloneUptoRow : OpenClaim := { program := "ytcnpbdboeaaajaa", sum := "f250e5f769b40b76a203fc6c84443312b77ea5b1e443d436a1cd12903d3048f0", func := "besom/besomlaw08.SpillAlone", spec := "spillAlone", unfollowed := true, recurses := true, apart := false, narrowed := true }
def SpillAloneUptoSaid : Prop := spillAloneUptoRow.holds Try.pinned (OpenSpec.upto spillAloneSpec)

/-- 'besomlaw08.SpillShared', WHERE WHAT IT READS IS OF BULK AT MOST 1048576: true; the input reads as it did. -/
def spillSharedUptoRow : OpenClaim := { program := "ytcnpbdboeaaajaa", sum := "f250e5f769b40b76a203fc6c84443312b77ea5b1e443d436a1cd12903d3048f0", func := "besom/besomlaw08.SpillShared", spec := "spillShared", unfollowed := true, recurses := true, apart := false, narrowed := true }
def SpillSharedUptoSaid : Prop := spillSharedUptoRow.holds Try.pinned (OpenSpec.upto spillSharedSpec)

/-- 'besomlaw08.SpillNews', WHERE WHAT IT READS IS OF BULK AT MOST 1048576: true; the input reads as it did. -/
def spillNewsUptoRow : OpenClaim := { program := "ytcnpbdboeaaajaa", sum := "f250e5f769b40b76a203fc6c84443312b77ea5b1e443d436a1cd12903d3048f0", func := "besom/besomlaw08.SpillNews", spec := "spillNews", unfollowed := true, recurses := true, apart := false, narrowed := true }
def SpillNewsUptoSaid : Prop := spillNewsUptoRow.holds Try.pinned (OpenSpec.upto spillNewsSpec)

/-- 'besomlaw08.SpillLocks', WHERE WHAT IT READS IS OF BULK AT MOST 1048576: true; the input reads as it did. -/
def spillLocksUptoRow : OpenClaim := { program := "ytcnpbdboeaaajaa", sum := "f250e5f769b40b76a203fc6c84443312b77ea5b1e443d436a1cd12903d3048f0", func := "besom/besomlaw08.SpillLocks", spec := "spillLocks", unfollowed := true, recurses := true, apart := false, narrowed := true }
def SpillLocksUptoSaid : Prop := spillLocksUptoRow.holds Try.pinned (OpenSpec.upto spillLocksSpec)

/-- 'besomlaw08.SpillPiles', WHERE WHAT IT READS IS OF BULK AT MOST 1048576: true; the input reads as it did. -/
def spillPilesUptoRow : OpenClaim := { program := "ytcnpbdboeaaajaa", sum := "f250e5f769b40b76a203fc6c84443312b77ea5b1e443d436a1cd12903d3048f0", func := "besom/besomlaw08.SpillPiles", spec := "spillPiles", unfollowed := true, recurses := true, apart := false, narrowed := true }
def SpillPilesUptoSaid : Prop := spillPilesUptoRow.holds Try.pinned (OpenSpec.upto spillPilesSpec)

/-- 'besomlaw08.SpillCrowd', WHERE WHAT IT READS IS OF BULK AT MOST 1048576: true; the input reads as it did. -/
def spillCrowdUptoRow : OpenClaim := { program := "ytcnpbdboeaaajaa", sum := "f250e5f769b40b76a203fc6c84443312b77ea5b1e443d436a1cd12903d3048f0", func := "besom/besomlaw08.SpillCrowd", spec := "spillCrowd", unfollowed := true, recurses := true, apart := false, narrowed := true }
def SpillCrowdUptoSaid : Prop := spillCrowdUptoRow.holds Try.pinned (OpenSpec.upto spillCrowdSpec)

end Rows
end Go.Proofs.Ytcnpbdboeaaajaa
