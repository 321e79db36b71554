/-
  No cell of these rows narrows 'for every input' (looked for: loops, veiled, ifaces, maps, wideKeys, modest, calm, conditions, laid).
  DERIVED. THE GIVEN ROWS OF THIS SEAT. 6 by the template 'for every input the law returns true; each argument reads behind the call as it read before'; 0 by the template 'total and deterministic' (their statements: YtcabgnfeeimeiaaTotals.lean).
  GIVEN WITH THE SEED: the statements are not yours to turn. If you find one false, say at which input.
  Laid BY PROGRAM, IN A SANDBOX (cutbox-rows.mjs): the forced cells as the released guide's own fill.sh prints them over the translation 3261864cad4dc79e… (all of the seat's roots in one cut). By AI agents, Wed Nov 11 2026. No macro, syntax, notation, axiom, sorry.
-/
import Derived.Test.YtcabgnfeeimeiaaChecked
import GoSem.Claim
import GoSem.ClaimJoined
import GoSem.ClaimMapViews
import Derived.JoinedTies
import Derived.KernelRfl
namespace Go.Proofs.Ytcabgnfeeimeiaa
/- THE CELL 'sum', in the pinned program and in every row, IS THE sha256 OF THE DUMP (.gsa) THAT YtcabgnfeeimeiaaProg.lean LOADS. Nothing in Lean hashes anything: it is a label: what it is worth is what the hold of that sum in a sandbox is worth. -/
noncomputable def Try.pinned : Pinned := { name := "ytcabgnfeeimeiaa", sum := "3261864cad4dc79e61bf43af279ce6a9c06ac39c66c8136327123598c8e984db", checked := Try.checked }
namespace Rows
def none {H : Type} : Left H := { results := [], args := [] }

/-- 'besomlaw03.CellPlays': WHATEVER THE INPUT: true; the input reads as it did. -/
def cellPlaysSpec : ChangeSpec := { name := "cellPlays", fn := fun _ => fun
  | [d1, d2] => { results := [.lit (.bool true)], args := [d1, d2] }
  | _ => none }
def cellPlaysRow : OpenClaim := { program := "ytcabgnfeeimeiaa", sum := "3261864cad4dc79e61bf43af279ce6a9c06ac39c66c8136327123598c8e984db", func := "besom/besomlaw03.CellPlays", spec := "cellPlays", unfollowed := true, recurses := true, apart := false }
def CellPlaysSaid : Prop := cellPlaysRow.holds Try.pinned (OpenSpec.ofChange cellPlaysSpec)

/-- ITS FALSE NEIGHBOUR: 'it returns false'. Refute it at one input. -/
def cellPlaysWrong : ChangeSpec := { name := "cellPlays", fn := fun _ => fun
  | [d1, d2] => { results := [.lit (.bool false)], args := [d1, d2] }
  | _ => none }
def CellPlaysWrongFalsely : Prop := cellPlaysRow.holds Try.pinned (OpenSpec.ofChange cellPlaysWrong)

/-- 'besomlaw03.CellNews': WHATEVER THE INPUT: true; the input reads as it did. -/
def cellNewsSpec : ChangeSpec := { name := "cellNews", fn := fun _ => fun
  | [d] => { results := [.lit (.bool true)], args := [d] }
  | _ => none }
def cellNewsRow : OpenClaim := { program := "ytcabgnfeeimeiaa", sum := "3261864cad4dc79e61bf43af279ce6a9c06ac39c66c8136327123598c8e984db", func := "besom/besomlaw03.CellNews", spec := "cellNews", unfollowed := true, recurses := true, apart := false }
def CellNewsSaid : Prop := cellNewsRow.holds Try.pinned (OpenSpec.ofChange cellNewsSpec)

/-- ITS FALSE NEIGHBOUR: 'it returns false'. Refute it at one input. -/
def cellNewsWrong : ChangeSpec := { name := "cellNews", fn := fun _ => fun
  | [d] => { results := [.lit (.bool false)], args := [d] }
  | _ => none }
def CellNewsWrongFalsely : Prop := cellNewsRow.holds Try.pinned (OpenSpec.ofChange cellNewsWrong)

/-- 'besomlaw03.CellSums': WHATEVER THE INPUT: true; the input reads as it did. -/
def cellSumsSpec : ChangeSpec := { name := "cellSums", fn := fun _ => fun
  | [d] => { results := [.lit (.bool true)], args := [d] }
  | _ => none }
def cellSumsRow : OpenClaim := { program := "ytcabgnfeeimeiaa", sum := "3261864cad4dc79e61bf43af279ce6a9c06ac39c66c8136327123598c8e984db", func := "besom/besomlaw03.CellSums", spec := "cellSums", unfollowed := true, recurses := true, apart := false }
def CellSumsSaid : Prop := cellSumsRow.holds Try.pinned (OpenSpec.ofChange cellSumsSpec)

/-- ITS FALSE NEIGHBOUR: 'it returns false'. Refute it at one input. -/
def cellSumsWrong : ChangeSpec := { name := "cellSums", fn := fun _ => fun
  | [d] => { results := [.lit (.bool false)], args := [d] }
  | _ => none }
def CellSumsWrongFalsely : Prop := cellSumsRow.holds Try.pinned (OpenSpec.ofChange cellSumsWrong)

/-- 'besomlaw03.CellRaces': WHATEVER THE INPUT: true; the input reads as it did. -/
def cellRacesSpec : ChangeSpec := { name := "cellRaces", fn := fun _ => fun
  | [d1, d2] => { results := [.lit (.bool true)], args := [d1, d2] }
  | _ => none }
def cellRacesRow : OpenClaim := { program := "ytcabgnfeeimeiaa", sum := "3261864cad4dc79e61bf43af279ce6a9c06ac39c66c8136327123598c8e984db", func := "besom/besomlaw03.CellRaces", spec := "cellRaces", unfollowed := true, recurses := true, apart := false }
def CellRacesSaid : Prop := cellRacesRow.holds Try.pinned (OpenSpec.ofChange cellRacesSpec)

/-- ITS FALSE NEIGHBOUR: 'it returns false'. Refute it at one input. -/
def cellRacesWrong : ChangeSpec := { name := "cellRaces", fn := fun _ => fun
  | [d1, d2] => { results := [.lit (.bool false)], args := [d1, d2] }
  | _ => none }
def CellRacesWrongFalsely : Prop := cellRacesRow.holds Try.pinned (OpenSpec.ofChange cellRacesWrong)

/-- 'besomlaw03.CellApart': WHATEVER THE INPUT: true; the input reads as it did. -/
def cellApartSpec : ChangeSpec := { name := "cellApart", fn := fun _ => fun
  | [d1, d2] => { results := [.lit (.bool true)], args := [d1, d2] }
  | _ => none }
def cellApartRow : OpenClaim := { program := "ytcabgnfeeimeiaa", sum := "3261864cad4dc79e61bf43af279ce6a9c06ac39c66c8136327123598c8e984db", func := "besom/besomlaw03.CellApart", spec := "cellApart", unfollowed := true, recurses := true, apart := false }
def CellApartSaid : Prop := cellApartRow.holds Try.pinned (OpenSpec.ofChange cellApartSpec)

/-- ITS FALSE NEIGHBOUR: 'it returns false'. Refute it at one input. -/
def cellApartWrong : ChangeSpec := { name := "cellApart", fn := fun _ => fun
  | [d1, d2] => { results := [.lit (.bool false)], args := [d1, d2] }
  | _ => none }
def CellApartWrongFalsely : Prop := cellApartRow.holds Try.pinned (OpenSpec.ofChange cellApartWrong)

/-- 'besomlaw03.CellRound': WHATEVER THE INPUT: true; the input reads as it did. -/
def cellRoundSpec : ChangeSpec := { name := "cellRound", fn := fun _ => fun
  | [d1, d2] => { results := [.lit (.bool true)], args := [d1, d2] }
  | _ => none }
def cellRoundRow : OpenClaim := { program := "ytcabgnfeeimeiaa", sum := "3261864cad4dc79e61bf43af279ce6a9c06ac39c66c8136327123598c8e984db", func := "besom/besomlaw03.CellRound", spec := "cellRound", unfollowed := true, recurses := true, apart := false }
def CellRoundSaid : Prop := cellRoundRow.holds Try.pinned (OpenSpec.ofChange cellRoundSpec)

/-- ITS FALSE NEIGHBOUR: 'it returns false'. Refute it at one input. -/
def cellRoundWrong : ChangeSpec := { name := "cellRound", fn := fun _ => fun
  | [d1, d2] => { results := [.lit (.bool false)], args := [d1, d2] }
  | _ => none }
def CellRoundWrongFalsely : Prop := cellRoundRow.holds Try.pinned (OpenSpec.ofChange cellRoundWrong)

/- THE SECOND FORM. 'bulk': how many values and letters a reading holds, each counted each time it is reached (what is shared counts as often as it is met; a slice's spare places count too). A statement '..UptoSaid' is the law's where the arguments, and the package variables that the reading takes, are together of bulk at most 1048576: NARROWER than '..Said'. Prove '..Said' where nothing that the law and all that it calls make is longer than what came in: it says more and counts as full. Else prove '..UptoSaid'. A law counts once. -/
mutual
def uptoBulk {H : Type} : DataW H → Nat
  | .lit (.string bytes) => bytes.length + 1
  | .lit _ => 1
  | .nil => 1
  | .ptr d => uptoBulk d + 1
  | .slice elems spare => uptoBulkAll elems + uptoBulkAll spare + 1
  | .agg parts => uptoBulkAll parts + 1
  | .iface _ d => uptoBulk d + 1
  | .map entries => uptoBulkEntries entries + 1
  | .held _ => 1
def uptoBulkAll {H : Type} : List (DataW H) → Nat
  | [] => 0
  | d :: r => uptoBulk d + uptoBulkAll r
def uptoBulkEntries {H : Type} : List (Lit × DataW H) → Nat
  | [] => 0
  | x :: r => uptoBulkEntry x + uptoBulkEntries r
def uptoBulkEntry {H : Type} : Lit × DataW H → Nat
  | (.string bytes, d) => bytes.length + uptoBulk d + 1
  | (_, d) => uptoBulk d + 1
 end
def uptoSmall : (H : Type) → List (DataW H) → Bool := fun _ ds => decide (uptoBulkAll ds ≤ 1048576)
def OpenSpec.upto (s : _root_.Go.ChangeSpec) : _root_.Go.OpenSpec := { _root_.Go.OpenSpec.ofChange s with cond := some uptoSmall }

/-- 'besomlaw03.CellPlays', WHERE WHAT IT READS IS OF BULK AT MOST 1048576: true; the input reads as it did. -/
def cellPlaysUptoRow : OpenClaim := { program := "ytcabgnfeeimeiaa", sum := "3261864cad4dc79e61bf43af279ce6a9c06ac39c66c8136327123598c8e984db", func := "besom/besomlaw03.CellPlays", spec := "cellPlays", unfollowed := true, recurses := true, apart := false, narrowed := true }
def CellPlaysUptoSaid : Prop := cellPlaysUptoRow.holds Try.pinned (OpenSpec.upto cellPlaysSpec)

/-- 'besomlaw03.CellNews', WHERE WHAT IT READS IS OF BULK AT MOST 1048576: true; the input reads as it did. -/
def cellNewsUptoRow : OpenClaim := { program := "ytcabgnfeeimeiaa", sum := "3261864cad4dc79e61bf43af279ce6a9c06ac39c66c8136327123598c8e984db", func := "besom/besomlaw03.CellNews", spec := "cellNews", unfollowed := true, recurses := true, apart := false, narrowed := true }
def CellNewsUptoSaid : Prop := cellNewsUptoRow.holds Try.pinned (OpenSpec.upto cellNewsSpec)

/-- 'besomlaw03.CellSums', WHERE WHAT IT READS IS OF BULK AT MOST 1048576: true; the input reads as it did. -/
def cellSumsUptoRow : OpenClaim := { program := "ytcabgnfeeimeiaa", sum := "3261864cad4dc79e61bf43af279ce6a9c06ac39c66c8136327123598c8e984db", func := "besom/besomlaw03.CellSums", spec := "cellSums", unfollowed := true, recurses := true, apart := false, narrowed := true }
def CellSumsUptoSaid : Prop := cellSumsUptoRow.holds Try.pinned (OpenSpec.upto cellSumsSpec)

/-- 'besomlaw03.CellRaces', WHERE WHAT IT READS IS OF BULK AT MOST 1048576: true; the input reads as it did. -/
def cellRacesUptoRow : OpenClaim := { program := "ytcabgnfeeimeiaa", sum := "3261864cad4dc79e61bf43af279ce6a9c06ac39c66c8136327123598c8e984db", func := "besom/besomlaw03.CellRaces", spec := "cellRaces", unfollowed := true, recurses := true, apart := false, narrowed := true }
def CellRacesUptoSaid : Prop := cellRacesUptoRow.holds Try.pinned (OpenSpec.upto cellRacesSpec)

/-- 'besomlaw03.CellApart', WHERE WHAT IT READS IS OF BULK AT MOST 1048576: true; the input reads as it did. -/
def cellApartUptoRow : OpenClaim := { program := "ytcabgnfeeimeiaa", sum := "3261864cad4dc79e61bf43af279ce6a9c06ac39c66c8136327123598c8e984db", func := "besom/besomlaw03.CellApart", spec := "cellApart", unfollowed := true, recurses := true, apart := false, narrowed := true }
def CellApartUptoSaid : Prop := cellApartUptoRow.holds Try.pinned (OpenSpec.upto cellApartSpec)

/-- 'besomlaw03.CellRound', WHERE WHAT IT READS IS OF BULK AT MOST 1048576: true; the input reads as it did. -/
def cellRoundUptoRow : OpenClaim := { program := "ytcabgnfeeimeiaa", sum := "3261864cad4dc79e61bf43af279ce6a9c06ac39c66c8136327123598c8e984db", func := "besom/besomlaw03.CellRound", spec := "cellRound", unfollowed := true, recurses := true, apart := false, narrowed := true }
def CellRoundUptoSaid : Prop := cellRoundUptoRow.holds Try.pinned (OpenSpec.upto cellRoundSpec)

end Rows
end Go.Proofs.Ytcabgnfeeimeiaa
