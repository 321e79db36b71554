/-
  No cell of these rows narrows 'for every input' (looked for: loops, veiled, ifaces, maps, wideKeys, modest, calm, conditions, laid).
  DERIVED. THE GIVEN ROWS OF THIS SEAT. 4 by the template 'for every input the law returns true; each argument reads behind the call as it read before'; 0 by the template 'total and deterministic' (their statements: YtehmcbpkhknpcaaTotals.lean).
  GIVEN WITH THE SEED: the statements are not yours to turn. If you find one false, say at which input.
  Laid BY PROGRAM, IN A SANDBOX (cutbox-rows.mjs): the forced cells as the released guide's own fill.sh prints them over the translation c23a6c57cb8d3aeb… (all of the seat's roots in one cut). By AI agents, Wed Nov 11 2026. No macro, syntax, notation, axiom, sorry.
-/
import Derived.Test.YtehmcbpkhknpcaaChecked
import GoSem.Claim
import GoSem.ClaimJoined
import GoSem.ClaimMapViews
import Derived.JoinedTies
import Derived.KernelRfl
namespace Go.Proofs.Ytehmcbpkhknpcaa
/- THE CELL 'sum', in the pinned program and in every row, IS THE sha256 OF THE DUMP (.gsa) THAT YtehmcbpkhknpcaaProg.lean LOADS. Nothing in Lean hashes anything: it is a label: what it is worth is what the hold of that sum in a sandbox is worth. -/
noncomputable def Try.pinned : Pinned := { name := "ytehmcbpkhknpcaa", sum := "c23a6c57cb8d3aeb236190338403b10a7c0b7ee6d4b09af6940e190a0554e495", checked := Try.checked }
namespace Rows
def none {H : Type} : Left H := { results := [], args := [] }

/-- 'besomlaw13.ForwardGoes': WHATEVER THE INPUT: true; the input reads as it did. -/
def forwardGoesSpec : ChangeSpec := { name := "forwardGoes", fn := fun _ => fun
  | [d1, d2, d3] => { results := [.lit (.bool true)], args := [d1, d2, d3] }
  | _ => none }
def forwardGoesRow : OpenClaim := { program := "ytehmcbpkhknpcaa", sum := "c23a6c57cb8d3aeb236190338403b10a7c0b7ee6d4b09af6940e190a0554e495", func := "besom/besomlaw13.ForwardGoes", spec := "forwardGoes", unfollowed := true, recurses := true, apart := false }
def ForwardGoesSaid : Prop := forwardGoesRow.holds Try.pinned (OpenSpec.ofChange forwardGoesSpec)

/-- ITS FALSE NEIGHBOUR: 'it returns false'. Refute it at one input. -/
def forwardGoesWrong : ChangeSpec := { name := "forwardGoes", fn := fun _ => fun
  | [d1, d2, d3] => { results := [.lit (.bool false)], args := [d1, d2, d3] }
  | _ => none }
def ForwardGoesWrongFalsely : Prop := forwardGoesRow.holds Try.pinned (OpenSpec.ofChange forwardGoesWrong)

/-- 'besomlaw13.ForwardSame': WHATEVER THE INPUT: true; the input reads as it did. -/
def forwardSameSpec : ChangeSpec := { name := "forwardSame", fn := fun _ => fun
  | [d1, d2, d3] => { results := [.lit (.bool true)], args := [d1, d2, d3] }
  | _ => none }
def forwardSameRow : OpenClaim := { program := "ytehmcbpkhknpcaa", sum := "c23a6c57cb8d3aeb236190338403b10a7c0b7ee6d4b09af6940e190a0554e495", func := "besom/besomlaw13.ForwardSame", spec := "forwardSame", unfollowed := true, recurses := true, apart := false }
def ForwardSameSaid : Prop := forwardSameRow.holds Try.pinned (OpenSpec.ofChange forwardSameSpec)

/-- ITS FALSE NEIGHBOUR: 'it returns false'. Refute it at one input. -/
def forwardSameWrong : ChangeSpec := { name := "forwardSame", fn := fun _ => fun
  | [d1, d2, d3] => { results := [.lit (.bool false)], args := [d1, d2, d3] }
  | _ => none }
def ForwardSameWrongFalsely : Prop := forwardSameRow.holds Try.pinned (OpenSpec.ofChange forwardSameWrong)

/-- 'besomlaw13.ForwardRises': WHATEVER THE INPUT: true; the input reads as it did. -/
def forwardRisesSpec : ChangeSpec := { name := "forwardRises", fn := fun _ => fun
  | [d1, d2, d3] => { results := [.lit (.bool true)], args := [d1, d2, d3] }
  | _ => none }
def forwardRisesRow : OpenClaim := { program := "ytehmcbpkhknpcaa", sum := "c23a6c57cb8d3aeb236190338403b10a7c0b7ee6d4b09af6940e190a0554e495", func := "besom/besomlaw13.ForwardRises", spec := "forwardRises", unfollowed := true, recurses := true, apart := false }
def ForwardRisesSaid : Prop := forwardRisesRow.holds Try.pinned (OpenSpec.ofChange forwardRisesSpec)

/-- ITS FALSE NEIGHBOUR: 'it returns false'. Refute it at one input. -/
def forwardRisesWrong : ChangeSpec := { name := "forwardRises", fn := fun _ => fun
  | [d1, d2, d3] => { results := [.lit (.bool false)], args := [d1, d2, d3] }
  | _ => none }
def ForwardRisesWrongFalsely : Prop := forwardRisesRow.holds Try.pinned (OpenSpec.ofChange forwardRisesWrong)

/-- 'besomlaw13.ForwardStays': WHATEVER THE INPUT: true; the input reads as it did. -/
def forwardStaysSpec : ChangeSpec := { name := "forwardStays", fn := fun _ => fun
  | [d1, d2] => { results := [.lit (.bool true)], args := [d1, d2] }
  | _ => none }
def forwardStaysRow : OpenClaim := { program := "ytehmcbpkhknpcaa", sum := "c23a6c57cb8d3aeb236190338403b10a7c0b7ee6d4b09af6940e190a0554e495", func := "besom/besomlaw13.ForwardStays", spec := "forwardStays", unfollowed := true, recurses := true, apart := false }
def ForwardStaysSaid : Prop := forwardStaysRow.holds Try.pinned (OpenSpec.ofChange forwardStaysSpec)

/-- ITS FALSE NEIGHBOUR: 'it returns false'. Refute it at one input. -/
def forwardStaysWrong : ChangeSpec := { name := "forwardStays", fn := fun _ => fun
  | [d1, d2] => { results := [.lit (.bool false)], args := [d1, d2] }
  | _ => none }
def ForwardStaysWrongFalsely : Prop := forwardStaysRow.holds Try.pinned (OpenSpec.ofChange forwardStaysWrong)

/- THE SECOND FORM. 'bulk': how many values and letters a reading holds, each counted each time it is reached (what is shared counts as often as it is met; a slice's spare places count too). A statement '..UptoSaid' is the law's where the arguments, and the package variables that the reading takes, are together of bulk at most 1048576: NARROWER than '..Said'. Prove '..Said' where nothing that the law and all that it calls make is longer than what came in: it says more and counts as full. Else prove '..UptoSaid'. A law counts once. -/
mutual
def uptoBulk {H : Type} : DataW H → Nat
  | .lit (.string bytes) => bytes.length + 1
  | .lit _ => 1
  | .nil => 1
  | .ptr d => uptoBulk d + 1
  | .slice elems spare => uptoBulkAll elems + uptoBulkAll spare + 1
  | .agg parts => uptoBulkAll parts + 1
  | .iface _ d => uptoBulk d + 1
  | .map entries => uptoBulkEntries entries + 1
  | .held _ => 1
def uptoBulkAll {H : Type} : List (DataW H) → Nat
  | [] => 0
  | d :: r => uptoBulk d + uptoBulkAll r
def uptoBulkEntries {H : Type} : List (Lit × DataW H) → Nat
  | [] => 0
  | x :: r => uptoBulkEntry x + uptoBulkEntries r
def uptoBulkEntry {H : Type} : Lit × DataW H → Nat
  | (.string bytes, d) => bytes.length + uptoBulk d + 1
  | (_, d) => uptoBulk d + 1
 end
def uptoSmall : (H : Type) → List (DataW H) → Bool := fun _ ds => decide (uptoBulkAll ds ≤ 1048576)
def OpenSpec.upto (s : _root_.Go.ChangeSpec) : _root_.Go.OpenSpec := { _root_.Go.OpenSpec.ofChange s with cond := some uptoSmall }

/-- 'besomlaw13.ForwardGoes', WHERE WHAT IT READS IS OF BULK AT MOST 1048576: true; the input reads as it did. -/
def forwardGoesUptoRow : OpenClaim := { program := "ytehmcbpkhknpcaa", sum := "c23a6c57cb8d3aeb236190338403b10a7c0b7ee6d4b09af6940e190a0554e495", func := "besom/besomlaw13.ForwardGoes", spec := "forwardGoes", unfollowed := true, recurses := true, apart := false, narrowed := true }
def ForwardGoesUptoSaid : Prop := forwardGoesUptoRow.holds Try.pinned (OpenSpec.upto forwardGoesSpec)

/-- 'besomlaw13.ForwardSame', WHERE WHAT IT READS IS OF BULK AT MOST 1048576: true; the input reads as it did. -/
def forwardSameUptoRow : OpenClaim := { program := "ytehmcbpkhknpcaa", sum := "c23a6c57cb8d3aeb236190338403b10a7c0b7ee6d4b09af6940e190a0554e495", func := "besom/besomlaw13.ForwardSame", spec := "forwardSame", unfollowed := true, recurses := true, apart := false, narrowed := true }
def ForwardSameUptoSaid : Prop := forwardSameUptoRow.holds Try.pinned (OpenSpec.upto forwardSameSpec)

/-- 'besomlaw13.ForwardRises', WHERE WHAT IT READS IS OF BULK AT MOST 1048576: true; the input reads as it did. -/
def forwardRisesUptoRow : OpenClaim := { program := "ytehmcbpkhknpcaa", sum := "c23a6c57cb8d3aeb236190338403b10a7c0b7ee6d4b09af6940e190a0554e495", func := "besom/besomlaw13.ForwardRises", spec := "forwardRises", unfollowed := true, recurses := true, apart := false, narrowed := true }
def ForwardRisesUptoSaid : Prop := forwardRisesUptoRow.holds Try.pinned (OpenSpec.upto forwardRisesSpec)

/-- 'besomlaw13.ForwardStays', WHERE WHAT IT READS IS OF BULK AT MOST 1048576: true; the input reads as it did. -/
def forwardStaysUptoRow : OpenClaim := { program := "ytehmcbpkhknpcaa", sum := "c23a6c57cb8d3aeb236190338403b10a7c0b7ee6d4b09af6940e190a0554e495", func := "besom/besomlaw13.ForwardStays", spec := "forwardStays", unfollowed := true, recurses := true, apart := false, narrowed := true }
def ForwardStaysUptoSaid : Prop := forwardStaysUptoRow.holds Try.pinned (OpenSpec.upto forwardStaysSpec)

end Rows
end Go.Proofs.Ytehmcbpkhknpcaa
