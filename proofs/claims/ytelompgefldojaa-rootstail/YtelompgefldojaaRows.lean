/-
  No cell of these rows narrows 'for every input' (looked for: loops, veiled, ifaces, maps, wideKeys, modest, calm, conditions, laid).
  DERIVED. THE GIVEN ROWS OF THIS SEAT. 4 by the template 'for every input the law returns true; each argument reads behind the call as it read before'; 0 by the template 'total and deterministic' (their statements: YtelompgefldojaaTotals.lean).
  GIVEN WITH THE SEED: the statements are not yours to turn. If you find one false, say at which input.
  Laid BY PROGRAM, IN A SANDBOX (cutbox-rows.mjs): the forced cells as the released guide's own fill.sh prints them over the translation 785f27161db6494a… (all of the seat's roots in one cut). By AI agents, Wed Nov 11 2026. No macro, syntax, notation, axiom, sorry.
-/
import Derived.Test.YtelompgefldojaaChecked
import GoSem.Claim
import GoSem.ClaimJoined
import GoSem.ClaimMapViews
import Derived.JoinedTies
import Derived.KernelRfl
namespace Go.Proofs.Ytelompgefldojaa
/- THE CELL 'sum', in the pinned program and in every row, IS THE sha256 OF THE DUMP (.gsa) THAT YtelompgefldojaaProg.lean LOADS. Nothing in Lean hashes anything: it is a label: what it is worth is what the hold of that sum in a sandbox is worth. -/
noncomputable def Try.pinned : Pinned := { name := "ytelompgefldojaa", sum := "785f27161db6494a41a42e4d535fe70ec5270f7ae53397ff525afc2e199dc5f8", checked := Try.checked }
namespace Rows
def none {H : Type} : Left H := { results := [], args := [] }

/-- 'besomlaw09.RootsPlays': WHATEVER THE INPUT: true; the input reads as it did. -/
def rootsPlaysSpec : ChangeSpec := { name := "rootsPlays", fn := fun _ => fun
  | [d] => { results := [.lit (.bool true)], args := [d] }
  | _ => none }
def rootsPlaysRow : OpenClaim := { program := "ytelompgefldojaa", sum := "785f27161db6494a41a42e4d535fe70ec5270f7ae53397ff525afc2e199dc5f8", func := "besom/besomlaw09.RootsPlays", spec := "rootsPlays", unfollowed := true, recurses := true, apart := false }
def RootsPlaysSaid : Prop := rootsPlaysRow.holds Try.pinned (OpenSpec.ofChange rootsPlaysSpec)

/-- ITS FALSE NEIGHBOUR: 'it returns false'. Refute it at one input. -/
def rootsPlaysWrong : ChangeSpec := { name := "rootsPlays", fn := fun _ => fun
  | [d] => { results := [.lit (.bool false)], args := [d] }
  | _ => none }
def RootsPlaysWrongFalsely : Prop := rootsPlaysRow.holds Try.pinned (OpenSpec.ofChange rootsPlaysWrong)

/-- 'besomlaw09.RootsClaims': WHATEVER THE INPUT: true; the input reads as it did. -/
def rootsClaimsSpec : ChangeSpec := { name := "rootsClaims", fn := fun _ => fun
  | [d1, d2, d3] => { results := [.lit (.bool true)], args := [d1, d2, d3] }
  | _ => none }
def rootsClaimsRow : OpenClaim := { program := "ytelompgefldojaa", sum := "785f27161db6494a41a42e4d535fe70ec5270f7ae53397ff525afc2e199dc5f8", func := "besom/besomlaw09.RootsClaims", spec := "rootsClaims", unfollowed := true, recurses := true, apart := false }
def RootsClaimsSaid : Prop := rootsClaimsRow.holds Try.pinned (OpenSpec.ofChange rootsClaimsSpec)

/-- ITS FALSE NEIGHBOUR: 'it returns false'. Refute it at one input. -/
def rootsClaimsWrong : ChangeSpec := { name := "rootsClaims", fn := fun _ => fun
  | [d1, d2, d3] => { results := [.lit (.bool false)], args := [d1, d2, d3] }
  | _ => none }
def RootsClaimsWrongFalsely : Prop := rootsClaimsRow.holds Try.pinned (OpenSpec.ofChange rootsClaimsWrong)

/-- 'besomlaw09.RootsFull': WHATEVER THE INPUT: true; the input reads as it did. -/
def rootsFullSpec : ChangeSpec := { name := "rootsFull", fn := fun _ => fun
  | [d] => { results := [.lit (.bool true)], args := [d] }
  | _ => none }
def rootsFullRow : OpenClaim := { program := "ytelompgefldojaa", sum := "785f27161db6494a41a42e4d535fe70ec5270f7ae53397ff525afc2e199dc5f8", func := "besom/besomlaw09.RootsFull", spec := "rootsFull", unfollowed := true, recurses := true, apart := false }
def RootsFullSaid : Prop := rootsFullRow.holds Try.pinned (OpenSpec.ofChange rootsFullSpec)

/-- ITS FALSE NEIGHBOUR: 'it returns false'. Refute it at one input. -/
def rootsFullWrong : ChangeSpec := { name := "rootsFull", fn := fun _ => fun
  | [d] => { results := [.lit (.bool false)], args := [d] }
  | _ => none }
def RootsFullWrongFalsely : Prop := rootsFullRow.holds Try.pinned (OpenSpec.ofChange rootsFullWrong)

/-- 'besomlaw09.RootsTail': WHATEVER THE INPUT: true; the input reads as it did. -/
def rootsTailSpec : ChangeSpec := { name := "rootsTail", fn := fun _ => fun
  | [d] => { results := [.lit (.bool true)], args := [d] }
  | _ => none }
def rootsTailRow : OpenClaim := { program := "ytelompgefldojaa", sum := "785f27161db6494a41a42e4d535fe70ec5270f7ae53397ff525afc2e199dc5f8", func := "besom/besomlaw09.RootsTail", spec := "rootsTail", unfollowed := true, recurses := true, apart := false }
def RootsTailSaid : Prop := rootsTailRow.holds Try.pinned (OpenSpec.ofChange rootsTailSpec)

/-- ITS FALSE NEIGHBOUR: 'it returns false'. Refute it at one input. -/
def rootsTailWrong : ChangeSpec := { name := "rootsTail", fn := fun _ => fun
  | [d] => { results := [.lit (.bool false)], args := [d] }
  | _ => none }
def RootsTailWrongFalsely : Prop := rootsTailRow.holds Try.pinned (OpenSpec.ofChange rootsTailWrong)

/- THE SECOND FORM. 'bulk': how many values and letters a reading holds, each counted each time it is reached (what is shared counts as often as it is met; a slice's spare places count too). A statement '..UptoSaid' is the law's where the arguments, and the package variables that the reading takes, are together of bulk at most 1048576: NARROWER than '..Said'. Prove '..Said' where nothing that the law and all that it calls make is longer than what came in: it says more and counts as full. Else prove '..UptoSaid'. A law counts once. -/
mutual
def uptoBulk {H : Type} : DataW H → Nat
  | .lit (.string bytes) => bytes.length + 1
  | .lit _ => 1
  | .nil => 1
  | .ptr d => uptoBulk d + 1
  | .slice elems spare => uptoBulkAll elems + uptoBulkAll spare + 1
  | .agg parts => uptoBulkAll parts + 1
  | .iface _ d => uptoBulk d + 1
  | .map entries => uptoBulkEntries entries + 1
  | .held _ => 1
def uptoBulkAll {H : Type} : List (DataW H) → Nat
  | [] => 0
  | d :: r => uptoBulk d + uptoBulkAll r
def uptoBulkEntries {H : Type} : List (Lit × DataW H) → Nat
  | [] => 0
  | x :: r => uptoBulkEntry x + uptoBulkEntries r
def uptoBulkEntry {H : Type} : Lit × DataW H → Nat
  | (.string bytes, d) => bytes.length + uptoBulk d + 1
  | (_, d) => uptoBulk d + 1
 end
def uptoSmall : (H : Type) → List (DataW H) → Bool := fun _ ds => decide (uptoBulkAll ds ≤ 1048576)
def OpenSpec.upto (s : _root_.Go.ChangeSpec) : _root_.Go.OpenSpec := { _root_.Go.OpenSpec.ofChange s with cond := some uptoSmall }

/-- 'besomlaw09.RootsPlays', WHERE WHAT IT READS IS OF BULK AT MOST 1048576: true; the input reads as it did. -/
def rootsPlaysUptoRow : OpenClaim := { program := "ytelompgefldojaa", sum := "785f27161db6494a41a42e4d535fe70ec5270f7ae53397ff525afc2e199dc5f8", func := "besom/besomlaw09.RootsPlays", spec := "rootsPlays", unfollowed := true, recurses := true, apart := false, narrowed := true }
def RootsPlaysUptoSaid : Prop := rootsPlaysUptoRow.holds Try.pinned (OpenSpec.upto rootsPlaysSpec)

/-- 'besomlaw09.RootsClaims', WHERE WHAT IT READS IS OF BULK AT MOST 1048576: true; the input reads as it did. -/
def rootsClaimsUptoRow : OpenClaim := { program := "ytelompgefldojaa", sum := "785f27161db6494a41a42e4d535fe70ec5270f7ae53397ff525afc2e199dc5f8", func := "besom/besomlaw09.RootsClaims", spec := "rootsClaims", unfollowed := true, recurses := true, apart := false, narrowed := true }
def RootsClaimsUptoSaid : Prop := rootsClaimsUptoRow.holds Try.pinned (OpenSpec.upto rootsClaimsSpec)

/-- 'besomlaw09.RootsFull', WHERE WHAT IT READS IS OF BULK AT MOST 1048576: true; the input reads as it did. -/
def rootsFullUptoRow : OpenClaim := { program := "ytelompgefldojaa", sum := "785f27161db6494a41a42e4d535fe70ec5270f7ae53397ff525afc2e199dc5f8", func := "besom/besomlaw09.RootsFull", spec := "rootsFull", unfollowed := true, recurses := true, apart := false, narrowed := true }
def RootsFullUptoSaid : Prop := rootsFullUptoRow.holds Try.pinned (OpenSpec.upto rootsFullSpec)

/-- 'besomlaw09.RootsTail', WHERE WHAT IT READS IS OF BULK AT MOST 1048576: true; the input reads as it did. -/
def rootsTailUptoRow : OpenClaim := { program := "ytelompgefldojaa", sum := "785f27161db6494a41a42e4d535fe70ec5270f7ae53397ff525afc2e199dc5f8", func := "besom/besomlaw09.RootsTail", spec := "rootsTail", unfollowed := true, recurses := true, apart := false, narrowed := true }
def RootsTailUptoSaid : Prop := rootsTailUptoRow.holds Try.pinned (OpenSpec.upto rootsTailSpec)

end Rows
end Go.Proofs.Ytelompgefldojaa
