/-
  No cell of these rows narrows 'for every input' (looked for: loops, veiled, ifaces, maps, wideKeys, modest, calm, conditions, laid).
  DERIVED. THE GIVEN ROWS OF THIS SEAT. 4 by the template 'for every input the law returns true; each argument reads behind the call as it read before'; 0 by the template 'total and deterministic' (their statements: YtibfhpbklnpknaaTotals.lean).
  GIVEN WITH THE SEED: the statements are not yours to turn. If you find one false, say at which input.
  Laid BY PROGRAM, IN A SANDBOX (cutbox-rows.mjs): the forced cells as the released guide's own fill.sh prints them over the translation eaaee7c1eed5a335… (all of the seat's roots in one cut). By AI agents, Wed Nov 11 2026. No macro, syntax, notation, axiom, sorry.
-/
import Derived.Test.YtibfhpbklnpknaaChecked
import GoSem.Claim
import GoSem.ClaimJoined
import GoSem.ClaimMapViews
import Derived.JoinedTies
import Derived.KernelRfl
namespace Go.Proofs.Ytibfhpbklnpknaa
/- THE CELL 'sum', in the pinned program and in every row, IS THE sha256 OF THE DUMP (.gsa) THAT YtibfhpbklnpknaaProg.lean LOADS. Nothing in Lean hashes anything: it is a label: what it is worth is what the hold of that sum in a sandbox is worth. -/
noncomputable def Try.pinned : Pinned := { name := "ytibfhpbklnpknaa", sum := "eaaee7c1eed5a3356b50c4df56639a2294a365198141bee470d1002a0a0366ad", checked := Try.checked }
namespace Rows
def none {H : Type} : Left H := { results := [], args := [] }

/-- 'besomlaw05.AllocPlays': WHATEVER THE INPUT: true; the input reads as it did. -/
def allocPlaysSpec : ChangeSpec := { name := "allocPlays", fn := fun _ => fun
  | [d1, d2, d3] => { results := [.lit (.bool true)], args := [d1, d2, d3] }
  | _ => none }
def allocPlaysRow : OpenClaim := { program := "ytibfhpbklnpknaa", sum := "eaaee7c1eed5a3356b50c4df56639a2294a365198141bee470d1002a0a0366ad", func := "besom/besomlaw05.AllocPlays", spec := "allocPlays", unfollowed := true, recurses := true, apart := false }
def AllocPlaysSaid : Prop := allocPlaysRow.holds Try.pinned (OpenSpec.ofChange allocPlaysSpec)

/-- ITS FALSE NEIGHBOUR: 'it returns false'. Refute it at one input. -/
def allocPlaysWrong : ChangeSpec := { name := "allocPlays", fn := fun _ => fun
  | [d1, d2, d3] => { results := [.lit (.bool false)], args := [d1, d2, d3] }
  | _ => none }
def AllocPlaysWrongFalsely : Prop := allocPlaysRow.holds Try.pinned (OpenSpec.ofChange allocPlaysWrong)

/-- 'besomlaw05.AllocApart': WHATEVER THE INPUT: true; the input reads as it did. -/
def allocApartSpec : ChangeSpec := { name := "allocApart", fn := fun _ => fun
  | [d1, d2, d3] => { results := [.lit (.bool true)], args := [d1, d2, d3] }
  | _ => none }
def allocApartRow : OpenClaim := { program := "ytibfhpbklnpknaa", sum := "eaaee7c1eed5a3356b50c4df56639a2294a365198141bee470d1002a0a0366ad", func := "besom/besomlaw05.AllocApart", spec := "allocApart", unfollowed := true, recurses := true, apart := false }
def AllocApartSaid : Prop := allocApartRow.holds Try.pinned (OpenSpec.ofChange allocApartSpec)

/-- ITS FALSE NEIGHBOUR: 'it returns false'. Refute it at one input. -/
def allocApartWrong : ChangeSpec := { name := "allocApart", fn := fun _ => fun
  | [d1, d2, d3] => { results := [.lit (.bool false)], args := [d1, d2, d3] }
  | _ => none }
def AllocApartWrongFalsely : Prop := allocApartRow.holds Try.pinned (OpenSpec.ofChange allocApartWrong)

/-- 'besomlaw05.AllocLarge': WHATEVER THE INPUT: true; the input reads as it did. -/
def allocLargeSpec : ChangeSpec := { name := "allocLarge", fn := fun _ => fun
  | [d1, d2] => { results := [.lit (.bool true)], args := [d1, d2] }
  | _ => none }
def allocLargeRow : OpenClaim := { program := "ytibfhpbklnpknaa", sum := "eaaee7c1eed5a3356b50c4df56639a2294a365198141bee470d1002a0a0366ad", func := "besom/besomlaw05.AllocLarge", spec := "allocLarge", apart := false }
def AllocLargeSaid : Prop := allocLargeRow.holds Try.pinned (OpenSpec.ofChange allocLargeSpec)

/-- ITS FALSE NEIGHBOUR: 'it returns false'. Refute it at one input. -/
def allocLargeWrong : ChangeSpec := { name := "allocLarge", fn := fun _ => fun
  | [d1, d2] => { results := [.lit (.bool false)], args := [d1, d2] }
  | _ => none }
def AllocLargeWrongFalsely : Prop := allocLargeRow.holds Try.pinned (OpenSpec.ofChange allocLargeWrong)

/-- 'besomlaw05.AllocSame': WHATEVER THE INPUT: true; the input reads as it did. -/
def allocSameSpec : ChangeSpec := { name := "allocSame", fn := fun _ => fun
  | [d1, d2, d3] => { results := [.lit (.bool true)], args := [d1, d2, d3] }
  | _ => none }
def allocSameRow : OpenClaim := { program := "ytibfhpbklnpknaa", sum := "eaaee7c1eed5a3356b50c4df56639a2294a365198141bee470d1002a0a0366ad", func := "besom/besomlaw05.AllocSame", spec := "allocSame", apart := false }
def AllocSameSaid : Prop := allocSameRow.holds Try.pinned (OpenSpec.ofChange allocSameSpec)

/-- ITS FALSE NEIGHBOUR: 'it returns false'. Refute it at one input. -/
def allocSameWrong : ChangeSpec := { name := "allocSame", fn := fun _ => fun
  | [d1, d2, d3] => { results := [.lit (.bool false)], args := [d1, d2, d3] }
  | _ => none }
def AllocSameWrongFalsely : Prop := allocSameRow.holds Try.pinned (OpenSpec.ofChange allocSameWrong)

/- THE SECOND FORM. 'bulk': how many values and letters a reading holds, each counted each time it is reached (what is shared counts as often as it is met; a slice's spare places count too). A statement '..UptoSaid' is the law's where the arguments, and the package variables that the reading takes, are together of bulk at most 1048576: NARROWER than '..Said'. Prove '..Said' where nothing that the law and all that it calls make is longer than what came in: it says more and counts as full. Else prove '..UptoSaid'. A law counts once. -/
mutual
def uptoBulk {H : Type} : DataW H → Nat
  | .lit (.string bytes) => bytes.length + 1
  | .lit _ => 1
  | .nil => 1
  | .ptr d => uptoBulk d + 1
  | .slice elems spare => uptoBulkAll elems + uptoBulkAll spare + 1
  | .agg parts => uptoBulkAll parts + 1
  | .iface _ d => uptoBulk d + 1
  | .map entries => uptoBulkEntries entries + 1
  | .held _ => 1
def uptoBulkAll {H : Type} : List (DataW H) → Nat
  | [] => 0
  | d :: r => uptoBulk d + uptoBulkAll r
def uptoBulkEntries {H : Type} : List (Lit × DataW H) → Nat
  | [] => 0
  | x :: r => uptoBulkEntry x + uptoBulkEntries r
def uptoBulkEntry {H : Type} : Lit × DataW H → Nat
  | (.string bytes, d) => bytes.length + uptoBulk d + 1
  | (_, d) => uptoBulk d + 1
 end
def uptoSmall : (H : Type) → List (DataW H) → Bool := fun _ ds => decide (uptoBulkAll ds ≤ 1048576)
def OpenSpec.upto (s : _root_.Go.ChangeSpec) : _root_.Go.OpenSpec := { _root_.Go.OpenSpec.ofChange s with cond := some uptoSmall }

/-- 'besomlaw05.AllocPlays', WHERE WHAT IT READS IS OF BULK AT MOST 1048576: true; the input reads as it did. -/
def allocPlaysUptoRow : OpenClaim := { program := "ytibfhpbklnpknaa", sum := "eaaee7c1eed5a3356b50c4df56639a2294a365198141bee470d1002a0a0366ad", func := "besom/besomlaw05.AllocPlays", spec := "allocPlays", unfollowed := true, recurses := true, apart := false, narrowed := true }
def AllocPlaysUptoSaid : Prop := allocPlaysUptoRow.holds Try.pinned (OpenSpec.upto allocPlaysSpec)

/-- 'besomlaw05.AllocApart', WHERE WHAT IT READS IS OF BULK AT MOST 1048576: true; the input reads as it did. -/
def allocApartUptoRow : OpenClaim := { program := "ytibfhpbklnpknaa", sum := "eaaee7c1eed5a3356b50c4df56639a2294a365198141bee470d1002a0a0366ad", func := "besom/besomlaw05.AllocApart", spec := "allocApart", unfollowed := true, recurses := true, apart := false, narrowed := true }
def AllocApartUptoSaid : Prop := allocApartUptoRow.holds Try.pinned (OpenSpec.upto allocApartSpec)

/-- 'besomlaw05.AllocLarge', WHERE WHAT IT READS IS OF BULK AT MOST 1048576: true; the input reads as it did. -/
def allocLargeUptoRow : OpenClaim := { program := "ytibfhpbklnpknaa", sum := "eaaee7c1eed5a3356b50c4df56639a2294a365198141bee470d1002a0a0366ad", func := "besom/besomlaw05.AllocLarge", spec := "allocLarge", apart := false, narrowed := true }
def AllocLargeUptoSaid : Prop := allocLargeUptoRow.holds Try.pinned (OpenSpec.upto allocLargeSpec)

/-- 'besomlaw05.AllocSame', WHERE WHAT IT READS IS OF BULK AT MOST 1048576: true; the input reads as it did. -/
def allocSameUptoRow : OpenClaim := { program := "ytibfhpbklnpknaa", sum := "eaaee7c1eed5a3356b50c4df56639a2294a365198141bee470d1002a0a0366ad", func := "besom/besomlaw05.AllocSame", spec := "allocSame", apart := false, narrowed := true }
def AllocSameUptoSaid : Prop := allocSameUptoRow.holds Try.pinned (OpenSpec.upto allocSameSpec)

end Rows
end Go.Proofs.Ytibfhpbklnpknaa
