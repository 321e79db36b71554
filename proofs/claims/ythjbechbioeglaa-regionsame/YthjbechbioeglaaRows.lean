/-
  No cell of these rows narrows 'for every input' (looked for: loops, veiled, ifaces, maps, wideKeys, modest, calm, conditions, laid).
  DERIVED. THE GIVEN ROWS OF THIS SEAT. 4 by the template 'for every input the law returns true; each argument reads behind the call as it read before'; 0 by the template 'total and deterministic' (their statements: YthjbechbioeglaaTotals.lean).
  GIVEN WITH THE SEED: the statements are not yours to turn. If you find one false, say at which input.
  Laid BY PROGRAM, IN A SANDBOX (cutbox-rows.mjs): the forced cells as the released guide's own fill.sh prints them over the translation a0d475101300227c… (all of the seat's roots in one cut). By AI agents, Wed Nov 11 2026. No macro, syntax, notation, axiom, sorry.
-/
import Derived.Test.YthjbechbioeglaaChecked
import GoSem.Claim
import GoSem.ClaimJoined
import GoSem.ClaimMapViews
import Derived.JoinedTies
import Derived.KernelRfl
namespace Go.Proofs.Ythjbechbioeglaa
/- THE CELL 'sum', in the pinned program and in every row, IS THE sha256 OF THE DUMP (.gsa) THAT YthjbechbioeglaaProg.lean LOADS. Nothing in Lean hashes anything: it is a label: what it is worth is what the hold of that sum in a sandbox is worth. -/
noncomputable def Try.pinned : Pinned := { name := "ythjbechbioeglaa", sum := "a0d475101300227c6059a47cefa7161353cfc2aecb68447dc4835aec4c472636", checked := Try.checked }
namespace Rows
def none {H : Type} : Left H := { results := [], args := [] }

/-- 'besomlaw12.RegionSums': WHATEVER THE INPUT: true; the input reads as it did. -/
def regionSumsSpec : ChangeSpec := { name := "regionSums", fn := fun _ => fun
  | [d1, d2, d3] => { results := [.lit (.bool true)], args := [d1, d2, d3] }
  | _ => none }
def regionSumsRow : OpenClaim := { program := "ythjbechbioeglaa", sum := "a0d475101300227c6059a47cefa7161353cfc2aecb68447dc4835aec4c472636", func := "besom/besomlaw12.RegionSums", spec := "regionSums", unfollowed := true, recurses := true, apart := false }
def RegionSumsSaid : Prop := regionSumsRow.holds Try.pinned (OpenSpec.ofChange regionSumsSpec)

/-- ITS FALSE NEIGHBOUR: 'it returns false'. Refute it at one input. -/
def regionSumsWrong : ChangeSpec := { name := "regionSums", fn := fun _ => fun
  | [d1, d2, d3] => { results := [.lit (.bool false)], args := [d1, d2, d3] }
  | _ => none }
def RegionSumsWrongFalsely : Prop := regionSumsRow.holds Try.pinned (OpenSpec.ofChange regionSumsWrong)

/-- 'besomlaw12.RegionSame': WHATEVER THE INPUT: true; the input reads as it did. -/
def regionSameSpec : ChangeSpec := { name := "regionSame", fn := fun _ => fun
  | [d1, d2, d3] => { results := [.lit (.bool true)], args := [d1, d2, d3] }
  | _ => none }
def regionSameRow : OpenClaim := { program := "ythjbechbioeglaa", sum := "a0d475101300227c6059a47cefa7161353cfc2aecb68447dc4835aec4c472636", func := "besom/besomlaw12.RegionSame", spec := "regionSame", unfollowed := true, recurses := true, apart := false }
def RegionSameSaid : Prop := regionSameRow.holds Try.pinned (OpenSpec.ofChange regionSameSpec)

/-- ITS FALSE NEIGHBOUR: 'it returns false'. Refute it at one input. -/
def regionSameWrong : ChangeSpec := { name := "regionSame", fn := fun _ => fun
  | [d1, d2, d3] => { results := [.lit (.bool false)], args := [d1, d2, d3] }
  | _ => none }
def RegionSameWrongFalsely : Prop := regionSameRow.holds Try.pinned (OpenSpec.ofChange regionSameWrong)

/-- 'besomlaw12.RegionAlls': WHATEVER THE INPUT: true; the input reads as it did. -/
def regionAllsSpec : ChangeSpec := { name := "regionAlls", fn := fun _ => fun
  | [d1, d2] => { results := [.lit (.bool true)], args := [d1, d2] }
  | _ => none }
def regionAllsRow : OpenClaim := { program := "ythjbechbioeglaa", sum := "a0d475101300227c6059a47cefa7161353cfc2aecb68447dc4835aec4c472636", func := "besom/besomlaw12.RegionAlls", spec := "regionAlls", unfollowed := true, recurses := true, apart := false }
def RegionAllsSaid : Prop := regionAllsRow.holds Try.pinned (OpenSpec.ofChange regionAllsSpec)

/-- ITS FALSE NEIGHBOUR: 'it returns false'. Refute it at one input. -/
def regionAllsWrong : ChangeSpec := { name := "regionAlls", fn := fun _ => fun
  | [d1, d2] => { results := [.lit (.bool false)], args := [d1, d2] }
  | _ => none }
def RegionAllsWrongFalsely : Prop := regionAllsRow.holds Try.pinned (OpenSpec.ofChange regionAllsWrong)

/-- 'besomlaw12.RegionRows': WHATEVER THE INPUT: true; the input reads as it did. -/
def regionRowsSpec : ChangeSpec := { name := "regionRows", fn := fun _ => fun
  | [d1, d2, d3] => { results := [.lit (.bool true)], args := [d1, d2, d3] }
  | _ => none }
def regionRowsRow : OpenClaim := { program := "ythjbechbioeglaa", sum := "a0d475101300227c6059a47cefa7161353cfc2aecb68447dc4835aec4c472636", func := "besom/besomlaw12.RegionRows", spec := "regionRows", unfollowed := true, recurses := true, apart := false }
def RegionRowsSaid : Prop := regionRowsRow.holds Try.pinned (OpenSpec.ofChange regionRowsSpec)

/-- ITS FALSE NEIGHBOUR: 'it returns false'. Refute it at one input. -/
def regionRowsWrong : ChangeSpec := { name := "regionRows", fn := fun _ => fun
  | [d1, d2, d3] => { results := [.lit (.bool false)], args := [d1, d2, d3] }
  | _ => none }
def RegionRowsWrongFalsely : Prop := regionRowsRow.holds Try.pinned (OpenSpec.ofChange regionRowsWrong)

/- THE SECOND FORM. 'bulk': how many values and letters a reading holds, each counted each time it is reached (what is shared counts as often as it is met; a slice's spare places count too). A statement '..UptoSaid' is the law's where the arguments, and the package variables that the reading takes, are together of bulk at most 1048576: NARROWER than '..Said'. Prove '..Said' where nothing that the law and all that it calls make is longer than what came in: it says more and counts as full. Else prove '..UptoSaid'. A law counts once. -/
mutual
def uptoBulk {H : Type} : DataW H → Nat
  | .lit (.string bytes) => bytes.length + 1
  | .lit _ => 1
  | .nil => 1
  | .ptr d => uptoBulk d + 1
  | .slice elems spare => uptoBulkAll elems + uptoBulkAll spare + 1
  | .agg parts => uptoBulkAll parts + 1
  | .iface _ d => uptoBulk d + 1
  | .map entries => uptoBulkEntries entries + 1
  | .held _ => 1
def uptoBulkAll {H : Type} : List (DataW H) → Nat
  | [] => 0
  | d :: r => uptoBulk d + uptoBulkAll r
def uptoBulkEntries {H : Type} : List (Lit × DataW H) → Nat
  | [] => 0
  | x :: r => uptoBulkEntry x + uptoBulkEntries r
def uptoBulkEntry {H : Type} : Lit × DataW H → Nat
  | (.string bytes, d) => bytes.length + uptoBulk d + 1
  | (_, d) => uptoBulk d + 1
 end
def uptoSmall : (H : Type) → List (DataW H) → Bool := fun _ ds => decide (uptoBulkAll ds ≤ 1048576)
def OpenSpec.upto (s : _root_.Go.ChangeSpec) : _root_.Go.OpenSpec := { _root_.Go.OpenSpec.ofChange s with cond := some uptoSmall }

/-- 'besomlaw12.RegionSums', WHERE WHAT IT READS IS OF BULK AT MOST 1048576: true; the input reads as it did. -/
def regionSumsUptoRow : OpenClaim := { program := "ythjbechbioeglaa", sum := "a0d475101300227c6059a47cefa7161353cfc2aecb68447dc4835aec4c472636", func := "besom/besomlaw12.RegionSums", spec := "regionSums", unfollowed := true, recurses := true, apart := false, narrowed := true }
def RegionSumsUptoSaid : Prop := regionSumsUptoRow.holds Try.pinned (OpenSpec.upto regionSumsSpec)

/-- 'besomlaw12.RegionSame', WHERE WHAT IT READS IS OF BULK AT MOST 1048576: true; the input reads as it did. -/
def regionSameUptoRow : OpenClaim := { program := "ythjbechbioeglaa", sum := "a0d475101300227c6059a47cefa7161353cfc2aecb68447dc4835aec4c472636", func := "besom/besomlaw12.RegionSame", spec := "regionSame", unfollowed := true, recurses := true, apart := false, narrowed := true }
def RegionSameUptoSaid : Prop := regionSameUptoRow.holds Try.pinned (OpenSpec.upto regionSameSpec)

/-- 'besomlaw12.RegionAlls', WHERE WHAT IT READS IS OF BULK AT MOST 1048576: true; the input reads as it did. -/
def regionAllsUptoRow : OpenClaim := { program := "ythjbechbioeglaa", sum := "a0d475101300227c6059a47cefa7161353cfc2aecb68447dc4835aec4c472636", func := "besom/besomlaw12.RegionAlls", spec := "regionAlls", unfollowed := true, recurses := true, apart := false, narrowed := true }
def RegionAllsUptoSaid : Prop := regionAllsUptoRow.holds Try.pinned (OpenSpec.upto regionAllsSpec)

/-- 'besomlaw12.RegionRows', WHERE WHAT IT READS IS OF BULK AT MOST 1048576: true; the input reads as it did. -/
def regionRowsUptoRow : OpenClaim := { program := "ythjbechbioeglaa", sum := "a0d475101300227c6059a47cefa7161353cfc2aecb68447dc4835aec4c472636", func := "besom/besomlaw12.RegionRows", spec := "regionRows", unfollowed := true, recurses := true, apart := false, narrowed := true }
def RegionRowsUptoSaid : Prop := regionRowsUptoRow.holds Try.pinned (OpenSpec.upto regionRowsSpec)

end Rows
end Go.Proofs.Ythjbechbioeglaa
