/-
  No cell of these rows narrows 'for every input' (looked for: loops, veiled, ifaces, maps, wideKeys, modest, calm, conditions, laid).
  DERIVED. THE GIVEN ROWS OF THIS SEAT. 3 by the template 'for every input the law returns true; each argument reads behind the call as it read before'; 0 by the template 'total and deterministic' (their statements: YtpifnhfdbcckjaaTotals.lean).
  GIVEN WITH THE SEED: the statements are not yours to turn. If you find one false, say at which input.
  Laid BY PROGRAM, IN A SANDBOX (cutbox-rows.mjs): the forced cells as the released guide's own fill.sh prints them over the translation 616929f1017a2e1b… (all of the seat's roots in one cut). By AI agents, Wed Nov 11 2026. No macro, syntax, notation, axiom, sorry.
-/
import Derived.Test.YtpifnhfdbcckjaaChecked
import GoSem.Claim
import GoSem.ClaimJoined
import GoSem.ClaimMapViews
import Derived.JoinedTies
import Derived.KernelRfl
namespace Go.Proofs.Ytpifnhfdbcckjaa
/- THE CELL 'sum', in the pinned program and in every row, IS THE sha256 OF THE DUMP (.gsa) THAT YtpifnhfdbcckjaaProg.lean LOADS. Nothing in Lean hashes anything: it is a label: what it is worth is what the hold of that sum in a sandbox is worth. -/
noncomputable def Try.pinned : Pinned := { name := "ytpifnhfdbcckjaa", sum := "616929f1017a2e1bcebea1e3e4c2f769056910b2b593dd08183589585b2cf425", checked := Try.checked }
namespace Rows
def none {H : Type} : Left H := { results := [], args := [] }

/-- 'besomlaw10.OfferPlays': WHATEVER THE INPUT: true; the input reads as it did. -/
def offerPlaysSpec : ChangeSpec := { name := "offerPlays", fn := fun _ => fun
  | [d1, d2] => { results := [.lit (.bool true)], args := [d1, d2] }
  | _ => none }
def offerPlaysRow : OpenClaim := { program := "ytpifnhfdbcckjaa", sum := "616929f1017a2e1bcebea1e3e4c2f769056910b2b593dd08183589585b2cf425", func := "besom/besomlaw10.OfferPlays", spec := "offerPlays", unfollowed := true, recurses := true, apart := false }
def OfferPlaysSaid : Prop := offerPlaysRow.holds Try.pinned (OpenSpec.ofChange offerPlaysSpec)

/-- ITS FALSE NEIGHBOUR: 'it returns false'. Refute it at one input. -/
def offerPlaysWrong : ChangeSpec := { name := "offerPlays", fn := fun _ => fun
  | [d1, d2] => { results := [.lit (.bool false)], args := [d1, d2] }
  | _ => none }
def OfferPlaysWrongFalsely : Prop := offerPlaysRow.holds Try.pinned (OpenSpec.ofChange offerPlaysWrong)

/-- 'besomlaw10.OfferNews': WHATEVER THE INPUT: true; the input reads as it did. -/
def offerNewsSpec : ChangeSpec := { name := "offerNews", fn := fun _ => fun
  | [d1, d2] => { results := [.lit (.bool true)], args := [d1, d2] }
  | _ => none }
def offerNewsRow : OpenClaim := { program := "ytpifnhfdbcckjaa", sum := "616929f1017a2e1bcebea1e3e4c2f769056910b2b593dd08183589585b2cf425", func := "besom/besomlaw10.OfferNews", spec := "offerNews", unfollowed := true, recurses := true, apart := false }
def OfferNewsSaid : Prop := offerNewsRow.holds Try.pinned (OpenSpec.ofChange offerNewsSpec)

/-- ITS FALSE NEIGHBOUR: 'it returns false'. Refute it at one input. -/
def offerNewsWrong : ChangeSpec := { name := "offerNews", fn := fun _ => fun
  | [d1, d2] => { results := [.lit (.bool false)], args := [d1, d2] }
  | _ => none }
def OfferNewsWrongFalsely : Prop := offerNewsRow.holds Try.pinned (OpenSpec.ofChange offerNewsWrong)

/-- 'besomlaw10.OfferWaves': WHATEVER THE INPUT: true; the input reads as it did. -/
def offerWavesSpec : ChangeSpec := { name := "offerWaves", fn := fun _ => fun
  | [d1, d2] => { results := [.lit (.bool true)], args := [d1, d2] }
  | _ => none }
def offerWavesRow : OpenClaim := { program := "ytpifnhfdbcckjaa", sum := "616929f1017a2e1bcebea1e3e4c2f769056910b2b593dd08183589585b2cf425", func := "besom/besomlaw10.OfferWaves", spec := "offerWaves", unfollowed := true, recurses := true, apart := false }
def OfferWavesSaid : Prop := offerWavesRow.holds Try.pinned (OpenSpec.ofChange offerWavesSpec)

/-- ITS FALSE NEIGHBOUR: 'it returns false'. Refute it at one input. -/
def offerWavesWrong : ChangeSpec := { name := "offerWaves", fn := fun _ => fun
  | [d1, d2] => { results := [.lit (.bool false)], args := [d1, d2] }
  | _ => none }
def OfferWavesWrongFalsely : Prop := offerWavesRow.holds Try.pinned (OpenSpec.ofChange offerWavesWrong)

/- THE SECOND FORM. 'bulk': how many values and letters a reading holds, each counted each time it is reached (what is shared counts as often as it is met; a slice's spare places count too). A statement '..UptoSaid' is the law's where the arguments, and the package variables that the reading takes, are together of bulk at most 1048576: NARROWER than '..Said'. Prove '..Said' where nothing that the law and all that it calls make is longer than what came in: it says more and counts as full. Else prove '..UptoSaid'. A law counts once. -/
mutual
def uptoBulk {H : Type} : DataW H → Nat
  | .lit (.string bytes) => bytes.length + 1
  | .lit _ => 1
  | .nil => 1
  | .ptr d => uptoBulk d + 1
  | .slice elems spare => uptoBulkAll elems + uptoBulkAll spare + 1
  | .agg parts => uptoBulkAll parts + 1
  | .iface _ d => uptoBulk d + 1
  | .map entries => uptoBulkEntries entries + 1
  | .held _ => 1
def uptoBulkAll {H : Type} : List (DataW H) → Nat
  | [] => 0
  | d :: r => uptoBulk d + uptoBulkAll r
def uptoBulkEntries {H : Type} : List (Lit × DataW H) → Nat
  | [] => 0
  | x :: r => uptoBulkEntry x + uptoBulkEntries r
def uptoBulkEntry {H : Type} : Lit × DataW H → Nat
  | (.string bytes, d) => bytes.length + uptoBulk d + 1
  | (_, d) => uptoBulk d + 1
 end
def uptoSmall : (H : Type) → List (DataW H) → Bool := fun _ ds => decide (uptoBulkAll ds ≤ 1048576)
def OpenSpec.upto (s : _root_.Go.ChangeSpec) : _root_.Go.OpenSpec := { _root_.Go.OpenSpec.ofChange s with cond := some uptoSmall }

/-- 'besomlaw10.OfferPlays', WHERE WHAT IT READS IS OF BULK AT MOST 1048576: true; the input reads as it did. -/
def offerPlaysUptoRow : OpenClaim := { program := "ytpifnhfdbcckjaa", sum := "616929f1017a2e1bcebea1e3e4c2f769056910b2b593dd08183589585b2cf425", func := "besom/besomlaw10.OfferPlays", spec := "offerPlays", unfollowed := true, recurses := true, apart := false, narrowed := true }
def OfferPlaysUptoSaid : Prop := offerPlaysUptoRow.holds Try.pinned (OpenSpec.upto offerPlaysSpec)

/-- 'besomlaw10.OfferNews', WHERE WHAT IT READS IS OF BULK AT MOST 1048576: true; the input reads as it did. -/
def offerNewsUptoRow : OpenClaim := { program := "ytpifnhfdbcckjaa", sum := "616929f1017a2e1bcebea1e3e4c2f769056910b2b593dd08183589585b2cf425", func := "besom/besomlaw10.OfferNews", spec := "offerNews", unfollowed := true, recurses := true, apart := false, narrowed := true }
def OfferNewsUptoSaid : Prop := offerNewsUptoRow.holds Try.pinned (OpenSpec.upto offerNewsSpec)

/-- 'besomlaw10.OfferWaves', WHERE WHAT IT READS IS OF BULK AT MOST 1048576: true; the input reads as it did. -/
def offerWavesUptoRow : OpenClaim := { program := "ytpifnhfdbcckjaa", sum := "616929f1017a2e1bcebea1e3e4c2f769056910b2b593dd08183589585b2cf425", func := "besom/besomlaw10.OfferWaves", spec := "offerWaves", unfollowed := true, recurses := true, apart := false, narrowed := true }
def OfferWavesUptoSaid : Prop := offerWavesUptoRow.holds Try.pinned (OpenSpec.upto offerWavesSpec)

end Rows
end Go.Proofs.Ytpifnhfdbcckjaa
