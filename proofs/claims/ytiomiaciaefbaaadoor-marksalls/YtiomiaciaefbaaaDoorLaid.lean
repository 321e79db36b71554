/- The table that the library lays, as the statements' rows list it. -/
import Derived.Test.YtiomiaciaefbaaaDoorTz
import Derived.Test.YtiomiaciaefbaaaDoorRows
import Derived.ProofKit
import Derived.LaidMore
import Derived.OpenShut
import Derived.Stop.Joined
namespace Go.Proofs.YtiomiaciaefbaaaDoor
open Go.ChangeShapes Go.WideShapes Go.ChangeAt Go.RowKit
set_option linter.unusedVariables false

def laidV : List (String × DataW Unit) := [("math/bits.deBruijn64tab", Rows.laid_math_bits_deBruijn64tab)]
theorem gTab : Tryd.prog.globalNamed "math/bits.deBruijn64tab" = some 0 := by kernel_rfl
theorem tTab : (Tryd.prog.globals[0]?).map (·.type) = some 52 := by kernel_rfl
theorem laid_eq : (Rows.laid_math_bits_deBruijn64tab : DataW Unit) = .agg (Lib.deBruijn64tab.map fun k => .lit (.int .u8 (k : Nat))) := rfl

/-- The door's own heap meets the condition. -/
theorem door_met (os : Os) (args : Array Value) : laidMetH Tryd.prog laidV ((World.doorLaid Tryd.prog 400 os).forCall (fun _ _ => 0) ⟨#[], args, []⟩).memory :=
  laidMetH_of_parts3 (fuel := 8) (laidMet_of_run' 8 (by kernel_rfl) (by kernel_rfl)) (by kernel_rfl) (by kernel_rfl)

theorem cells5 : Tryd.prog.cellsOf 5 = 1 := by kernel_rfl
theorem cells52 : Tryd.prog.cellsOf 52 = 64 := by kernel_rfl

/-- What the condition gives the walks: the table. -/
theorem of_laid {W : World} (h : laidMetH Tryd.prog laidV W) : Tab W := by
  rw [MakeChecks.laidMetH_plain _ _ _ (by kernel_rfl)] at h
  obtain ⟨ps, ⟨g0, t0, cs0, f0, p0, q0, hg0, ht0, hv0, hd0, _, _⟩, _, _⟩ := h
  obtain rfl := Option.some.inj (gTab.symm.trans hg0)
  obtain rfl := Option.some.inj (tTab.symm.trans ht0)
  obtain ⟨xs, m1, _, hx, hcl, hlen, hel⟩ := DataW.trod_array Tryd.underlying52 hd0
  rw [laid_eq] at hx
  simp only [Prod.mk.injEq, DataW.agg.injEq] at hx
  rw [cells5] at hel
  intro j hj
  have hc := World.var?_cell hg0 hv0 j
  rw [hc]
  have he := hel j hj
  have hxj : xs[j]? = some xs[j] := List.getElem?_eq_getElem (by omega)
  rw [hxj] at he
  obtain ⟨k, e1, e2, _⟩ := DataW.trod_int Tryd.underlying5 he
  have hl : j < Lib.deBruijn64tab.length := hj
  have h1 : Lib.deBruijn64tab[j]? = some (Lib.deBruijn64tab.getD j 0) := by simp [List.getD, hl]
  have h2 := congrArg (fun l : List (DataW Unit) => l[j]?) hx.1
  simp only [List.getElem?_map, h1, hxj, e2, Option.map_some] at h2
  injection h2 with h2
  injection h2 with h2
  injection h2 with _ h2
  have hjl : j < cs0.toList.length := by rw [hcl, cells52]; exact hj
  have h3 : (List.take 1 (List.drop (j * 1) cs0.toList))[0]? = cs0.toList[j]? := by simp
  rw [e1] at h3
  rw [h2]
  simpa using h3.symm
end Go.Proofs.YtiomiaciaefbaaaDoor
