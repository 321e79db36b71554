/- Over of an offer: a region that draws its order, beside a call that makes memory. -/
import Derived.Test.YtpifnhfdbcckjaaOf
namespace Go.Proofs.Ytpifnhfdbcckjaa
open Go.RowKit
set_option linter.unusedVariables false
set_option linter.unusedSimpArgs false
section
variable {w w' w2 : World} {base o q g gw : Nat} {ids : List Bool} {k : Int} {A : Option Addr} {c : Nat} {ts : List Tc} {S : Nat → Prop}

set_option maxHeartbeats 4000000 in
/-- Over: whether the count that the cell holds is the number of workers. -/
theorem over_any (h : Oq w base o ids k ts S) (b : Bool) (he : (k == (ids.length : Int)) = b) :
    Calls Try.prog 11 #[.pointer (some ⟨o, 0, none⟩)] w fun e w' => e = .returned (.bool b) ∧ Below w.heap.size w w' := by
  obtain ⟨q, g, gw, A, c, R1, h2⟩ := h
  have HO := Lib.hid R1.own
  have hlt := R1.own.lt
  have T := Lib.hid (words_q R1.at_)
  have T2 := Lib.hid (words_q (R1.at_.kept (Below.refl w.heap.size w).drew))
  have N : ∀ W : World, Lies W o 46 [.slice (some ⟨q, 0, none⟩) ids.length ids.length, .pointer (some ⟨g, 0, none⟩)] → W.cell? ⟨o, 1, none⟩ = some (.pointer (some ⟨g, 0, none⟩)) ∧ W.cell? ⟨o, 0, none⟩ = some (.slice (some ⟨q, 0, none⟩) ids.length ids.length) := fun W H => ⟨H.cell 1, H.cell 0⟩
  have c1 : w.cell? ⟨o, 1, none⟩ = some (.pointer (some ⟨g, 0, none⟩)) := (N _ R1.own).1
  have c0 : w.cell? ⟨o, 0, none⟩ = some (.slice (some ⟨q, 0, none⟩) ids.length ids.length) := (N _ R1.own).2
  have HN := Lib.hid N
  clear R1 h2 N
  go_enter Try.func11, Try.ntmps11
  go_wp2_with fail
  go_region_with ((with_reducible refine T2.out.mono ?_); rintro e w3 ⟨q3, rfl, hq3, hL3, hb3⟩; have L3 := HO.out.drew.below hb3 hlt; have x0 : w3.cell? ⟨q3, 0, none⟩ = some (.int .i64 k) := hL3.cell 0; have y0 := (HN.out _ L3).2; have y1 := (HN.out _ L3).1; have B3 := Lib.hid (show Below w.heap.size w w3 from (Below.refl w.heap.size w).drew.trans hb3); clear hb3 hL3 L3)
  all_goals (
    go_wp2
    go_ret
    exact ⟨rfl, B3.out⟩)
end
end Go.Proofs.Ytpifnhfdbcckjaa
