/- The fixed fact that each statement begins with; CellNews. -/
import Derived.Test.YtcabgnfeeimeiaaLog2
namespace Go.Proofs.Ytcabgnfeeimeiaa
open Go.RowKit
set_option linter.unusedVariables false
set_option linter.unusedSimpArgs false

theorem nil_ne (w : World) (g : Nat) : (binOp .eql 24 (.pointer (some ⟨g, 0, none⟩)) (.pointer none)).run Try.prog w = .ok (.bool false) w := by kernel_rfl

theorem Did.low {w w' : World} {base g gw : Nat} {zs zs' : List Int} {A : Option Addr} {c : Nat} {ts ts' : List Tc} (h : At w base g gw zs A c ts) (d : Did w w' base g gw A zs' ts') : Below base w w' := by
  obtain ⟨_, _, _, e, _⟩ := d
  exact h.below e

set_option maxHeartbeats 1000000 in
theorem awake_any (w : World) : Calls Try.prog 9 #[] w fun e w' => e = .returned (.bool true) ∧ Below w.heap.size w w' := by
  have hnil := fun W g => nil_ne W g
  go_enter Try.func9, Try.ntmps9
  go_wp2_with fail
  refine (new_yes 1 w w.heap.size (Nat.le_refl _) (by omega) (by omega)).mono ?_
  rintro e w1 ⟨g, gw, rfl, B1, q1, q2, H1⟩
  have HB1 := Lib.hid B1
  have HH1 := Lib.hid H1
  clear B1 H1
  go_wp2_with fail
  refine (add_yes HH1.out (by simp) 0 0 5 (by omega) (by omega) (by simp) 0 rfl).mono ?_
  rintro e w2 ⟨rfl, D2⟩
  have B2 := HB1.out.trans (D2.low HH1.out)
  obtain ⟨A2, c2, H2, _, _⟩ := D2
  have HB2 := Lib.hid B2
  have HH2 := Lib.hid H2
  clear B2 H2 HB1 HH1
  go_wp2_with fail
  refine (load_yes HH2.out (by simp) 0 0 (by omega) (by omega) (by simp) 5 (by kernel_rfl)).mono ?_
  rintro e w3 ⟨rfl, D3⟩
  have B3 := Lib.hid (HB2.out.trans (D3.low HH2.out))
  clear D3 HB2 HH2
  go_wp2
  go_ret
  exact ⟨rfl, B3.out⟩
end Go.Proofs.Ytcabgnfeeimeiaa
