/- The first step: the lock. -/
import Derived.Test.YtcnpbdboeaaajaaCb
namespace Go.Proofs.Ytcnpbdboeaaajaa
open Go.RowKit
set_option linter.unusedVariables false
set_option linter.unusedSimpArgs false

section
variable {w : World} {base g gw gc : Nat} {zs : List Int} {A : Option Addr} {c : Nat} {ts : List Tc} {cl : Cl}
set_option maxHeartbeats 2000000 in
theorem st27 (h : At w base g gw zs A c ts) (hl : Lies w gc 62 (cl.cells g)) (hn : ts.length ≤ 30000) (h0 : 0 ≤ cl.who) (h1 : cl.who < 64) (h3 : 0 < zs.length) (he : zs.getD 0 0 = 0) :
    Calls Try.prog 27 #[.pointer (some ⟨gc, 0, none⟩)] w fun e w' => e = .returned (.tuple #[]) ∧ ∃ t, Dn w w' base gc g gw A (zs.set 0 (cl.who + 1)) (ts ++ [t]) { cl with nx := 34 } := by
  have c0 := hl.cell 0
  have c1 := hl.cell 1
  simp only [Cl.cells, List.getElem?_cons_succ, List.getElem?_cons_zero] at c0 c1
  have T := Lib.hid ((swap_hit (h.kept (drew_below w)) hn cl.who 0 0 (cl.who + 1) h0 h1 h3 _ rfl he).mono fun e w' ⟨he, hd⟩ => (⟨he, _, (hd.after (Else.of_below (drew_below w))).dn h hl⟩ : e = Ending.returned (.int .i64 0) ∧ ∃ t, Dn w w' base gc g gw A (zs.set 0 (cl.who + 1)) (ts ++ [t]) cl))
  clear h hl he
  go_enter Try.func27, Try.ntmps27
  go_wp2_with fail
  go_still_tail 13, (by kernel_rfl)
  change wpList _ _ _ _ _ w.drew
  go_wp2_with fail
  refine T.out.mono ?_
  rintro e w1 ⟨rfl, D⟩
  have HD := Lib.hid D
  clear D c0 c1
  obtain ⟨t, D⟩ := HD.out
  obtain ⟨c0, c1, c2, c3, c4, c5, c6, fz⟩ := cl_facts D.lies
  have D1 := Lib.hid D
  clear D
  go_wp2
  go_end0
  exact ⟨rfl, t, D1.out.set 2 _ rfl⟩
set_option maxHeartbeats 2000000 in
theorem st27_miss (h : At w base g gw zs A c ts) (hl : Lies w gc 62 (cl.cells g)) (hn : ts.length ≤ 30000) (h0 : 0 ≤ cl.who) (h1 : cl.who < 64) (h3 : 0 < zs.length) (he : zs.getD 0 0 ≠ 0) :
    Calls Try.prog 27 #[.pointer (some ⟨gc, 0, none⟩)] w fun e w' => e = .returned (.tuple #[]) ∧ ∃ t, Dn w w' base gc g gw A zs (ts ++ [t]) cl := by
  have c0 := hl.cell 0
  have c1 := hl.cell 1
  simp only [Cl.cells, List.getElem?_cons_succ, List.getElem?_cons_zero] at c0 c1
  have T := Lib.hid ((swap_miss (h.kept (drew_below w)) hn cl.who 0 0 (cl.who + 1) h0 h1 h3 _ rfl he).mono fun e w' ⟨he, hd⟩ => (⟨he, _, ((set_same_at zs 0 h3 ▸ hd).after (Else.of_below (drew_below w))).dn h hl⟩ : e = Ending.returned (.int .i64 8) ∧ ∃ t, Dn w w' base gc g gw A zs (ts ++ [t]) cl))
  clear h hl he
  go_enter Try.func27, Try.ntmps27
  go_wp2_with fail
  go_still_tail 13, (by kernel_rfl)
  change wpList _ _ _ _ _ w.drew
  go_wp2_with fail
  refine T.out.mono ?_
  rintro e w1 ⟨rfl, D⟩
  have HD := Lib.hid D
  clear D c0 c1
  go_wp2
  go_end0
  exact ⟨rfl, HD.out⟩
end
end Go.Proofs.Ytcnpbdboeaaajaa
