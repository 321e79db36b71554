/- The steps of a pop, behind the top. -/
import Derived.Test.YteaffpkmidaghaaCc
namespace Go.Proofs.Yteaffpkmidaghaa
open Go.RowKit
set_option linter.unusedVariables false
set_option linter.unusedSimpArgs false

section
variable {w : World} {base g gw gc : Nat} {zs : List Int} {A : Option Addr} {c : Nat} {ts : List Tc} {cl : Cl}

set_option maxHeartbeats 1000000 in
theorem st49_eq (h : At w base g gw zs A c ts) (hl : Lies w gc 58 (cl.cells g)) (hn : ts.length ≤ 1000) (h0 : 0 ≤ cl.who) (h1 : cl.who < 64) (hlen : 4 ≤ zs.length) (hx0 : 0 ≤ cl.top) (hx1 : cl.top < 4398046511104) (hc : cl.place = cl.top % 4096) :
    Calls Try.prog 49 #[.pointer (some ⟨gc, 0, none⟩)] w fun e w' => e = .returned (.tuple #[]) ∧ ∃ t, Dn w w' base gc g gw A (zs.set 0 0) (ts ++ [t]) { cl with nx := 54 } := by
  have d : (cl.place == cl.top % 4096) = true := by simp [hc]
  have T := Lib.hid (cstore_any h hl hn 0 0 h0 h1 (by omega))
  clear h hl hc
  go_enter Try.func49, Try.ntmps49
  go_wp2_with fail
  refine T.out.mono ?_
  rintro e w1 ⟨rfl, t, D⟩
  obtain ⟨c0, c1, c2, c3, c4, c5, c6, fz⟩ := cl_facts D.lies
  have D1 := Lib.hid (D.set (cl' := { cl with nx := 53 }) 2 (.func (.func 53) #[] #[]) rfl)
  clear D T
  go_wp2_with fail
  clear c0 c1 c2 c3 c4 c5 c6 fz
  generalize w1.setCell ⟨gc, 2, none⟩ _ = w2 at *
  obtain ⟨c0, c1, c2, c3, c4, c5, c6, fz⟩ := cl_facts D1.out.lies
  go_quiet ((go_at_call 29; exact quiet_same (placeOf_any cl.top hx0 (by omega) _)))
  go_wp2
  go_end0
  exact ⟨rfl, t, (D1.out.drewN _).set 2 _ rfl⟩

set_option maxHeartbeats 1000000 in
theorem st49 (h : At w base g gw zs A c ts) (hl : Lies w gc 58 (cl.cells g)) (hn : ts.length ≤ 1000) (h0 : 0 ≤ cl.who) (h1 : cl.who < 64) (hlen : 4 ≤ zs.length) (hx0 : 0 ≤ cl.top) (hx1 : cl.top < 4398046511104) (hc : cl.place ≠ cl.top % 4096) :
    Calls Try.prog 49 #[.pointer (some ⟨gc, 0, none⟩)] w fun e w' => e = .returned (.tuple #[]) ∧ ∃ t, Dn w w' base gc g gw A (zs.set 0 0) (ts ++ [t]) { cl with nx := 53 } := by
  have d : (cl.place == cl.top % 4096) = false := by simp [hc]
  have T := Lib.hid (cstore_any h hl hn 0 0 h0 h1 (by omega))
  clear h hl hc
  go_enter Try.func49, Try.ntmps49
  go_wp2_with fail
  refine T.out.mono ?_
  rintro e w1 ⟨rfl, t, D⟩
  obtain ⟨c0, c1, c2, c3, c4, c5, c6, fz⟩ := cl_facts D.lies
  have D1 := Lib.hid (D.set (cl' := { cl with nx := 53 }) 2 (.func (.func 53) #[] #[]) rfl)
  clear D T
  go_wp2_with fail
  clear c0 c1 c2 c3 c4 c5 c6 fz
  generalize w1.setCell ⟨gc, 2, none⟩ _ = w2 at *
  obtain ⟨c0, c1, c2, c3, c4, c5, c6, fz⟩ := cl_facts D1.out.lies
  go_quiet ((go_at_call 29; exact quiet_same (placeOf_any cl.top hx0 (by omega) _)))
  go_wp2
  go_end0
  exact ⟨rfl, t, D1.out.drewN _⟩

set_option maxHeartbeats 1000000 in
theorem st54_hit (h : At w base g gw zs A c ts) (hl : Lies w gc 58 (cl.cells g)) (hn : ts.length ≤ 1000) (h0 : 0 ≤ cl.who) (h1 : cl.who < 64) (hlen : 4 ≤ zs.length) (hx0 : 0 ≤ cl.top) (hx1 : cl.top < 4398046511104) (he : zs.getD 1 0 = cl.top) :
    Calls Try.prog 54 #[.pointer (some ⟨gc, 0, none⟩)] w fun e w' => e = .returned (.tuple #[]) ∧ ∃ t, Dn w w' base gc g gw A (zs.set 1 ((cl.top / 4096 + 1) * 4096)) (ts ++ [t]) { cl with nx := 0 } := by
  have T0 := Lib.hid (freshTop_any hl hx0 hx1)
  have T := Lib.hid (cswap_hit h hl hn ((cl.top / 4096 + 1) * 4096) h0 h1 (by omega) he)
  generalize (cl.top / 4096 + 1) * 4096 = x at *
  clear h hl he
  go_enter Try.func54, Try.ntmps54
  go_wp2_with fail
  refine T0.out.mono ?_
  rintro e w0 ⟨rfl, rfl⟩
  go_wp2_with fail
  refine T.out.mono ?_
  rintro e w1 ⟨rfl, t, D⟩
  obtain ⟨c0, c1, c2, c3, c4, c5, c6, fz⟩ := cl_facts D.lies
  have D1 := Lib.hid D
  clear D T T0
  go_wp2_with fail
  clear c0 c1 c2 c3 c4 c5 c6 fz
  refine (end_any D1.out.lies _).mono ?_
  rintro e w3 ⟨rfl, O, L⟩
  have D2 := Lib.hid (D1.out.only O L)
  clear O L
  go_wp2
  refine bodyPost_ret (results_none rfl _ _ _) rfl ?_
  exact ⟨rfl, t, D2.out⟩

set_option maxHeartbeats 1000000 in
theorem st54_miss (h : At w base g gw zs A c ts) (hl : Lies w gc 58 (cl.cells g)) (hn : ts.length ≤ 1000) (h0 : 0 ≤ cl.who) (h1 : cl.who < 64) (hlen : 4 ≤ zs.length) (hx0 : 0 ≤ cl.top) (hx1 : cl.top < 4398046511104) (he : zs.getD 1 0 ≠ cl.top) :
    Calls Try.prog 54 #[.pointer (some ⟨gc, 0, none⟩)] w fun e w' => e = .returned (.tuple #[]) ∧ ∃ t, Dn w w' base gc g gw A zs (ts ++ [t]) { cl with nx := 53 } := by
  have T0 := Lib.hid (freshTop_any hl hx0 hx1)
  have T := Lib.hid (cswap_miss h hl hn ((cl.top / 4096 + 1) * 4096) h0 h1 (by omega) he)
  generalize (cl.top / 4096 + 1) * 4096 = x at *
  clear h hl he
  go_enter Try.func54, Try.ntmps54
  go_wp2_with fail
  refine T0.out.mono ?_
  rintro e w0 ⟨rfl, rfl⟩
  go_wp2_with fail
  refine T.out.mono ?_
  rintro e w1 ⟨rfl, t, D⟩
  obtain ⟨c0, c1, c2, c3, c4, c5, c6, fz⟩ := cl_facts D.lies
  have D1 := Lib.hid D
  clear D T T0
  go_wp2
  go_end0
  exact ⟨rfl, t, D1.out.set 2 _ rfl⟩

set_option maxHeartbeats 1000000 in
theorem st53 (h : At w base g gw zs A c ts) (hl : Lies w gc 58 (cl.cells g)) (hn : ts.length ≤ 1000) (h0 : 0 ≤ cl.who) (h1 : cl.who < 64) (hlen : 4 ≤ zs.length) (hx0 : 0 ≤ cl.top) (hx1 : cl.top < 4398046511104) :
    Calls Try.prog 53 #[.pointer (some ⟨gc, 0, none⟩)] w fun e w' => e = .returned (.tuple #[]) ∧ ∃ t, Dn w w' base gc g gw A (zs.set 1 ((cl.top / 4096 + 1) * 4096)) (ts ++ [t]) { cl with nx := 0, word := 0, err := 7 } := by
  have T0 := Lib.hid (freshTop_any hl hx0 hx1)
  have T := Lib.hid (cstore_any h hl hn 1 ((cl.top / 4096 + 1) * 4096) h0 h1 (by omega))
  generalize (cl.top / 4096 + 1) * 4096 = x at *
  clear h hl
  go_enter Try.func53, Try.ntmps53
  go_wp2_with fail
  refine T0.out.mono ?_
  rintro e w0 ⟨rfl, rfl⟩
  go_wp2_with fail
  refine T.out.mono ?_
  rintro e w1 ⟨rfl, t, D⟩
  have D1 := Lib.hid D
  clear D T T0
  go_wp2_with fail
  refine (fail_any D1.out.lies 7).mono ?_
  rintro e w3 ⟨rfl, O, L⟩
  have D2 := Lib.hid (D1.out.only O L)
  clear O L
  go_wp2
  go_end0
  exact ⟨rfl, t, D2.out⟩
end
end Go.Proofs.Yteaffpkmidaghaa
