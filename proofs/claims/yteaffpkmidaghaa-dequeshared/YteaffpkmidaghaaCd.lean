/- The steps of a pop, up to the top. -/
import Derived.Test.YteaffpkmidaghaaCc
namespace Go.Proofs.Yteaffpkmidaghaa
open Go.RowKit
set_option linter.unusedVariables false
set_option linter.unusedSimpArgs false

section
variable {w : World} {base g gw gc : Nat} {zs : List Int} {A : Option Addr} {c : Nat} {ts : List Tc} {cl : Cl}

set_option maxHeartbeats 1000000 in
theorem st26_no (h : At w base g gw zs A c ts) (hl : Lies w gc 58 (cl.cells g)) (hn : ts.length ≤ 1000) (h0 : 0 ≤ cl.who) (h1 : cl.who < 64) (hlen : 4 ≤ zs.length) (hb : zs.getD 0 0 = 0) :
    Calls Try.prog 26 #[.pointer (some ⟨gc, 0, none⟩)] w fun e w' => e = .returned (.tuple #[]) ∧ ∃ t, Dn w w' base gc g gw A zs (ts ++ [t]) { cl with nx := 0, word := 0, err := 7 } := by
  have T := Lib.hid (cload_any h hl hn 0 h0 h1 (by omega))
  rw [hb] at T
  clear h hl hb
  go_enter Try.func26, Try.ntmps26
  go_wp2_with fail
  refine T.out.mono ?_
  rintro e w1 ⟨rfl, t, D⟩
  have D1 := Lib.hid D
  clear D T
  go_wp2_with fail
  refine (fail_any D1.out.lies 7).mono ?_
  rintro e w3 ⟨rfl, O, L⟩
  have D2 := Lib.hid (D1.out.only O L)
  clear O L
  go_wp2
  refine bodyPost_ret (results_none rfl _ _ _) rfl ?_
  exact ⟨rfl, t, D2.out⟩

set_option maxHeartbeats 1000000 in
theorem st26 (h : At w base g gw zs A c ts) (hl : Lies w gc 58 (cl.cells g)) (hn : ts.length ≤ 1000) (h0 : 0 ≤ cl.who) (h1 : cl.who < 64) (hlen : 4 ≤ zs.length) (b : Int) (hb : zs.getD 0 0 = b) (hb1 : 0 < b) (hb2 : b ≤ 1024) :
    Calls Try.prog 26 #[.pointer (some ⟨gc, 0, none⟩)] w fun e w' => e = .returned (.tuple #[]) ∧ ∃ t, Dn w w' base gc g gw A zs (ts ++ [t]) { cl with nx := 34, place := b - 1 } := by
  have T := Lib.hid (cload_any h hl hn 0 h0 h1 (by omega))
  rw [hb] at T
  have d : (b == 0) = false := by simp; omega
  clear h hl hb
  go_enter Try.func26, Try.ntmps26
  go_wp2_with fail
  refine T.out.mono ?_
  rintro e w1 ⟨rfl, t, D⟩
  obtain ⟨c0, c1, c2, c3, c4, c5, c6, fz⟩ := cl_facts D.lies
  have D1 := Lib.hid (D.set (cl' := { cl with place := b - 1 }) 3 (.int .i64 (b - 1)) rfl)
  clear D T
  go_wp2
  go_end0
  exact ⟨rfl, t, D1.out.set 2 _ rfl⟩

set_option maxHeartbeats 1000000 in
theorem st34 (h : At w base g gw zs A c ts) (hl : Lies w gc 58 (cl.cells g)) (hn : ts.length ≤ 1000) (h0 : 0 ≤ cl.who) (h1 : cl.who < 64) (hlen : 4 ≤ zs.length)  :
    Calls Try.prog 34 #[.pointer (some ⟨gc, 0, none⟩)] w fun e w' => e = .returned (.tuple #[]) ∧ ∃ t, Dn w w' base gc g gw A (zs.set 0 cl.place) (ts ++ [t]) { cl with nx := 39 } := by
  have T := Lib.hid (cstore_any h hl hn 0 cl.place h0 h1 (by omega))
  obtain ⟨c0, c1, c2, c3, c4, c5, c6, fz⟩ := cl_facts hl
  clear h hl
  go_enter Try.func34, Try.ntmps34
  go_wp2_with fail
  refine T.out.mono ?_
  rintro e w1 ⟨rfl, t, D⟩
  clear c0 c1 c2 c3 c4 c5 c6 fz
  obtain ⟨c0, c1, c2, c3, c4, c5, c6, fz⟩ := cl_facts D.lies
  have D1 := Lib.hid D
  clear D T
  go_wp2
  go_end0
  exact ⟨rfl, t, D1.out.set 2 _ rfl⟩

set_option maxHeartbeats 1000000 in
theorem st39 (h : At w base g gw zs A c ts) (hl : Lies w gc 58 (cl.cells g)) (hn : ts.length ≤ 1000) (h0 : 0 ≤ cl.who) (h1 : cl.who < 64) (hlen : 4 ≤ zs.length) (p : Nat) (hp : cl.place = p) (hp2 : p + 2 < zs.length) :
    Calls Try.prog 39 #[.pointer (some ⟨gc, 0, none⟩)] w fun e w' => e = .returned (.tuple #[]) ∧ ∃ t, Dn w w' base gc g gw A zs (ts ++ [t]) { cl with nx := 45, word := zs.getD (p + 2) 0 } := by
  have T := Lib.hid (cload_any h hl hn (p + 2) h0 h1 hp2)
  have hm := h.most
  have e2 : ((p + 2 : Nat) : Int) = 2 + (p : Int) := by omega
  rw [e2] at T
  generalize zs.getD (p + 2) 0 = x at *
  obtain ⟨c0, c1, c2, c3, c4, c5, c6, fz⟩ := cl_facts hl
  rw [hp] at c3
  clear h hl
  go_enter Try.func39, Try.ntmps39
  go_wp2_with fail
  refine T.out.mono ?_
  rintro e w1 ⟨rfl, t, D⟩
  clear c0 c1 c2 c3 c4 c5 c6 fz
  obtain ⟨c0, c1, c2, c3, c4, c5, c6, fz⟩ := cl_facts D.lies
  have D1 := Lib.hid (D.set (cl' := { cl with word := x }) 5 (.int .i64 x) rfl)
  clear D T
  go_wp2
  go_end0
  exact ⟨rfl, t, D1.out.set 2 _ rfl⟩

set_option maxHeartbeats 1000000 in
theorem st45_take (h : At w base g gw zs A c ts) (hl : Lies w gc 58 (cl.cells g)) (hn : ts.length ≤ 1000) (h0 : 0 ≤ cl.who) (h1 : cl.who < 64) (hlen : 4 ≤ zs.length) (x : Int) (hb : zs.getD 1 0 = x) (hx0 : 0 ≤ x) (hx1 : x < 4398046511104) (hc : x % 4096 < cl.place) :
    Calls Try.prog 45 #[.pointer (some ⟨gc, 0, none⟩)] w fun e w' => e = .returned (.tuple #[]) ∧ ∃ t, Dn w w' base gc g gw A zs (ts ++ [t]) { cl with nx := 0, top := x } := by
  have d : decide (x % 4096 < cl.place) = true := by simp; omega
  have T := Lib.hid (cload_any h hl hn 1 h0 h1 (by omega))
  rw [hb] at T
  clear h hl hb hc
  go_enter Try.func45, Try.ntmps45
  go_wp2_with fail
  refine T.out.mono ?_
  rintro e w1 ⟨rfl, t, D⟩
  obtain ⟨c0, c1, c2, c3, c4, c5, c6, fz⟩ := cl_facts D.lies
  have D1 := Lib.hid (D.set (cl' := { cl with top := x }) 4 (.int .i64 x) rfl)
  clear D T
  go_wp2_with fail
  clear c0 c1 c2 c3 c4 c5 c6 fz
  generalize w1.setCell ⟨gc, 4, none⟩ (.int .i64 x) = w2 at *
  obtain ⟨c0, c1, c2, c3, c4, c5, c6, fz⟩ := cl_facts D1.out.lies
  go_quiet ((go_at_call 29; exact quiet_same (placeOf_any x hx0 (by omega) _)))
  go_wp2_with fail
  refine (end_any (D1.out.drewN _).lies _).mono ?_
  rintro e w3 ⟨rfl, O, L⟩
  have D2 := Lib.hid ((D1.out.drewN _).only O L)
  clear O L c0 c1 c2 c3 c4 c5 c6 fz
  go_wp2
  refine bodyPost_ret (results_none rfl _ _ _) rfl ?_
  exact ⟨rfl, t, D2.out⟩

set_option maxHeartbeats 1000000 in
theorem st45 (h : At w base g gw zs A c ts) (hl : Lies w gc 58 (cl.cells g)) (hn : ts.length ≤ 1000) (h0 : 0 ≤ cl.who) (h1 : cl.who < 64) (hlen : 4 ≤ zs.length) (x : Int) (hb : zs.getD 1 0 = x) (hx0 : 0 ≤ x) (hx1 : x < 4398046511104) (hc : cl.place ≤ x % 4096) :
    Calls Try.prog 45 #[.pointer (some ⟨gc, 0, none⟩)] w fun e w' => e = .returned (.tuple #[]) ∧ ∃ t, Dn w w' base gc g gw A zs (ts ++ [t]) { cl with nx := 49, top := x } := by
  have d : decide (x % 4096 < cl.place) = false := by simp; omega
  have T := Lib.hid (cload_any h hl hn 1 h0 h1 (by omega))
  rw [hb] at T
  clear h hl hb hc
  go_enter Try.func45, Try.ntmps45
  go_wp2_with fail
  refine T.out.mono ?_
  rintro e w1 ⟨rfl, t, D⟩
  obtain ⟨c0, c1, c2, c3, c4, c5, c6, fz⟩ := cl_facts D.lies
  have D1 := Lib.hid (D.set (cl' := { cl with top := x }) 4 (.int .i64 x) rfl)
  clear D T
  go_wp2_with fail
  clear c0 c1 c2 c3 c4 c5 c6 fz
  generalize w1.setCell ⟨gc, 4, none⟩ (.int .i64 x) = w2 at *
  obtain ⟨c0, c1, c2, c3, c4, c5, c6, fz⟩ := cl_facts D1.out.lies
  go_quiet ((go_at_call 29; exact quiet_same (placeOf_any x hx0 (by omega) _)))
  go_wp2
  go_end0
  exact ⟨rfl, t, (D1.out.drewN _).set 2 _ rfl⟩
end
end Go.Proofs.Yteaffpkmidaghaa
