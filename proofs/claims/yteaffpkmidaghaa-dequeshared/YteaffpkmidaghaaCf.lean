/- The steps of a steal. -/
import Derived.Test.YteaffpkmidaghaaCc
namespace Go.Proofs.Yteaffpkmidaghaa
open Go.RowKit
set_option linter.unusedVariables false
set_option linter.unusedSimpArgs false

section
variable {w : World} {base g gw gc : Nat} {zs : List Int} {A : Option Addr} {c : Nat} {ts : List Tc} {cl : Cl}

set_option maxHeartbeats 1000000 in
theorem st27 (h : At w base g gw zs A c ts) (hl : Lies w gc 58 (cl.cells g)) (hn : ts.length ≤ 1000) (h0 : 0 ≤ cl.who) (h1 : cl.who < 64) (hlen : 4 ≤ zs.length) (x : Int) (hb : zs.getD 1 0 = x) (hx0 : 0 ≤ x) (hx1 : x < 4398046511104) :
    Calls Try.prog 27 #[.pointer (some ⟨gc, 0, none⟩)] w fun e w' => e = .returned (.tuple #[]) ∧ ∃ t, Dn w w' base gc g gw A zs (ts ++ [t]) { cl with nx := 35, top := x, place := x % 4096 } := by
  have T := Lib.hid (cload_any h hl hn 1 h0 h1 (by omega))
  rw [hb] at T
  clear h hl hb
  go_enter Try.func27, Try.ntmps27
  go_wp2_with fail
  refine T.out.mono ?_
  rintro e w1 ⟨rfl, t, D⟩
  obtain ⟨c0, c1, c2, c3, c4, c5, c6, fz⟩ := cl_facts D.lies
  have D1 := Lib.hid (D.set (cl' := { cl with top := x }) 4 (.int .i64 x) rfl)
  clear D T
  go_wp2_with fail
  clear c0 c1 c2 c3 c4 c5 c6 fz
  generalize w1.setCell ⟨gc, 4, none⟩ (.int .i64 x) = w2 at *
  obtain ⟨c0, c1, c2, c3, c4, c5, c6, fz⟩ := cl_facts D1.out.lies
  refine (placeOf_any x hx0 (by omega) _).mono ?_
  rintro e w3 ⟨rfl, rfl⟩
  go_wp2
  go_end0
  exact ⟨rfl, t, (D1.out.set (cl' := { cl with top := x, place := x % 4096 }) 3 _ rfl).set 2 _ rfl⟩

set_option maxHeartbeats 1000000 in
theorem st35_empty (h : At w base g gw zs A c ts) (hl : Lies w gc 58 (cl.cells g)) (hn : ts.length ≤ 1000) (h0 : 0 ≤ cl.who) (h1 : cl.who < 64) (hlen : 4 ≤ zs.length) (b : Int) (hb : zs.getD 0 0 = b) (hc : b ≤ cl.place) :
    Calls Try.prog 35 #[.pointer (some ⟨gc, 0, none⟩)] w fun e w' => e = .returned (.tuple #[]) ∧ ∃ t, Dn w w' base gc g gw A zs (ts ++ [t]) { cl with nx := 0, word := 0, err := 7 } := by
  have d : decide (b ≤ cl.place) = true := by simp; omega
  have T := Lib.hid (cload_any (h.kept (drew_below w)) (hl.kept (drew_below w)) hn 0 h0 h1 (by omega))
  have E := drew_below w
  rw [hb] at T
  obtain ⟨c0, c1, c2, c3, c4, c5, c6, fz⟩ := cl_facts hl
  clear h hl hb hc
  go_enter Try.func35, Try.ntmps35
  go_wp2_with fail
  go_region_with (
    refine T.out.mono ?_
    rintro e w1 ⟨rfl, t, D⟩
    have D1 := Lib.hid (Dn.before E D)
    obtain ⟨a0, a1, a2, a3, a4, a5, a6, af⟩ := cl_facts D.lies
    clear D)
  all_goals go_wp2_with fail
  all_goals
    refine (fail_any D1.out.lies 7).mono ?_
    rintro e w3 ⟨rfl, O, L⟩
    have D2 := Lib.hid (D1.out.only O L)
    clear O L a0 a1 a2 a3 a4 a5 a6 af
    go_wp2
    refine bodyPost_ret (results_none rfl _ _ _) rfl ?_
    exact ⟨rfl, t, D2.out⟩

set_option maxHeartbeats 1000000 in
theorem st35 (h : At w base g gw zs A c ts) (hl : Lies w gc 58 (cl.cells g)) (hn : ts.length ≤ 1000) (h0 : 0 ≤ cl.who) (h1 : cl.who < 64) (hlen : 4 ≤ zs.length) (b : Int) (hb : zs.getD 0 0 = b) (hc : cl.place < b) :
    Calls Try.prog 35 #[.pointer (some ⟨gc, 0, none⟩)] w fun e w' => e = .returned (.tuple #[]) ∧ ∃ t, Dn w w' base gc g gw A zs (ts ++ [t]) { cl with nx := 40 } := by
  have d : decide (b ≤ cl.place) = false := by simp; omega
  have T := Lib.hid (cload_any (h.kept (drew_below w)) (hl.kept (drew_below w)) hn 0 h0 h1 (by omega))
  have E := drew_below w
  rw [hb] at T
  obtain ⟨c0, c1, c2, c3, c4, c5, c6, fz⟩ := cl_facts hl
  clear h hl hb hc
  go_enter Try.func35, Try.ntmps35
  go_wp2_with fail
  go_region_with (
    refine T.out.mono ?_
    rintro e w1 ⟨rfl, t, D⟩
    have D1 := Lib.hid (Dn.before E D)
    obtain ⟨a0, a1, a2, a3, a4, a5, a6, af⟩ := cl_facts D.lies
    clear D)
  all_goals go_wp2
  all_goals go_end0
  all_goals exact ⟨rfl, t, D1.out.set 2 _ rfl⟩

set_option maxHeartbeats 1000000 in
theorem st40 (h : At w base g gw zs A c ts) (hl : Lies w gc 58 (cl.cells g)) (hn : ts.length ≤ 1000) (h0 : 0 ≤ cl.who) (h1 : cl.who < 64) (hlen : 4 ≤ zs.length) (p : Nat) (hp : cl.place = p) (hp2 : p + 2 < zs.length) :
    Calls Try.prog 40 #[.pointer (some ⟨gc, 0, none⟩)] w fun e w' => e = .returned (.tuple #[]) ∧ ∃ t, Dn w w' base gc g gw A zs (ts ++ [t]) { cl with nx := 46, word := zs.getD (p + 2) 0 } := by
  have T := Lib.hid (cload_any h hl hn (p + 2) h0 h1 hp2)
  have hm := h.most
  have e2 : ((p + 2 : Nat) : Int) = 2 + (p : Int) := by omega
  rw [e2] at T
  generalize zs.getD (p + 2) 0 = x at *
  obtain ⟨c0, c1, c2, c3, c4, c5, c6, fz⟩ := cl_facts hl
  rw [hp] at c3
  clear h hl
  go_enter Try.func40, Try.ntmps40
  go_wp2_with fail
  refine T.out.mono ?_
  rintro e w1 ⟨rfl, t, D⟩
  clear c0 c1 c2 c3 c4 c5 c6 fz
  obtain ⟨c0, c1, c2, c3, c4, c5, c6, fz⟩ := cl_facts D.lies
  have D1 := Lib.hid (D.set (cl' := { cl with word := x }) 5 (.int .i64 x) rfl)
  clear D T
  go_wp2
  go_end0
  exact ⟨rfl, t, D1.out.set 2 _ rfl⟩

set_option maxHeartbeats 1000000 in
theorem st46_hit (h : At w base g gw zs A c ts) (hl : Lies w gc 58 (cl.cells g)) (hn : ts.length ≤ 1000) (h0 : 0 ≤ cl.who) (h1 : cl.who < 64) (hlen : 4 ≤ zs.length) (hx0 : 0 ≤ cl.top) (hx1 : cl.top < 4398046511104) (hp0 : 0 ≤ cl.place) (hp1 : cl.place ≤ 4096) (he : zs.getD 1 0 = cl.top) :
    Calls Try.prog 46 #[.pointer (some ⟨gc, 0, none⟩)] w fun e w' => e = .returned (.tuple #[]) ∧ ∃ t, Dn w w' base gc g gw A (zs.set 1 (cl.place + 1 + cl.top / 4096 * 4096)) (ts ++ [t]) { cl with nx := 0 } := by
  have T0 := Lib.hid (tagOf_any cl.top hx0 (by omega))
  have T1 := Lib.hid (topWord_any (cl.place + 1) (cl.top / 4096) (by omega) (by omega) (by omega) (by omega))
  have T := Lib.hid (fun k => (cswap_hit (h.kept (below_drewN w k)) (hl.kept (below_drewN w k)) hn (cl.place + 1 + cl.top / 4096 * 4096) h0 h1 (by omega) he).mono fun e w' ⟨he, t, d⟩ => (⟨he, t, Dn.before (below_drewN w k) d⟩ : e = Ending.returned (.bool true) ∧ ∃ t, Dn w w' base gc g gw A (zs.set 1 (cl.place + 1 + cl.top / 4096 * 4096)) (ts ++ [t]) cl))
  have hw : IntKind.i64.wrap (cl.place + 1) = cl.place + 1 := IntWalk.i64_in _ (by omega)
  generalize cl.place + 1 + cl.top / 4096 * 4096 = x at *
  generalize cl.top / 4096 = y at *
  obtain ⟨c0, c1, c2, c3, c4, c5, c6, fz⟩ := cl_facts hl
  clear h hl he
  go_enter Try.func46, Try.ntmps46
  go_wp2_with fail
  go_still_tail 12, (by kernel_rfl)
  still_call ((T0.out _).mono fun e w' h => ⟨h.1, h.2.symm⟩)
  still_call ((T1.out _).mono fun e w' h => ⟨h.1, h.2.symm⟩)
  repeat still_step
  refine wpStill_nil ?_
  change wpList _ _ _ _ _ w.drew
  go_wp2_with fail
  refine (T.out 1).mono ?_
  rintro e w1 ⟨rfl, t, D⟩
  have D1 := Lib.hid D
  clear c0 c1 c2 c3 c4 c5 c6 fz
  obtain ⟨a0, a1, a2, a3, a4, a5, a6, af⟩ := cl_facts D.lies
  clear D
  all_goals go_wp2_with fail
  all_goals
    refine (end_any D1.out.lies _).mono ?_
    rintro e w3 ⟨rfl, O, L⟩
    have D2 := Lib.hid (D1.out.only O L)
    clear O L a0 a1 a2 a3 a4 a5 a6 af
    go_wp2
    go_end0
    exact ⟨rfl, t, D2.out⟩

set_option maxHeartbeats 1000000 in
theorem st46_miss (h : At w base g gw zs A c ts) (hl : Lies w gc 58 (cl.cells g)) (hn : ts.length ≤ 1000) (h0 : 0 ≤ cl.who) (h1 : cl.who < 64) (hlen : 4 ≤ zs.length) (hx0 : 0 ≤ cl.top) (hx1 : cl.top < 4398046511104) (hp0 : 0 ≤ cl.place) (hp1 : cl.place ≤ 4096) (he : zs.getD 1 0 ≠ cl.top) :
    Calls Try.prog 46 #[.pointer (some ⟨gc, 0, none⟩)] w fun e w' => e = .returned (.tuple #[]) ∧ ∃ t, Dn w w' base gc g gw A zs (ts ++ [t]) { cl with nx := 0, word := 0, err := 8 } := by
  have T0 := Lib.hid (tagOf_any cl.top hx0 (by omega))
  have T1 := Lib.hid (topWord_any (cl.place + 1) (cl.top / 4096) (by omega) (by omega) (by omega) (by omega))
  have T := Lib.hid (fun k => (cswap_miss (h.kept (below_drewN w k)) (hl.kept (below_drewN w k)) hn (cl.place + 1 + cl.top / 4096 * 4096) h0 h1 (by omega) he).mono fun e w' ⟨he, t, d⟩ => (⟨he, t, Dn.before (below_drewN w k) d⟩ : e = Ending.returned (.bool false) ∧ ∃ t, Dn w w' base gc g gw A zs (ts ++ [t]) cl))
  have hw : IntKind.i64.wrap (cl.place + 1) = cl.place + 1 := IntWalk.i64_in _ (by omega)
  generalize cl.place + 1 + cl.top / 4096 * 4096 = x at *
  generalize cl.top / 4096 = y at *
  obtain ⟨c0, c1, c2, c3, c4, c5, c6, fz⟩ := cl_facts hl
  clear h hl he
  go_enter Try.func46, Try.ntmps46
  go_wp2_with fail
  go_still_tail 12, (by kernel_rfl)
  still_call ((T0.out _).mono fun e w' h => ⟨h.1, h.2.symm⟩)
  still_call ((T1.out _).mono fun e w' h => ⟨h.1, h.2.symm⟩)
  repeat still_step
  refine wpStill_nil ?_
  change wpList _ _ _ _ _ w.drew
  go_wp2_with fail
  refine (T.out 1).mono ?_
  rintro e w1 ⟨rfl, t, D⟩
  have D1 := Lib.hid D
  clear c0 c1 c2 c3 c4 c5 c6 fz
  obtain ⟨a0, a1, a2, a3, a4, a5, a6, af⟩ := cl_facts D.lies
  clear D
  all_goals go_wp2_with fail
  all_goals
    refine (fail_any D1.out.lies 8).mono ?_
    rintro e w3 ⟨rfl, O, L⟩
    have D2 := Lib.hid (D1.out.only O L)
    clear O L a0 a1 a2 a3 a4 a5 a6 af
    go_wp2
    refine bodyPost_ret (results_none rfl _ _ _) rfl ?_
    exact ⟨rfl, t, D2.out⟩
end
end Go.Proofs.Yteaffpkmidaghaa
