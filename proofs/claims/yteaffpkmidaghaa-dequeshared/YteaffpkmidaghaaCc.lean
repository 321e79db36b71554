/- The steps of a push. -/
import Derived.Test.YteaffpkmidaghaaCb
import Derived.StillTailTactics
namespace Go.Proofs.Yteaffpkmidaghaa
open Go.RowKit
set_option linter.unusedVariables false
set_option linter.unusedSimpArgs false

theorem cl_facts {w : World} {g gc : Nat} {cl : Cl} (h : Lies w gc 58 (cl.cells g)) :
    w.cell? ⟨gc, 0, none⟩ = some (.pointer (some ⟨g, 0, none⟩)) ∧ w.cell? ⟨gc, 1, none⟩ = some (.int .i64 cl.who) ∧ w.cell? ⟨gc, 2, none⟩ = some (nextV cl.nx) ∧
    w.cell? ⟨gc, 3, none⟩ = some (.int .i64 cl.place) ∧ w.cell? ⟨gc, 4, none⟩ = some (.int .i64 cl.top) ∧ w.cell? ⟨gc, 5, none⟩ = some (.int .i64 cl.word) ∧ w.cell? ⟨gc, 6, none⟩ = some (.int .i64 cl.err) ∧
    ∀ i, w.frozen? ⟨gc, i, none⟩ = false :=
  ⟨h.cell 0, h.cell 1, h.cell 2, h.cell 3, h.cell 4, h.cell 5, h.cell 6, h.frozen⟩
theorem quiet_same {P : Program} {f : FuncId} {args : Array Value} {w : World} {n : Nat} {v : Value}
    (h : Calls P f args (w.drewN n) fun e w' => e = .returned v ∧ w.drewN n = w') : Calls P f args (w.drewN n) fun e w'' => e = .returned v ∧ ∃ m, w'' = w.drewN m :=
  h.mono fun _ _ ⟨he, hm⟩ => ⟨he, n, hm.symm⟩
theorem below_drewN (w : World) (k : Nat) : Below w.heap.size w (w.drewN k) := by
  refine ⟨rfl, ?_, rfl, Nat.le_refl _, fun _ _ => rfl⟩
  rfl
theorem Dn.drewN {w w1 : World} {base g gw gc : Nat} {zs : List Int} {A : Option Addr} {ts : List Tc} {cl : Cl} (d : Dn w w1 base gc g gw A zs ts cl) (k : Nat) : Dn w (w1.drewN k) base gc g gw A zs ts cl :=
  d.only (Only.of_below (below_drewN w1 k)) (d.lies.kept (below_drewN w1 k))

theorem Dn.before {w w0 w1 : World} {base g gw gc : Nat} {zs : List Int} {A : Option Addr} {ts : List Tc} {cl : Cl} (b : Below w.heap.size w w0) (d : Dn w0 w1 base gc g gw A zs ts cl) : Dn w w1 base gc g gw A zs ts cl := by
  obtain ⟨A', c', h1, h2, h3, h4⟩ := d
  refine ⟨A', c', h1, h2, ⟨h3.os.trans b.os, h3.tape.trans b.tape, h3.output.trans b.output, Nat.le_trans b.size h3.size, fun k hk e0 e1 e2 e3 => (h3.block k (Nat.lt_of_lt_of_le hk b.size) e0 e1 e2 e3).trans (b.block k hk)⟩, ?_⟩
  rcases h4 with e | ⟨k, e, hk⟩
  · exact Or.inl e
  · exact Or.inr ⟨k, e, Nat.le_trans b.size hk⟩

section
variable {w : World} {base g gw gc : Nat} {zs : List Int} {A : Option Addr} {c : Nat} {ts : List Tc} {cl : Cl}

set_option maxHeartbeats 1000000 in
theorem st25_full (h : At w base g gw zs A c ts) (hl : Lies w gc 58 (cl.cells g)) (hn : ts.length ≤ 1000) (h0 : 0 ≤ cl.who) (h1 : cl.who < 64) (hlen : 4 ≤ zs.length) (b : Int) (hb : zs.getD 0 0 = b) (hc : (zs.length : Int) - 2 ≤ b) :
    Calls Try.prog 25 #[.pointer (some ⟨gc, 0, none⟩)] w fun e w' => e = .returned (.tuple #[]) ∧ ∃ t, Dn w w' base gc g gw A zs (ts ++ [t]) { cl with nx := 0, place := b, word := 0, err := 6 } := by
  have d : decide ((zs.length : Int) - 2 ≤ b) = true := by simp; omega
  have T := Lib.hid (cload_any h hl hn 0 h0 h1 (by omega))
  rw [hb] at T
  clear h hl hb hc
  go_enter Try.func25, Try.ntmps25
  go_wp2_with fail
  refine T.out.mono ?_
  rintro e w1 ⟨rfl, t, D⟩
  obtain ⟨c0, c1, c2, c3, c4, c5, c6, fz⟩ := cl_facts D.lies
  have D1 := Lib.hid (D.set (cl' := { cl with place := b }) 3 (.int .i64 b) rfl)
  clear D T
  go_wp2_with fail
  clear c0 c1 c2 c3 c4 c5 c6 fz
  generalize w1.setCell ⟨gc, 3, none⟩ (.int .i64 b) = w2 at *
  obtain ⟨c0, c1, c2, c3, c4, c5, c6, fz⟩ := cl_facts D1.out.lies
  go_quiet ((go_at_call 31; exact quiet_same ((D1.out.drewN _).at_.elim fun _ h => h.elim fun _ h => room_any h (D1.out.drewN _).lies)))
  go_wp2_with fail
  refine (fail_any (D1.out.drewN _).lies 6).mono ?_
  rintro e w3 ⟨rfl, O, L⟩
  have D2 := Lib.hid ((D1.out.drewN _).only O L)
  clear O L c0 c1 c2 c3 c4 c5 c6 fz
  go_wp2
  refine bodyPost_ret (results_none rfl _ _ _) rfl ?_
  exact ⟨rfl, t, D2.out⟩

set_option maxHeartbeats 1000000 in
theorem st25 (h : At w base g gw zs A c ts) (hl : Lies w gc 58 (cl.cells g)) (hn : ts.length ≤ 1000) (h0 : 0 ≤ cl.who) (h1 : cl.who < 64) (hlen : 4 ≤ zs.length) (b : Int) (hb : zs.getD 0 0 = b) (hc : b < (zs.length : Int) - 2) :
    Calls Try.prog 25 #[.pointer (some ⟨gc, 0, none⟩)] w fun e w' => e = .returned (.tuple #[]) ∧ ∃ t, Dn w w' base gc g gw A zs (ts ++ [t]) { cl with nx := 33, place := b } := by
  have d : decide ((zs.length : Int) - 2 ≤ b) = false := by simp; omega
  have T := Lib.hid (cload_any h hl hn 0 h0 h1 (by omega))
  rw [hb] at T
  clear h hl hb hc
  go_enter Try.func25, Try.ntmps25
  go_wp2_with fail
  refine T.out.mono ?_
  rintro e w1 ⟨rfl, t, D⟩
  obtain ⟨c0, c1, c2, c3, c4, c5, c6, fz⟩ := cl_facts D.lies
  have D1 := Lib.hid (D.set (cl' := { cl with place := b }) 3 (.int .i64 b) rfl)
  clear D T
  go_wp2_with fail
  clear c0 c1 c2 c3 c4 c5 c6 fz
  generalize w1.setCell ⟨gc, 3, none⟩ (.int .i64 b) = w2 at *
  obtain ⟨c0, c1, c2, c3, c4, c5, c6, fz⟩ := cl_facts D1.out.lies
  go_quiet ((go_at_call 31; exact quiet_same ((D1.out.drewN _).at_.elim fun _ h => h.elim fun _ h => room_any h (D1.out.drewN _).lies)))
  go_wp2
  go_end0
  exact ⟨rfl, t, (D1.out.drewN _).set 2 _ rfl⟩

set_option maxHeartbeats 1000000 in
theorem st33 (h : At w base g gw zs A c ts) (hl : Lies w gc 58 (cl.cells g)) (hn : ts.length ≤ 1000) (h0 : 0 ≤ cl.who) (h1 : cl.who < 64) (hlen : 4 ≤ zs.length) (p : Nat) (hp : cl.place = p) (hp2 : p + 2 < zs.length) :
    Calls Try.prog 33 #[.pointer (some ⟨gc, 0, none⟩)] w fun e w' => e = .returned (.tuple #[]) ∧ ∃ t, Dn w w' base gc g gw A (zs.set (p + 2) cl.word) (ts ++ [t]) { cl with nx := 38 } := by
  have T := Lib.hid (cstore_any (h.kept (drew_below w)) (hl.kept (drew_below w)) hn (p + 2) cl.word h0 h1 hp2)
  have E := drew_below w
  obtain ⟨c0, c1, c2, c3, c4, c5, c6, fz⟩ := cl_facts hl
  rw [hp] at c3
  have hm := h.most
  have e2 : ((p + 2 : Nat) : Int) = 2 + (p : Int) := by omega
  have hw : IntKind.i64.wrap (2 + (p : Int)) = 2 + (p : Int) := IntWalk.i64_in _ (by omega)
  rw [e2] at T
  clear h hl
  go_enter Try.func33, Try.ntmps33
  go_wp2_with fail
  go_still_tail 10, (by kernel_rfl)
  change wpList _ _ _ _ _ w.drew
  go_wp2_with fail
  refine T.out.mono ?_
  rintro e w1 ⟨rfl, t, D⟩
  have D1 := Lib.hid (Dn.before E D)
  clear c0 c1 c2 c3 c4 c5 c6 fz
  obtain ⟨a0, a1, a2, a3, a4, a5, a6, af⟩ := cl_facts D.lies
  clear D
  go_wp2
  go_end0
  exact ⟨rfl, t, D1.out.set 2 _ rfl⟩

set_option maxHeartbeats 1000000 in
theorem st38 (h : At w base g gw zs A c ts) (hl : Lies w gc 58 (cl.cells g)) (hn : ts.length ≤ 1000) (h0 : 0 ≤ cl.who) (h1 : cl.who < 64) (hlen : 4 ≤ zs.length) (p : Nat) (hp : cl.place = p) (hp2 : p + 2 < zs.length) :
    Calls Try.prog 38 #[.pointer (some ⟨gc, 0, none⟩)] w fun e w' => e = .returned (.tuple #[]) ∧ ∃ t, Dn w w' base gc g gw A (zs.set 0 ((p : Int) + 1)) (ts ++ [t]) { cl with nx := 0, word := 0 } := by
  have T := Lib.hid (cstore_any h hl hn 0 ((p : Int) + 1) h0 h1 (by omega))
  obtain ⟨c0, c1, c2, c3, c4, c5, c6, fz⟩ := cl_facts hl
  rw [hp] at c3
  have hm := h.most
  clear h hl
  go_enter Try.func38, Try.ntmps38
  go_wp2_with fail
  refine T.out.mono ?_
  rintro e w1 ⟨rfl, t, D⟩
  have D1 := Lib.hid D
  clear D T
  clear c0 c1 c2 c3 c4 c5 c6 fz
  go_wp2_with fail
  refine (end_any D1.out.lies 0).mono ?_
  rintro e w3 ⟨rfl, O, L⟩
  have D2 := Lib.hid (D1.out.only O L)
  clear O L
  go_wp2
  go_end0
  exact ⟨rfl, t, D2.out⟩
end
end Go.Proofs.Yteaffpkmidaghaa
