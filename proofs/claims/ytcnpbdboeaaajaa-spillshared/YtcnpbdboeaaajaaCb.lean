/- What the steps of a call are made of. -/
import Derived.Test.YtcnpbdboeaaajaaCa
import Derived.StillTailTactics
namespace Go.Proofs.Ytcnpbdboeaaajaa
open Go.RowKit
set_option linter.unusedVariables false
set_option linter.unusedSimpArgs false

theorem cl_facts {w : World} {g gc : Nat} {cl : Cl} (h : Lies w gc 62 (cl.cells g)) :
    w.cell? ⟨gc, 0, none⟩ = some (.pointer (some ⟨g, 0, none⟩)) ∧ w.cell? ⟨gc, 1, none⟩ = some (.int .i64 cl.who) ∧ w.cell? ⟨gc, 2, none⟩ = some (nextV cl.nx) ∧
    w.cell? ⟨gc, 3, none⟩ = some (nextV cl.mv) ∧ w.cell? ⟨gc, 4, none⟩ = some (.int .i64 cl.many) ∧ w.cell? ⟨gc, 5, none⟩ = some (.int .i64 cl.word) ∧ w.cell? ⟨gc, 6, none⟩ = some (.int .i64 cl.err) ∧
    ∀ i, w.frozen? ⟨gc, i, none⟩ = false :=
  ⟨h.cell 0, h.cell 1, h.cell 2, h.cell 3, h.cell 4, h.cell 5, h.cell 6, h.frozen⟩
theorem quiet_same {P : Program} {f : FuncId} {args : Array Value} {w : World} {n : Nat} {v : Value}
    (h : Calls P f args (w.drewN n) fun e w' => e = .returned v ∧ w.drewN n = w') : Calls P f args (w.drewN n) fun e w'' => e = .returned v ∧ ∃ m, w'' = w.drewN m :=
  h.mono fun _ _ ⟨he, hm⟩ => ⟨he, n, hm.symm⟩
theorem below_drewN (w : World) (k : Nat) : Below w.heap.size w (w.drewN k) := by
  refine ⟨rfl, ?_, rfl, Nat.le_refl _, fun _ _ => rfl⟩
  rfl
theorem Dn.drewN {w w1 : World} {base g gw gc : Nat} {zs : List Int} {A : Option Addr} {ts : List Tc} {cl : Cl} (d : Dn w w1 base gc g gw A zs ts cl) (k : Nat) : Dn w (w1.drewN k) base gc g gw A zs ts cl :=
  d.only (Only.of_below (below_drewN w1 k)) (d.lies.kept (below_drewN w1 k))

theorem Dn.before {w w0 w1 : World} {base g gw gc : Nat} {zs : List Int} {A : Option Addr} {ts : List Tc} {cl : Cl} (b : Below w.heap.size w w0) (d : Dn w0 w1 base gc g gw A zs ts cl) : Dn w w1 base gc g gw A zs ts cl := by
  obtain ⟨A', c', h1, h2, h3, h4⟩ := d
  refine ⟨A', c', h1, h2, ⟨h3.os.trans b.os, h3.tape.trans b.tape, h3.output.trans b.output, Nat.le_trans b.size h3.size, fun k hk e0 e1 e2 e3 => (h3.block k (Nat.lt_of_lt_of_le hk b.size) e0 e1 e2 e3).trans (b.block k hk)⟩, ?_⟩
  rcases h4 with e | ⟨k, e, hk⟩
  · exact Or.inl e
  · exact Or.inr ⟨k, e, Nat.le_trans b.size hk⟩

section
variable {w : World} {base g gw gc : Nat} {zs : List Int} {A : Option Addr} {c : Nat} {ts : List Tc} {cl : Cl}
theorem room_any (h : At w base g gw zs A c ts) (hl : Lies w gc 62 (cl.cells g)) : Calls Try.prog 28 #[.pointer (some ⟨gc, 0, none⟩)] w fun e w' => e = .returned (.int .i64 ((zs.length : Int) - 2)) ∧ w = w' := by
  have c0 := hl.cell 0
  simp only [Cl.cells, List.getElem?_cons_succ, List.getElem?_cons_zero] at c0
  have hm := h.most
  have HL := Lib.hid (len_any h)
  clear h hl
  go_enter Try.func28, Try.ntmps28
  go_wp2_with fail
  refine HL.out.mono ?_
  rintro e w1 ⟨rfl, rfl⟩
  go_wp2
  go_ret
  exact ⟨rfl, rfl⟩

theorem drew_below (w : World) : Below w.heap.size w w.drew := (Below.refl _ w).drew
set_option maxHeartbeats 1000000 in
theorem cload_any (h : At w base g gw zs A c ts) (hl : Lies w gc 62 (cl.cells g)) (hn : ts.length ≤ 30000) (p : Nat) (h0 : 0 ≤ cl.who) (h1 : cl.who < 64) (h3 : p < zs.length) :
    Calls Try.prog 32 #[.pointer (some ⟨gc, 0, none⟩), .int .i64 p] w fun e w' => e = .returned (.int .i64 (zs.getD p 0)) ∧ ∃ t, Dn w w' base gc g gw A zs (ts ++ [t]) cl := by
  have c0 := hl.cell 0
  have c1 := hl.cell 1
  simp only [Cl.cells, List.getElem?_cons_succ, List.getElem?_cons_zero] at c0 c1
  have T := Lib.hid ((load_yes (h.kept (drew_below w)) hn cl.who p h0 h1 h3 _ rfl).mono fun e w' ⟨he, hd⟩ => (⟨he, _, (hd.after (Else.of_below (drew_below w))).dn h hl⟩ : e = Ending.returned (.tuple #[.int .i64 (zs.getD p 0), .int .i64 0]) ∧ ∃ t, Dn w w' base gc g gw A zs (ts ++ [t]) cl))
  clear h hl
  generalize zs.getD p 0 = x at *
  go_enter Try.func32, Try.ntmps32
  go_wp2_with fail
  go_region_with (
    refine T.out.mono ?_
    rintro e w1 ⟨rfl, D⟩
    have HD := Lib.hid D
    clear D)
  all_goals go_wp2
  all_goals go_ret
  all_goals exact ⟨rfl, HD.out⟩

set_option maxHeartbeats 1000000 in
theorem cstore_any (h : At w base g gw zs A c ts) (hl : Lies w gc 62 (cl.cells g)) (hn : ts.length ≤ 30000) (p : Nat) (x : Int) (h0 : 0 ≤ cl.who) (h1 : cl.who < 64) (h3 : p < zs.length) :
    Calls Try.prog 30 #[.pointer (some ⟨gc, 0, none⟩), .int .i64 p, .int .i64 x] w fun e w' => e = .returned (.tuple #[]) ∧ ∃ t, Dn w w' base gc g gw A (zs.set p x) (ts ++ [t]) cl := by
  have c0 := hl.cell 0
  have c1 := hl.cell 1
  simp only [Cl.cells, List.getElem?_cons_succ, List.getElem?_cons_zero] at c0 c1
  have T := Lib.hid ((store_yes (h.kept (drew_below w)) hn cl.who p x h0 h1 h3).mono fun e w' ⟨he, hd⟩ => (⟨he, _, (hd.after (Else.of_below (drew_below w))).dn h hl⟩ : e = Ending.returned (.int .i64 0) ∧ ∃ t, Dn w w' base gc g gw A (zs.set p x) (ts ++ [t]) cl))
  clear h hl
  go_enter Try.func30, Try.ntmps30
  go_wp2_with fail
  go_still_tail 10, (by kernel_rfl)
  change wpList _ _ _ _ _ w.drew
  go_wp2_with fail
  refine T.out.mono ?_
  rintro e w1 ⟨rfl, D⟩
  have HD := Lib.hid D
  clear D
  go_wp2
  go_end0
  exact ⟨rfl, HD.out⟩
theorem set_same_at (zs : List Int) (p : Nat) (h : p < zs.length) : zs.set p (zs.getD p 0) = zs := set_same h rfl
end
end Go.Proofs.Ytcnpbdboeaaajaa
