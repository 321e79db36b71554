/- The other steps. -/
import Derived.Test.YtcnpbdboeaaajaaCc
namespace Go.Proofs.Ytcnpbdboeaaajaa
open Go.RowKit
set_option linter.unusedVariables false
set_option linter.unusedSimpArgs false

theorem Dn.pre {w w0 w1 : World} {base g gw gc : Nat} {zs : List Int} {A : Option Addr} {ts : List Tc} {cl : Cl} (b : Only gc w w0) (d : Dn w0 w1 base gc g gw A zs ts cl) : Dn w w1 base gc g gw A zs ts cl := by
  obtain ⟨A', c', h1, h2, h3, h4⟩ := d
  refine ⟨A', c', h1, h2, ⟨h3.os.trans b.os, h3.tape.trans b.tape, h3.output.trans b.output, Nat.le_trans b.size h3.size, fun k hk e0 e1 e2 e3 => (h3.block k (Nat.lt_of_lt_of_le hk b.size) e0 e1 e2 e3).trans (b.block k hk e0)⟩, ?_⟩
  rcases h4 with e | ⟨k, e, hk⟩
  · exact Or.inl e
  · exact Or.inr ⟨k, e, Nat.le_trans b.size hk⟩

section
variable {w : World} {base g gw gc : Nat} {zs : List Int} {A : Option Addr} {c : Nat} {ts : List Tc} {cl : Cl}

set_option maxHeartbeats 1000000 in
theorem st34 (h : At w base g gw zs A c ts) (hl : Lies w gc 62 (cl.cells g)) (hn : ts.length ≤ 30000) (h0 : 0 ≤ cl.who) (h1 : cl.who < 64) (hlen : 3 ≤ zs.length) (b : Int) (hb : zs.getD 1 0 = b) (m : Nat) (hm : cl.mv = m + 1) :
    Calls Try.prog 34 #[.pointer (some ⟨gc, 0, none⟩)] w fun e w' => e = .returned (.tuple #[]) ∧ ∃ t, Dn w w' base gc g gw A zs (ts ++ [t]) { cl with nx := m + 1, many := b } := by
  have T := Lib.hid (cload_any h hl hn 1 h0 h1 (by omega))
  rw [hb] at T
  clear h hl hb
  go_enter Try.func34, Try.ntmps34
  go_wp2_with fail
  refine T.out.mono ?_
  rintro e w1 ⟨rfl, t, D⟩
  obtain ⟨c0, c1, c2, c3, c4, c5, c6, fz⟩ := cl_facts D.lies
  rw [hm] at c3
  simp only [nextV] at c3
  have D1 := Lib.hid ((D.set (cl' := { cl with many := b }) 4 (.int .i64 b) rfl).set (cl' := { cl with nx := m + 1, many := b }) 2 (.func (.func (m + 1)) #[] #[]) rfl)
  clear D T
  go_wp2
  go_end0
  exact ⟨rfl, t, D1.out⟩

set_option maxHeartbeats 1000000 in
theorem st35 (h : At w base g gw zs A c ts) (hl : Lies w gc 62 (cl.cells g)) (hn : ts.length ≤ 30000) (h0 : 0 ≤ cl.who) (h1 : cl.who < 64) (hlen : 3 ≤ zs.length)  :
    Calls Try.prog 35 #[.pointer (some ⟨gc, 0, none⟩)] w fun e w' => e = .returned (.tuple #[]) ∧ ∃ t, Dn w w' base gc g gw A (zs.set 0 0) (ts ++ [t]) { cl with nx := 0 } := by
  have T := Lib.hid (cstore_any h hl hn 0 0 h0 h1 (by omega))
  clear h hl
  go_enter Try.func35, Try.ntmps35
  go_wp2_with fail
  refine T.out.mono ?_
  rintro e w1 ⟨rfl, t, D⟩
  obtain ⟨c0, c1, c2, c3, c4, c5, c6, fz⟩ := cl_facts D.lies
  have D1 := Lib.hid (D.set (cl' := { cl with nx := 0 }) 2 .nilFunc rfl)
  clear D T
  go_wp2
  go_end0
  exact ⟨rfl, t, D1.out⟩

set_option maxHeartbeats 1000000 in
theorem st31 (h : At w base g gw zs A c ts) (hl : Lies w gc 62 (cl.cells g)) (hn : ts.length ≤ 30000) (h0 : 0 ≤ cl.who) (h1 : cl.who < 64) (hlen : 3 ≤ zs.length)  :
    Calls Try.prog 31 #[.pointer (some ⟨gc, 0, none⟩)] w fun e w' => e = .returned (.tuple #[]) ∧ ∃ t, Dn w w' base gc g gw A (zs.set 1 cl.many) (ts ++ [t]) { cl with nx := 35 } := by
  have T := Lib.hid (cstore_any h hl hn 1 cl.many h0 h1 (by omega))
  obtain ⟨c0, c1, c2, c3, c4, c5, c6, fz⟩ := cl_facts hl
  clear h hl
  go_enter Try.func31, Try.ntmps31
  go_wp2_with fail
  refine T.out.mono ?_
  rintro e w1 ⟨rfl, t, D⟩
  clear c0 c1 c2 c3 c4 c5 c6 fz
  obtain ⟨c0, c1, c2, c3, c4, c5, c6, fz⟩ := cl_facts D.lies
  have D1 := Lib.hid (D.set (cl' := { cl with nx := 35 }) 2 (.func (.func 35) #[] #[]) rfl)
  clear D T
  go_wp2
  go_end0
  exact ⟨rfl, t, D1.out⟩

set_option maxHeartbeats 1000000 in
theorem fail_any (h : At w base g gw zs A c ts) (hl : Lies w gc 62 (cl.cells g)) (hn : ts.length ≤ 30000) (h0 : 0 ≤ cl.who) (h1 : cl.who < 64) (hlen : 3 ≤ zs.length) (x : Int) :
    Calls Try.prog 29 #[.pointer (some ⟨gc, 0, none⟩), .int .i64 x] w fun e w' => e = .returned (.tuple #[]) ∧ ∃ t, Dn w w' base gc g gw A (zs.set 0 0) (ts ++ [t]) { cl with nx := 0, word := 0, err := x } := by
  obtain ⟨n1, n2, n3⟩ := h.apart hl (by decide) (by decide) (by decide)
  have O := ((Only.refl gc w).set 5 (.int .i64 0)).set 6 (.int .i64 x)
  have L : Lies ((w.setCell ⟨gc, 5, none⟩ (.int .i64 0)).setCell ⟨gc, 6, none⟩ (.int .i64 x)) gc 62 (Cl.cells g { cl with word := 0, err := x }) := (hl.set 5 (.int .i64 0)).set 6 (.int .i64 x)
  have U := Lib.hid ((st35 (h.only O n1 n2 n3) L hn h0 h1 hlen).mono fun e w' ⟨he, t, D⟩ => (⟨he, t, Dn.pre O D⟩ : e = Ending.returned (.tuple #[]) ∧ ∃ t, Dn w w' base gc g gw A (zs.set 0 0) (ts ++ [t]) { cl with nx := 0, word := 0, err := x }))
  obtain ⟨c0, c1, c2, c3, c4, c5, c6, fz⟩ := cl_facts hl
  clear h hl O L
  go_enter Try.func29, Try.ntmps29
  go_wp2_with fail
  refine U.out.mono ?_
  rintro e w1 ⟨rfl, D⟩
  have D1 := Lib.hid D
  clear D c0 c1 c2 c3 c4 c5 c6 fz
  go_wp2
  go_end0
  exact ⟨rfl, D1.out⟩

set_option maxHeartbeats 1000000 in
theorem st25_full (h : At w base g gw zs A c ts) (hl : Lies w gc 62 (cl.cells g)) (hn : ts.length ≤ 30000) (h0 : 0 ≤ cl.who) (h1 : cl.who < 64) (hlen : 3 ≤ zs.length) (hc : (zs.length : Int) - 2 ≤ cl.many) :
    Calls Try.prog 25 #[.pointer (some ⟨gc, 0, none⟩)] w fun e w' => e = .returned (.tuple #[]) ∧ ∃ t, Dn w w' base gc g gw A (zs.set 0 0) (ts ++ [t]) { cl with nx := 0, word := 0, err := 6 } := by
  have d : decide ((zs.length : Int) - 2 ≤ cl.many) = true := by simp; omega
  have R := Lib.hid (fun k => room_any (h.kept (below_drewN w k)) (hl.kept (below_drewN w k)))
  have F := Lib.hid (fun k => (fail_any (h.kept (below_drewN w k)) (hl.kept (below_drewN w k)) hn h0 h1 hlen 6).mono fun e w' ⟨he, t, D⟩ => (⟨he, t, Dn.before (below_drewN w k) D⟩ : e = Ending.returned (.tuple #[]) ∧ ∃ t, Dn w w' base gc g gw A (zs.set 0 0) (ts ++ [t]) { cl with nx := 0, word := 0, err := 6 }))
  obtain ⟨c0, c1, c2, c3, c4, c5, c6, fz⟩ := cl_facts hl
  clear h hl hc
  go_enter Try.func25, Try.ntmps25
  go_wp2_with fail
  go_quiet ((go_at_call 28; exact quiet_same (R.out _)))
  go_wp2_with fail
  refine (F.out _).mono ?_
  rintro e w3 ⟨rfl, D⟩
  have D2 := Lib.hid D
  clear D c0 c1 c2 c3 c4 c5 c6 fz
  go_wp2
  refine bodyPost_ret (results_none rfl _ _ _) rfl ?_
  exact ⟨rfl, D2.out⟩

set_option maxHeartbeats 1000000 in
theorem st25 (h : At w base g gw zs A c ts) (hl : Lies w gc 62 (cl.cells g)) (hn : ts.length ≤ 30000) (h0 : 0 ≤ cl.who) (h1 : cl.who < 64) (hlen : 3 ≤ zs.length) (p : Nat) (hp : cl.many = p) (hc : p + 2 < zs.length) :
    Calls Try.prog 25 #[.pointer (some ⟨gc, 0, none⟩)] w fun e w' => e = .returned (.tuple #[]) ∧ ∃ t, Dn w w' base gc g gw A (zs.set (p + 2) cl.word) (ts ++ [t]) { cl with nx := 31, many := (p : Int) + 1, word := 0 } := by
  have d : decide ((zs.length : Int) - 2 ≤ (p : Int)) = false := by simp; omega
  have R := Lib.hid (fun k => room_any (h.kept (below_drewN w k)) (hl.kept (below_drewN w k)))
  have S := Lib.hid (fun k => (cstore_any (h.kept (below_drewN w k).drew) (hl.kept (below_drewN w k).drew) hn (p + 2) cl.word h0 h1 hc).mono fun e w' ⟨he, t, D⟩ => (⟨he, t, Dn.before (below_drewN w k).drew D⟩ : e = Ending.returned (.tuple #[]) ∧ ∃ t, Dn w w' base gc g gw A (zs.set (p + 2) cl.word) (ts ++ [t]) cl))
  have e2 : ((p + 2 : Nat) : Int) = 2 + (p : Int) := by omega
  rw [e2] at S
  have FF := Lib.hid (fun k => cl_facts (hl.kept (below_drewN w k)))
  obtain ⟨c0, c1, c2, c3, c4, c5, c6, fz⟩ := cl_facts hl
  rw [hp] at c4
  have hm := h.most
  have hw : IntKind.i64.wrap (2 + (p : Int)) = 2 + (p : Int) := IntWalk.i64_in _ (by omega)
  have hw1 : IntKind.i64.wrap ((p : Int) + 1) = (p : Int) + 1 := IntWalk.i64_in _ (by omega)
  clear h hl
  go_enter Try.func25, Try.ntmps25
  go_wp2_with fail
  go_quiet ((go_at_call 28; exact quiet_same (R.out _)))
  go_wp2_with fail
  clear c0 c1 c2 c3 c4 c5 c6 fz
  have S1 := Lib.hid (S.out nq)
  have F1 := FF.out nq
  clear S R FF
  generalize w.drewN nq = w0 at *
  obtain ⟨c0, c1, c2, c3, c4, c5, c6, fz⟩ := F1
  rw [hp] at c4
  go_still_tail 10, (by kernel_rfl)
  change wpList _ _ _ _ _ w0.drew
  go_wp2_with fail
  refine S1.out.mono ?_
  rintro e w1 ⟨rfl, t, D⟩
  clear c0 c1 c2 c3 c4 c5 c6 fz
  obtain ⟨c0, c1, c2, c3, c4, c5, c6, fz⟩ := cl_facts D.lies
  rw [hp] at c4
  have D1 := Lib.hid (((D.set (cl' := { cl with word := 0 }) 5 (.int .i64 0) rfl).set (cl' := { cl with many := (p : Int) + 1, word := 0 }) 4 (.int .i64 ((p : Int) + 1)) rfl).set (cl' := { cl with nx := 31, many := (p : Int) + 1, word := 0 }) 2 (.func (.func 31) #[] #[]) rfl)
  clear D S1
  go_wp2
  go_end0
  exact ⟨rfl, t, D1.out⟩

set_option maxHeartbeats 1000000 in
theorem st26_no (h : At w base g gw zs A c ts) (hl : Lies w gc 62 (cl.cells g)) (hn : ts.length ≤ 30000) (h0 : 0 ≤ cl.who) (h1 : cl.who < 64) (hlen : 3 ≤ zs.length) (hc : cl.many ≤ 0) :
    Calls Try.prog 26 #[.pointer (some ⟨gc, 0, none⟩)] w fun e w' => e = .returned (.tuple #[]) ∧ ∃ t, Dn w w' base gc g gw A (zs.set 0 0) (ts ++ [t]) { cl with nx := 0, word := 0, err := 7 } := by
  have d : decide (cl.many ≤ 0) = true := by simp; omega
  have F := Lib.hid (fail_any h hl hn h0 h1 hlen 7)
  obtain ⟨c0, c1, c2, c3, c4, c5, c6, fz⟩ := cl_facts hl
  clear h hl hc
  go_enter Try.func26, Try.ntmps26
  go_wp2_with fail
  refine F.out.mono ?_
  rintro e w3 ⟨rfl, D⟩
  have D2 := Lib.hid D
  clear D c0 c1 c2 c3 c4 c5 c6 fz
  go_wp2
  refine bodyPost_ret (results_none rfl _ _ _) rfl ?_
  exact ⟨rfl, D2.out⟩

set_option maxHeartbeats 1000000 in
theorem st26 (h : At w base g gw zs A c ts) (hl : Lies w gc 62 (cl.cells g)) (hn : ts.length ≤ 30000) (h0 : 0 ≤ cl.who) (h1 : cl.who < 64) (hlen : 3 ≤ zs.length) (p : Nat) (hp : cl.many = (p : Int) + 1) (hc : p + 2 < zs.length) (y : Int) (hy : zs.getD (p + 2) 0 = y) :
    Calls Try.prog 26 #[.pointer (some ⟨gc, 0, none⟩)] w fun e w' => e = .returned (.tuple #[]) ∧ ∃ t, Dn w w' base gc g gw A zs (ts ++ [t]) { cl with nx := 31, many := (p : Int), word := y } := by
  have d : decide ((p : Int) + 1 ≤ 0) = false := decide_eq_false (by omega)
  obtain ⟨n1, n2, n3⟩ := h.apart hl (by decide) (by decide) (by decide)
  have O := (Only.refl gc w).set 4 (.int .i64 (p : Int))
  have L : Lies (w.setCell ⟨gc, 4, none⟩ (.int .i64 (p : Int))) gc 62 (Cl.cells g { cl with many := (p : Int) }) := hl.set 4 (.int .i64 (p : Int))
  have S := Lib.hid ((cload_any (h.only O n1 n2 n3) L hn (p + 2) h0 h1 hc).mono fun e w' ⟨he, t, D⟩ => (⟨he, t, Dn.pre O D⟩ : e = Ending.returned (.int .i64 (zs.getD (p + 2) 0)) ∧ ∃ t, Dn w w' base gc g gw A zs (ts ++ [t]) { cl with many := (p : Int) }))
  have e2 : ((p + 2 : Nat) : Int) = 2 + (p : Int) := by omega
  rw [e2, hy] at S
  obtain ⟨c0, c1, c2, c3, c4, c5, c6, fz⟩ := cl_facts hl
  rw [hp] at c4
  have hm := h.most
  have hw : IntKind.i64.wrap (2 + (p : Int)) = 2 + (p : Int) := IntWalk.i64_in _ (by omega)
  have hw1 : IntKind.i64.wrap ((p : Int) + 1 - 1) = (p : Int) := by rw [show (p : Int) + 1 - 1 = (p : Int) by omega]; exact IntWalk.i64_in _ (by omega)
  have hw2 : (p : Int) + 1 - 1 = (p : Int) := by omega
  clear h hl O L hy
  go_enter Try.func26, Try.ntmps26
  go_wp2_with fail
  refine S.out.mono ?_
  rintro e w1 ⟨rfl, t, D⟩
  clear c0 c1 c2 c3 c4 c5 c6 fz
  obtain ⟨c0, c1, c2, c3, c4, c5, c6, fz⟩ := cl_facts D.lies
  have D1 := Lib.hid ((D.set (cl' := { cl with many := (p : Int), word := y }) 5 (.int .i64 y) rfl).set (cl' := { cl with nx := 31, many := (p : Int), word := y }) 2 (.func (.func 31) #[] #[]) rfl)
  clear D S
  go_wp2
  go_end0
  exact ⟨rfl, t, D1.out⟩
end
end Go.Proofs.Ytcnpbdboeaaajaa
