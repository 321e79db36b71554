/- What the steps of a call are made of. -/
import Derived.Test.YteaffpkmidaghaaCa
import Derived.Laws.Bits64b
namespace Go.Proofs.Yteaffpkmidaghaa
open Go.RowKit
set_option linter.unusedVariables false
set_option linter.unusedSimpArgs false

/-- Of numbers that aren't below 0 'and' is the same, with a sign or without. -/
theorem and_signs (x : Int) : bits .and .i64 x 4095 = IntKind.i64.wrap (bits .and .u64 x 4095) := by
  obtain ⟨X, hX⟩ : ∃ X : Nat, (BitVec.ofInt 64 x &&& BitVec.ofInt 64 4095).toNat = X := ⟨_, rfl⟩
  have hlt : X < 2 ^ 64 := hX ▸ (BitVec.ofInt 64 x &&& BitVec.ofInt 64 4095).isLt
  have hi : bits .and .i64 x 4095 = IntKind.i64.wrap (X : Int) := congrArg (fun n : Nat => IntKind.i64.wrap (n : Int)) hX
  have hu : bits .and .u64 x 4095 = IntKind.u64.wrap (X : Int) := congrArg (fun n : Nat => IntKind.u64.wrap (n : Int)) hX
  rw [hi, hu, IntKind.wrap_u64 (X : Int), show (X : Int) % 18446744073709551616 = X by omega]
theorem and_low (t : Int) (h0 : 0 ≤ t) (h1 : t < 4611686018427387904) : bits .and .i64 t 4095 = t % 4096 := by
  obtain ⟨n, rfl⟩ : ∃ n : Nat, t = n := ⟨t.toNat, by omega⟩
  have hu : bits .and .u64 (n : Int) 4095 = ((n &&& 4095 : Nat) : Int) := bits_and_u64_nat n 4095 (by omega) (by omega)
  have e : n &&& 4095 = n % 4096 := Nat.and_two_pow_sub_one_eq_mod n 12
  rw [and_signs, hu, e, IntKind.wrap_i64]
  omega
theorem placeOf_any (t : Int) (h0 : 0 ≤ t) (h1 : t < 4611686018427387904) (w : World) : Calls Try.prog 29 #[.int .i64 t] w fun e w' => e = .returned (.int .i64 (t % 4096)) ∧ w = w' := by
  have E := and_low t h0 h1
  go_enter Try.func29, Try.ntmps29
  go_wp2
  go_ret
  exact ⟨rfl, rfl⟩
theorem tagOf_any (t : Int) (h0 : 0 ≤ t) (h1 : t < 4611686018427387904) (w : World) : Calls Try.prog 52 #[.int .i64 t] w fun e w' => e = .returned (.int .i64 (t / 4096)) ∧ w = w' := by
  go_enter Try.func52, Try.ntmps52
  go_wp2
  go_ret
  exact ⟨rfl, rfl⟩
theorem topWord_any (p t : Int) (h0 : 0 ≤ t) (h1 : t < 1099511627776) (h2 : 0 ≤ p) (h3 : p ≤ 1000000) (w : World) : Calls Try.prog 51 #[.int .i64 p, .int .i64 t] w fun e w' => e = .returned (.int .i64 (p + t * 4096)) ∧ w = w' := by
  go_enter Try.func51, Try.ntmps51
  go_wp2
  go_ret
  exact ⟨rfl, rfl⟩

section
variable {w : World} {g gc : Nat} {cl : Cl}
theorem freshTop_any (h : Lies w gc 58 (cl.cells g)) (h0 : 0 ≤ cl.top) (h1 : cl.top < 4398046511104) : Calls Try.prog 56 #[.pointer (some ⟨gc, 0, none⟩)] w fun e w' => e = .returned (.int .i64 ((cl.top / 4096 + 1) * 4096)) ∧ w = w' := by
  have c4 := h.cell 4
  simp only [Cl.cells, List.getElem?_cons_succ, List.getElem?_cons_zero] at c4
  clear h
  go_enter Try.func56, Try.ntmps56
  go_wp2_with fail
  refine (tagOf_any cl.top h0 (by omega) _).mono ?_
  rintro e w1 ⟨rfl, rfl⟩
  go_wp2_with fail
  refine (topWord_any 0 (cl.top / 4096 + 1) (by omega) (by omega) (by omega) (by omega) _).mono ?_
  rintro e w1 ⟨rfl, rfl⟩
  go_wp2
  go_ret
  exact ⟨by simp, rfl⟩
end

section
variable {w : World} {base g gw gc : Nat} {zs : List Int} {A : Option Addr} {c : Nat} {ts : List Tc} {cl : Cl}
theorem room_any (h : At w base g gw zs A c ts) (hl : Lies w gc 58 (cl.cells g)) : Calls Try.prog 31 #[.pointer (some ⟨gc, 0, none⟩)] w fun e w' => e = .returned (.int .i64 ((zs.length : Int) - 2)) ∧ w = w' := by
  have c0 := hl.cell 0
  simp only [Cl.cells, List.getElem?_cons_succ, List.getElem?_cons_zero] at c0
  have hm := h.most
  have HL := Lib.hid (len_any h)
  clear h hl
  go_enter Try.func31, Try.ntmps31
  go_wp2_with fail
  refine HL.out.mono ?_
  rintro e w1 ⟨rfl, rfl⟩
  go_wp2
  go_ret
  exact ⟨rfl, rfl⟩

theorem drew_below (w : World) : Below w.heap.size w w.drew := (Below.refl _ w).drew
set_option maxHeartbeats 1000000 in
theorem cload_any (h : At w base g gw zs A c ts) (hl : Lies w gc 58 (cl.cells g)) (hn : ts.length ≤ 1000) (p : Nat) (h0 : 0 ≤ cl.who) (h1 : cl.who < 64) (h3 : p < zs.length) :
    Calls Try.prog 30 #[.pointer (some ⟨gc, 0, none⟩), .int .i64 p] w fun e w' => e = .returned (.int .i64 (zs.getD p 0)) ∧ ∃ t, Dn w w' base gc g gw A zs (ts ++ [t]) cl := by
  have c0 := hl.cell 0
  have c1 := hl.cell 1
  simp only [Cl.cells, List.getElem?_cons_succ, List.getElem?_cons_zero] at c0 c1
  have T := Lib.hid ((load_yes (h.kept (drew_below w)) hn cl.who p h0 h1 h3 _ rfl).mono fun e w' ⟨he, hd⟩ => (⟨he, _, (hd.after (Else.of_below (drew_below w))).dn h hl⟩ : e = Ending.returned (.tuple #[.int .i64 (zs.getD p 0), .int .i64 0]) ∧ ∃ t, Dn w w' base gc g gw A zs (ts ++ [t]) cl))
  clear h hl
  generalize zs.getD p 0 = x at *
  go_enter Try.func30, Try.ntmps30
  go_wp2_with fail
  go_region_with (
    refine T.out.mono ?_
    rintro e w1 ⟨rfl, D⟩
    have HD := Lib.hid D
    clear D)
  all_goals go_wp2
  all_goals go_ret
  all_goals exact ⟨rfl, HD.out⟩

set_option maxHeartbeats 1000000 in
theorem cstore_any (h : At w base g gw zs A c ts) (hl : Lies w gc 58 (cl.cells g)) (hn : ts.length ≤ 1000) (p : Nat) (x : Int) (h0 : 0 ≤ cl.who) (h1 : cl.who < 64) (h3 : p < zs.length) :
    Calls Try.prog 37 #[.pointer (some ⟨gc, 0, none⟩), .int .i64 p, .int .i64 x] w fun e w' => e = .returned (.tuple #[]) ∧ ∃ t, Dn w w' base gc g gw A (zs.set p x) (ts ++ [t]) cl := by
  have c0 := hl.cell 0
  have c1 := hl.cell 1
  simp only [Cl.cells, List.getElem?_cons_succ, List.getElem?_cons_zero] at c0 c1
  have T := Lib.hid ((store_yes (h.kept (drew_below w)) hn cl.who p x h0 h1 h3).mono fun e w' ⟨he, hd⟩ => (⟨he, _, (hd.after (Else.of_below (drew_below w))).dn h hl⟩ : e = Ending.returned (.int .i64 0) ∧ ∃ t, Dn w w' base gc g gw A (zs.set p x) (ts ++ [t]) cl))
  clear h hl
  go_enter Try.func37, Try.ntmps37
  go_wp2_with fail
  go_region_with (
    refine T.out.mono ?_
    rintro e w1 ⟨rfl, D⟩
    have HD := Lib.hid D
    clear D)
  all_goals go_wp2
  all_goals go_end0
  all_goals exact ⟨rfl, HD.out⟩

set_option maxHeartbeats 1000000 in
theorem cswap_hit (h : At w base g gw zs A c ts) (hl : Lies w gc 58 (cl.cells g)) (hn : ts.length ≤ 1000) (x : Int) (h0 : 0 ≤ cl.who) (h1 : cl.who < 64) (h3 : 1 < zs.length) (he : zs.getD 1 0 = cl.top) :
    Calls Try.prog 50 #[.pointer (some ⟨gc, 0, none⟩), .int .i64 x] w fun e w' => e = .returned (.bool true) ∧ ∃ t, Dn w w' base gc g gw A (zs.set 1 x) (ts ++ [t]) cl := by
  have c0 := hl.cell 0
  have c1 := hl.cell 1
  have c4 := hl.cell 4
  simp only [Cl.cells, List.getElem?_cons_succ, List.getElem?_cons_zero] at c0 c1 c4
  have T := Lib.hid ((swap_hit (h.kept (drew_below w)) hn cl.who 1 cl.top x h0 h1 h3 _ rfl he).mono fun e w' ⟨he, hd⟩ => (⟨he, _, (hd.after (Else.of_below (drew_below w))).dn h hl⟩ : e = Ending.returned (.int .i64 0) ∧ ∃ t, Dn w w' base gc g gw A (zs.set 1 x) (ts ++ [t]) cl))
  clear h hl he
  go_enter Try.func50, Try.ntmps50
  go_wp2_with fail
  go_region_with (
    refine T.out.mono ?_
    rintro e w1 ⟨rfl, D⟩
    have HD := Lib.hid D
    clear D)
  all_goals go_wp2
  all_goals go_ret
  all_goals exact ⟨rfl, HD.out⟩
theorem set_same_at (zs : List Int) (p : Nat) (h : p < zs.length) : zs.set p (zs.getD p 0) = zs := set_same h rfl
set_option maxHeartbeats 1000000 in
theorem cswap_miss (h : At w base g gw zs A c ts) (hl : Lies w gc 58 (cl.cells g)) (hn : ts.length ≤ 1000) (x : Int) (h0 : 0 ≤ cl.who) (h1 : cl.who < 64) (h3 : 1 < zs.length) (he : zs.getD 1 0 ≠ cl.top) :
    Calls Try.prog 50 #[.pointer (some ⟨gc, 0, none⟩), .int .i64 x] w fun e w' => e = .returned (.bool false) ∧ ∃ t, Dn w w' base gc g gw A zs (ts ++ [t]) cl := by
  have c0 := hl.cell 0
  have c1 := hl.cell 1
  have c4 := hl.cell 4
  simp only [Cl.cells, List.getElem?_cons_succ, List.getElem?_cons_zero] at c0 c1 c4
  have T := Lib.hid ((swap_miss (h.kept (drew_below w)) hn cl.who 1 cl.top x h0 h1 h3 _ rfl he).mono fun e w' ⟨he, hd⟩ => (⟨he, _, by rw [set_same_at zs 1 h3] at hd; exact (hd.after (Else.of_below (drew_below w))).dn h hl⟩ : e = Ending.returned (.int .i64 8) ∧ ∃ t, Dn w w' base gc g gw A zs (ts ++ [t]) cl))
  clear h hl he
  go_enter Try.func50, Try.ntmps50
  go_wp2_with fail
  go_region_with (
    refine T.out.mono ?_
    rintro e w1 ⟨rfl, D⟩
    have HD := Lib.hid D
    clear D)
  all_goals go_wp2
  all_goals go_ret
  all_goals exact ⟨rfl, HD.out⟩
end
end Go.Proofs.Yteaffpkmidaghaa
