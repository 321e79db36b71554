/- New, Push, Pop, Steal, Cells, Words. -/
import Derived.Test.YteaffpkmidaghaaCg
namespace Go.Proofs.Yteaffpkmidaghaa
open Go.RowKit
set_option linter.unusedVariables false
set_option linter.unusedSimpArgs false

/-- A deque of the program: its own word, and its cells. -/
structure Dq (w : World) (base gd g gw : Nat) (zs : List Int) (A : Option Addr) (c : Nat) (ts : List Tc) : Prop where
  at_ : At w base g gw zs A c ts
  own : Lies w gd 55 [.pointer (some ⟨g, 0, none⟩)]
  lo : base ≤ gd

set_option maxRecDepth 100000 in
set_option maxHeartbeats 1000000 in
theorem dnew_yes (z : Int) (n : Nat) (hz : z = n) (w : World) (base : Nat) (hb : base ≤ w.heap.size) (h1 : 2 ≤ n) (h2 : n ≤ 1024) :
    Calls Try.prog 10 #[.int .i64 z] w fun e w' => ∃ gd g gw, e = .returned (.tuple #[.pointer (some ⟨gd, 0, none⟩), .int .i64 0]) ∧ Below w.heap.size w w' ∧ Dq w' base gd g gw (List.replicate (n + 2) 0) none 0 [] := by
  have d1 : decide (z < 2) = false := by simp; omega
  have d2 : decide (1024 < z) = false := by simp; omega
  have e2 : ((n + 2 : Nat) : Int) = 2 + z := by omega
  have T := Lib.hid (new_yes (n + 2) w base hb (by omega) (by omega))
  rw [e2] at T
  have z1 : 2 ≤ z := by omega
  have z2 : z ≤ 1024 := by omega
  have H1 := Lib.hid h1
  have H2 := Lib.hid h2
  have HZ := Lib.hid hz
  clear hz e2 h1 h2
  go_enter Try.func10, Try.ntmps10
  go_wp2_with fail
  refine T.out.mono ?_
  rintro e w1 ⟨g, gw, rfl, B1, q1, q2, H⟩
  have HB := Lib.hid B1
  have HH := Lib.hid H
  clear B1 H T
  go_wp2
  go_ret2
  refine ⟨w1.heap.size, g, gw, rfl, on HB.out HB.out.size (below_one _ _), HH.out.kept (below_one _ _), Lies.new w1 55 [_], by have := HB.out.size; omega⟩
theorem dnew_no (n : Int) (w : World) (h : n < 2 ∨ 1024 < n) :
    Calls Try.prog 10 #[.int .i64 n] w fun e w' => e = .returned (.tuple #[.pointer none, .int .i64 1]) ∧ Below w.heap.size w w' := by
  by_cases h1 : n < 2
  · have d1 : decide (n < 2) = true := by simp; omega
    go_enter Try.func10, Try.ntmps10
    go_wp2
    go_ret2
    exact ⟨rfl, Below.refl _ _⟩
  · have d1 : decide (n < 2) = false := by simp; omega
    have d2 : decide (1024 < n) = true := by simp; omega
    go_enter Try.func10, Try.ntmps10
    go_wp2
    go_ret2
    exact ⟨rfl, Below.refl _ _⟩

section
variable {w : World} {base gd g gw gc : Nat} {zs : List Int} {A : Option Addr} {c : Nat} {ts : List Tc} {cl : Cl}

theorem push_any (h : Lies w gd 55 [.pointer (some ⟨g, 0, none⟩)]) (x : Int) : Calls Try.prog 12 #[.pointer (some ⟨gd, 0, none⟩), .int .i64 x] w fun e w' =>
    e = .returned (.pointer (some ⟨w.heap.size, 0, none⟩)) ∧ Lies w' w.heap.size 58 (Cl.cells g ⟨0, 25, 0, 0, x, 0⟩) ∧ Below w.heap.size w w' := by
  have c0 : w.cell? ⟨gd, 0, none⟩ = some (.pointer (some ⟨g, 0, none⟩)) := h.cell 0
  clear h
  go_enter Try.func12, Try.ntmps12
  go_wp2
  go_ret
  exact ⟨rfl, Lies.new w 58 [_, _, _, _, _, _, _], below_one _ _⟩
theorem pop_any (h : Lies w gd 55 [.pointer (some ⟨g, 0, none⟩)]) : Calls Try.prog 13 #[.pointer (some ⟨gd, 0, none⟩)] w fun e w' =>
    e = .returned (.pointer (some ⟨w.heap.size, 0, none⟩)) ∧ Lies w' w.heap.size 58 (Cl.cells g ⟨0, 26, 0, 0, 0, 0⟩) ∧ Below w.heap.size w w' := by
  have c0 : w.cell? ⟨gd, 0, none⟩ = some (.pointer (some ⟨g, 0, none⟩)) := h.cell 0
  clear h
  go_enter Try.func13, Try.ntmps13
  go_wp2
  go_ret
  exact ⟨rfl, Lies.new w 58 [_, _, _, _, _, _, _], below_one _ _⟩
theorem steal_yes (h : Lies w gd 55 [.pointer (some ⟨g, 0, none⟩)]) (k : Int) (h0 : 1 ≤ k) (h1 : k < 64) : Calls Try.prog 14 #[.pointer (some ⟨gd, 0, none⟩), .int .i64 k] w fun e w' =>
    e = .returned (.tuple #[.pointer (some ⟨w.heap.size, 0, none⟩), .int .i64 0]) ∧ Lies w' w.heap.size 58 (Cl.cells g ⟨k, 27, 0, 0, 0, 0⟩) ∧ Below w.heap.size w w' := by
  have c0 : w.cell? ⟨gd, 0, none⟩ = some (.pointer (some ⟨g, 0, none⟩)) := h.cell 0
  have d1 : decide (k ≤ 0) = false := by simp; omega
  have d2 : decide (64 ≤ k) = false := by simp; omega
  clear h
  go_enter Try.func14, Try.ntmps14
  go_wp2
  go_ret2
  exact ⟨rfl, Lies.new w 58 [_, _, _, _, _, _, _], below_one _ _⟩
theorem steal_no (gd : Nat) (k : Int) (h : k < 1 ∨ 64 ≤ k) (w : World) : Calls Try.prog 14 #[.pointer (some ⟨gd, 0, none⟩), .int .i64 k] w fun e w' =>
    e = .returned (.tuple #[.pointer none, .int .i64 1]) ∧ Below w.heap.size w w' := by
  by_cases h1 : k ≤ 0
  · have d1 : decide (k ≤ 0) = true := by simp; omega
    go_enter Try.func14, Try.ntmps14
    go_wp2
    go_ret2
    exact ⟨rfl, Below.refl _ _⟩
  · have d1 : decide (k ≤ 0) = false := by simp; omega
    have d2 : decide (64 ≤ k) = true := by simp; omega
    go_enter Try.func14, Try.ntmps14
    go_wp2
    go_ret2
    exact ⟨rfl, Below.refl _ _⟩
theorem cells_any (h : Lies w gd 55 [.pointer (some ⟨g, 0, none⟩)]) : Calls Try.prog 20 #[.pointer (some ⟨gd, 0, none⟩)] w fun e w' => e = .returned (.pointer (some ⟨g, 0, none⟩)) ∧ w = w' := by
  have c0 : w.cell? ⟨gd, 0, none⟩ = some (.pointer (some ⟨g, 0, none⟩)) := h.cell 0
  clear h
  go_enter Try.func20, Try.ntmps20
  go_wp2
  go_ret
  exact ⟨rfl, rfl⟩

theorem slice3 (q n i j : Nat) (hij : i ≤ j) (hj : j ≤ n) (W : World) : (Instr.slice 28 (.slice (some ⟨q, 0, none⟩) n n) (some (.int .i64 (i : Int))) (some (.int .i64 (j : Int))) (some (.int .i64 (j : Int)))).run Try.prog W = .ok (.slice (some (if i = j then ⟨q, 0, none⟩ else ⟨q, i, none⟩)) (j - i) (j - i)) W := by
  obtain ⟨i0, hi0, hz0, hz1, hz2⟩ := info3
  have e1 : ((j : Int) - (i : Int)).toNat = j - i := by omega
  have a1 : (0 : Int) ≤ i := by omega
  have a2 : (i : Int) ≤ j := by omega
  have a3 : (j : Int) ≤ n := by omega
  by_cases h : i = j
  · subst h
    simp [Instr.slice, run_underlying Try.underlying28, Instr.sliceBounds, go_sem, sizeOf, typeInfo, hi0, hz1, a3, add_at]
  · have : ¬ (j - i = 0) := by omega
    simp [Instr.slice, run_underlying Try.underlying28, Instr.sliceBounds, go_sem, sizeOf, typeInfo, hi0, hz1, a2, a3, h, Ne.symm h, hij, this, add_at]

/-- What stands in a deque: from the top up to the bottom. -/
def rowOf (zs : List Int) : List Int := (zs.drop ((zs.getD 1 0 % 4096).toNat + 2)).take ((zs.getD 0 0).toNat - (zs.getD 1 0 % 4096).toNat)

set_option maxHeartbeats 1000000 in
theorem words_core (h : At w base g gw zs A c ts) (hd : Lies w gd 55 [.pointer (some ⟨g, 0, none⟩)]) (hlen : 4 ≤ zs.length) (b t : Nat) (x : Int) (hb : zs.getD 0 0 = b) (hx : zs.getD 1 0 = x) (hx0 : 0 ≤ x) (hx1 : x < 4398046511104) (ht : x % 4096 = t) (htb : t ≤ b) (hbl : b + 2 ≤ zs.length) :
    Calls Try.prog 15 #[.pointer (some ⟨gd, 0, none⟩)] w fun e w' => ∃ q, e = .returned (.slice (some (if t + 2 = b + 2 then ⟨q, 0, none⟩ else ⟨q, t + 2, none⟩)) (b + 2 - (t + 2)) (b + 2 - (t + 2))) ∧ w.heap.size ≤ q ∧ Lies w' q 3 (zs.map (Value.int .i64)) ∧ Below w.heap.size w w' := by
  have c0 : w.cell? ⟨gd, 0, none⟩ = some (.pointer (some ⟨g, 0, none⟩)) := hd.cell 0
  have hm := h.most
  have T := Lib.hid (words_q h)
  have s3 := fun q => slice3 q zs.length (t + 2) (b + 2) (by omega) hbl
  obtain ⟨f, hf⟩ : ∃ f : Nat → Addr, ∀ q, (if t + 2 = b + 2 then (⟨q, 0, none⟩ : Addr) else ⟨q, t + 2, none⟩) = f q := ⟨_, fun q => rfl⟩
  simp only [hf] at s3 ⊢
  clear hf
  generalize b + 2 - (t + 2) = k at *
  have hl0 : (0 : Int) < (zs.length : Int) := by omega
  have hl1 : (1 : Int) < (zs.length : Int) := by omega
  have z0 : zs[0]? = some (b : Int) := by
    rw [← hb]; simp [List.getD, show 0 < zs.length by omega]
  have z1 : zs[1]? = some x := by
    rw [← hx]; simp [List.getD, show 1 < zs.length by omega]
  clear h hd hb hx
  have m1 : max (b : Int) 0 = b := by omega
  have m2 : min (b : Int) ((zs.length : Int) - 2) = b := by omega
  have m3 : min ((2 : Int) + (t : Int)) (2 + (b : Int)) = 2 + (t : Int) := by omega
  have e1 : ((t + 2 : Nat) : Int) = 2 + (t : Int) := by omega
  have e2 : ((b + 2 : Nat) : Int) = 2 + (b : Int) := by omega
  rw [e1, e2] at s3
  go_enter Try.func15, Try.ntmps15
  go_wp2_with fail
  refine T.out.mono ?_
  rintro e w1 ⟨q, rfl, q1, L, B⟩
  have a0 : w1.cell? ⟨q, 0, none⟩ = some (.int .i64 b) := by rw [L.cell 0]; simp [z0]
  have a1 : w1.cell? ⟨q, 1, none⟩ = some (.int .i64 x) := by rw [L.cell 1]; simp [z1]
  have HL := Lib.hid L
  have HB := Lib.hid B
  clear L B T
  go_wp2_with fail
  have P := Lib.hid (placeOf_any x hx0 (by omega) w1)
  rw [ht] at P
  refine P.out.mono ?_
  rintro e w2 ⟨rfl, rfl⟩
  clear P ht hx0 hx1
  go_wp2
  go_ret
  exact ⟨q, rfl, q1, HL.out, HB.out⟩

/-- Words: what stands in it, as a list. -/
theorem dwords_any (h : At w base g gw zs A c ts) (hd : Lies w gd 55 [.pointer (some ⟨g, 0, none⟩)]) (hlen : 4 ≤ zs.length) (b t : Nat) (hb : zs.getD 0 0 = b) (hx0 : 0 ≤ zs.getD 1 0) (hx1 : zs.getD 1 0 < 4398046511104) (ht : zs.getD 1 0 % 4096 = t) (htb : t ≤ b) (hbl : b + 2 ≤ zs.length) :
    Calls Try.prog 15 #[.pointer (some ⟨gd, 0, none⟩)] w fun e w' => ∃ a, e = .returned (.slice (some a) (b - t) (b - t)) ∧ Row .i64 w' (some a) (rowOf zs) ∧ (rowOf zs).length = b - t ∧ Below w.heap.size w w' := by
  refine (words_core h hd hlen b t _ hb rfl hx0 hx1 ht htb hbl).mono ?_
  rintro e w' ⟨q, rfl, hq, L, B⟩
  have eb : b + 2 - (t + 2) = b - t := by omega
  have hr : rowOf zs = (zs.drop (t + 2)).take (b - t) := by
    unfold rowOf; rw [hb, ht]; simp
  have hrl : (rowOf zs).length = b - t := by rw [hr]; simp; omega
  refine ⟨_, by rw [eb], ?_, hrl, B⟩
  intro h0
  have hne : ¬ (t + 2 = b + 2) := by omega
  rw [if_neg hne]
  refine ⟨_, rfl, L.lt, fun j v hv => ?_⟩
  have hj : j < b - t := by
    have := (List.getElem?_eq_some_iff.1 hv).1
    rw [List.length_map, hrl] at this
    exact this
  have ea : (⟨q, t + 2, none⟩ : Addr).add j = ⟨q, t + 2 + j, none⟩ := by unfold Addr.add; split <;> simp_all
  rw [ea, L.cell, ← hv, hr]
  simp [List.getElem?_take, hj, List.getElem?_drop]
end
end Go.Proofs.Yteaffpkmidaghaa
