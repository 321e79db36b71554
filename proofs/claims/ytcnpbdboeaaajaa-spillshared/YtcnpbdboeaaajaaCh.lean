/- New, Put, Take, Cells, Words. -/
import Derived.Test.YtcnpbdboeaaajaaCg
namespace Go.Proofs.Ytcnpbdboeaaajaa
open Go.RowKit
set_option linter.unusedVariables false
set_option linter.unusedSimpArgs false

/-- A spill of the program: its own word, and its cells. -/
structure Dq (w : World) (base gd g gw : Nat) (zs : List Int) (A : Option Addr) (c : Nat) (ts : List Tc) : Prop where
  at_ : At w base g gw zs A c ts
  own : Lies w gd 58 [.pointer (some ⟨g, 0, none⟩)]
  lo : base ≤ gd

set_option maxRecDepth 100000 in
set_option maxHeartbeats 1000000 in
theorem dnew_yes (z : Int) (n : Nat) (hz : z = n) (w : World) (base : Nat) (hb : base ≤ w.heap.size) (h1 : 1 ≤ n) (h2 : n ≤ 65534) :
    Calls Try.prog 10 #[.int .i64 z] w fun e w' => ∃ gd g gw, e = .returned (.tuple #[.pointer (some ⟨gd, 0, none⟩), .int .i64 0]) ∧ Below w.heap.size w w' ∧ Dq w' base gd g gw (List.replicate (n + 2) 0) none 0 [] := by
  have d1 : decide (z < 1) = false := by simp; omega
  have d2 : decide (65534 < z) = false := by simp; omega
  have e2 : ((n + 2 : Nat) : Int) = 2 + z := by omega
  have T := Lib.hid (new_yes (n + 2) w base hb (by omega) (by omega))
  rw [e2] at T
  have z1 : 1 ≤ z := by omega
  have z2 : z ≤ 65534 := by omega
  have H1 := Lib.hid h1
  have H2 := Lib.hid h2
  have HZ := Lib.hid hz
  clear hz e2 h1 h2
  go_enter Try.func10, Try.ntmps10
  go_wp2_with fail
  refine T.out.mono ?_
  rintro e w1 ⟨g, gw, rfl, B1, q1, q2, H⟩
  have HB := Lib.hid B1
  have HH := Lib.hid H
  clear B1 H T
  go_wp2
  go_ret2
  refine ⟨w1.heap.size, g, gw, rfl, on HB.out HB.out.size (below_one _ _), HH.out.kept (below_one _ _), Lies.new w1 58 [_], by have := HB.out.size; omega⟩
set_option maxRecDepth 100000 in
theorem dnew_no (n : Int) (w : World) (h : n < 1 ∨ 65534 < n) :
    Calls Try.prog 10 #[.int .i64 n] w fun e w' => e = .returned (.tuple #[.pointer none, .int .i64 1]) ∧ Below w.heap.size w w' := by
  by_cases h1 : n < 1
  · have d1 : decide (n < 1) = true := by simp; omega
    go_enter Try.func10, Try.ntmps10
    go_wp2
    go_ret2
    exact ⟨rfl, Below.refl _ _⟩
  · have d1 : decide (n < 1) = false := by simp; omega
    have d2 : decide (65534 < n) = true := by simp; omega
    go_enter Try.func10, Try.ntmps10
    go_wp2
    go_ret2
    exact ⟨rfl, Below.refl _ _⟩

section
variable {w : World} {base gd g gw gc : Nat} {zs : List Int} {A : Option Addr} {c : Nat} {ts : List Tc} {cl : Cl}

theorem begin_yes (h : Lies w gd 58 [.pointer (some ⟨g, 0, none⟩)]) (k x : Int) (m : Nat) (h0 : 0 ≤ k) (h1 : k < 64) : Calls Try.prog 24 #[.pointer (some ⟨gd, 0, none⟩), .int .i64 k, .int .i64 x, .func (.func (m + 1)) #[] #[]] w fun e w' =>
    e = .returned (.tuple #[.pointer (some ⟨w.heap.size, 0, none⟩), .int .i64 0]) ∧ Lies w' w.heap.size 62 (Cl.cells g ⟨k, 27, m + 1, 0, x, 0⟩) ∧ Below w.heap.size w w' := by
  have c0 : w.cell? ⟨gd, 0, none⟩ = some (.pointer (some ⟨g, 0, none⟩)) := h.cell 0
  have d1 : decide (k < 0) = false := by simp; omega
  have d2 : decide (64 ≤ k) = false := by simp; omega
  clear h
  go_enter Try.func24, Try.ntmps24
  go_wp2
  go_ret2
  exact ⟨rfl, Lies.new w 62 [_, _, _, _, _, _, _], below_one _ _⟩
theorem begin_no (gd : Nat) (k x : Int) (v : Value) (h : k < 0 ∨ 64 ≤ k) (w : World) : Calls Try.prog 24 #[.pointer (some ⟨gd, 0, none⟩), .int .i64 k, .int .i64 x, v] w fun e w' =>
    e = .returned (.tuple #[.pointer none, .int .i64 1]) ∧ w = w' := by
  by_cases h1 : k < 0
  · have d1 : decide (k < 0) = true := by simp; omega
    go_enter Try.func24, Try.ntmps24
    go_wp2
    go_ret2
    exact ⟨rfl, rfl⟩
  · have d1 : decide (k < 0) = false := by simp; omega
    have d2 : decide (64 ≤ k) = true := by simp; omega
    go_enter Try.func24, Try.ntmps24
    go_wp2
    go_ret2
    exact ⟨rfl, rfl⟩
theorem put_yes (h : Lies w gd 58 [.pointer (some ⟨g, 0, none⟩)]) (k x : Int) (h0 : 0 ≤ k) (h1 : k < 64) : Calls Try.prog 11 #[.pointer (some ⟨gd, 0, none⟩), .int .i64 k, .int .i64 x] w fun e w' =>
    e = .returned (.tuple #[.pointer (some ⟨w.heap.size, 0, none⟩), .int .i64 0]) ∧ Lies w' w.heap.size 62 (Cl.cells g ⟨k, 27, 25, 0, x, 0⟩) ∧ Below w.heap.size w w' := by
  have T := Lib.hid (begin_yes h k x 24 h0 h1)
  clear h
  go_enter Try.func11, Try.ntmps11
  go_wp2_with fail
  refine T.out.mono ?_
  rintro e w1 ⟨rfl, L, B⟩
  have H := Lib.hid (And.intro L B)
  clear L B
  go_wp2
  go_ret2
  exact ⟨rfl, H.out⟩
theorem put_no (gd : Nat) (k x : Int) (h : k < 0 ∨ 64 ≤ k) (w : World) : Calls Try.prog 11 #[.pointer (some ⟨gd, 0, none⟩), .int .i64 k, .int .i64 x] w fun e w' =>
    e = .returned (.tuple #[.pointer none, .int .i64 1]) ∧ w = w' := by
  have T := Lib.hid (begin_no gd k x (.func (.func 25) #[] #[]) h w)
  clear h
  go_enter Try.func11, Try.ntmps11
  go_wp2_with fail
  refine T.out.mono ?_
  rintro e w1 ⟨rfl, rfl⟩
  go_wp2
  go_ret2
  exact ⟨rfl, rfl⟩
theorem take_yes (h : Lies w gd 58 [.pointer (some ⟨g, 0, none⟩)]) (k : Int) (h0 : 0 ≤ k) (h1 : k < 64) : Calls Try.prog 13 #[.pointer (some ⟨gd, 0, none⟩), .int .i64 k] w fun e w' =>
    e = .returned (.tuple #[.pointer (some ⟨w.heap.size, 0, none⟩), .int .i64 0]) ∧ Lies w' w.heap.size 62 (Cl.cells g ⟨k, 27, 26, 0, 0, 0⟩) ∧ Below w.heap.size w w' := by
  have T := Lib.hid (begin_yes h k 0 25 h0 h1)
  clear h
  go_enter Try.func13, Try.ntmps13
  go_wp2_with fail
  refine T.out.mono ?_
  rintro e w1 ⟨rfl, L, B⟩
  have H := Lib.hid (And.intro L B)
  clear L B
  go_wp2
  go_ret2
  exact ⟨rfl, H.out⟩
theorem take_no (gd : Nat) (k : Int) (h : k < 0 ∨ 64 ≤ k) (w : World) : Calls Try.prog 13 #[.pointer (some ⟨gd, 0, none⟩), .int .i64 k] w fun e w' =>
    e = .returned (.tuple #[.pointer none, .int .i64 1]) ∧ w = w' := by
  have T := Lib.hid (begin_no gd k 0 (.func (.func 26) #[] #[]) h w)
  clear h
  go_enter Try.func13, Try.ntmps13
  go_wp2_with fail
  refine T.out.mono ?_
  rintro e w1 ⟨rfl, rfl⟩
  go_wp2
  go_ret2
  exact ⟨rfl, rfl⟩
theorem cells_any (h : Lies w gd 58 [.pointer (some ⟨g, 0, none⟩)]) : Calls Try.prog 18 #[.pointer (some ⟨gd, 0, none⟩)] w fun e w' => e = .returned (.pointer (some ⟨g, 0, none⟩)) ∧ w = w' := by
  have c0 : w.cell? ⟨gd, 0, none⟩ = some (.pointer (some ⟨g, 0, none⟩)) := h.cell 0
  clear h
  go_enter Try.func18, Try.ntmps18
  go_wp2
  go_ret
  exact ⟨rfl, rfl⟩

theorem slice3 (q n i j : Nat) (hij : i ≤ j) (hj : j ≤ n) (W : World) : (Instr.slice 22 (.slice (some ⟨q, 0, none⟩) n n) (some (.int .i64 (i : Int))) (some (.int .i64 (j : Int))) (some (.int .i64 (j : Int)))).run Try.prog W = .ok (.slice (some (if i = j then ⟨q, 0, none⟩ else ⟨q, i, none⟩)) (j - i) (j - i)) W := by
  obtain ⟨i0, hi0, hz0, hz1, hz2⟩ := info3
  have e1 : ((j : Int) - (i : Int)).toNat = j - i := by omega
  have a1 : (0 : Int) ≤ i := by omega
  have a2 : (i : Int) ≤ j := by omega
  have a3 : (j : Int) ≤ n := by omega
  by_cases h : i = j
  · subst h
    simp [Instr.slice, run_underlying Try.underlying22, Instr.sliceBounds, go_sem, sizeOf, typeInfo, hi0, hz1, a3, add_at]
  · have : ¬ (j - i = 0) := by omega
    simp [Instr.slice, run_underlying Try.underlying22, Instr.sliceBounds, go_sem, sizeOf, typeInfo, hi0, hz1, a2, a3, h, Ne.symm h, hij, this, add_at]

/-- What stands in a spill. -/
def rowOf (zs : List Int) : List Int := (zs.drop 2).take (zs.getD 1 0).toNat

set_option maxHeartbeats 1000000 in
theorem words_core (h : At w base g gw zs A c ts) (hd : Lies w gd 58 [.pointer (some ⟨g, 0, none⟩)]) (hlen : 3 ≤ zs.length) (b : Nat) (hb : zs.getD 1 0 = b) (hbl : b + 2 ≤ zs.length) :
    Calls Try.prog 14 #[.pointer (some ⟨gd, 0, none⟩)] w fun e w' => ∃ q, e = .returned (.slice (some (if 2 = b + 2 then ⟨q, 0, none⟩ else ⟨q, 2, none⟩)) b b) ∧ w.heap.size ≤ q ∧ Lies w' q 3 (zs.map (Value.int .i64)) ∧ Below w.heap.size w w' := by
  have c0 : w.cell? ⟨gd, 0, none⟩ = some (.pointer (some ⟨g, 0, none⟩)) := hd.cell 0
  have hm := h.most
  have T := Lib.hid (words_q h)
  have s3 := fun q => slice3 q zs.length 2 (b + 2) (by omega) hbl
  obtain ⟨f, hf⟩ : ∃ f : Nat → Addr, ∀ q, (if 2 = b + 2 then (⟨q, 0, none⟩ : Addr) else ⟨q, 2, none⟩) = f q := ⟨_, fun q => rfl⟩
  simp only [hf] at s3 ⊢
  clear hf
  have hk : b + 2 - 2 = b := by omega
  rw [hk] at s3
  have hl1 : (1 : Int) < (zs.length : Int) := by omega
  have z1 : zs[1]? = some (b : Int) := by
    rw [← hb]; simp [List.getD, show 1 < zs.length by omega]
  clear h hd hb
  have m1 : max (b : Int) 0 = b := by omega
  have m2 : min (b : Int) ((zs.length : Int) - 2) = b := by omega
  have e2 : ((b + 2 : Nat) : Int) = 2 + (b : Int) := by omega
  have e1 : ((2 : Nat) : Int) = 2 := rfl
  rw [e1, e2] at s3
  go_enter Try.func14, Try.ntmps14
  go_wp2_with fail
  refine T.out.mono ?_
  rintro e w1 ⟨q, rfl, q1, L, B⟩
  have a1 : w1.cell? ⟨q, 1, none⟩ = some (.int .i64 b) := by rw [L.cell 1]; simp [z1]
  have HL := Lib.hid L
  have HB := Lib.hid B
  clear L B T
  go_wp2
  go_ret
  exact ⟨q, rfl, q1, HL.out, HB.out⟩

/-- Words: what stands in it, as a list, in a block of their own. -/
theorem dwords_any (h : At w base g gw zs A c ts) (hd : Lies w gd 58 [.pointer (some ⟨g, 0, none⟩)]) (hlen : 3 ≤ zs.length) (b : Nat) (hb : zs.getD 1 0 = b) (hbl : b + 2 ≤ zs.length) :
    Calls Try.prog 14 #[.pointer (some ⟨gd, 0, none⟩)] w fun e w' => ∃ a, e = .returned (.slice (some a) b b) ∧ Row .i64 w' (some a) (rowOf zs) ∧ (rowOf zs).length = b ∧ w.heap.size ≤ a.block ∧ Below w.heap.size w w' := by
  refine (words_core h hd hlen b hb hbl).mono ?_
  rintro e w' ⟨q, rfl, hq, L, B⟩
  have hr : rowOf zs = (zs.drop 2).take b := by
    unfold rowOf; rw [hb]; simp
  have hrl : (rowOf zs).length = b := by rw [hr]; simp; omega
  refine ⟨_, rfl, ?_, hrl, ?_, B⟩
  · intro h0
    have hne : ¬ (2 = b + 2) := by omega
    rw [if_neg hne]
    refine ⟨_, rfl, L.lt, fun j v hv => ?_⟩
    have hj : j < b := by
      have := (List.getElem?_eq_some_iff.1 hv).1
      rw [List.length_map, hrl] at this
      exact this
    have ea : (⟨q, 2, none⟩ : Addr).add j = ⟨q, 2 + j, none⟩ := by unfold Addr.add; split <;> simp_all
    rw [ea, L.cell, ← hv, hr]
    simp [List.getElem?_take, hj, List.getElem?_drop]
  · split <;> exact hq
end
end Go.Proofs.Ytcnpbdboeaaajaa
