/- New, Len, Clear and Words. -/
import Derived.Test.YtpifnhfdbcckjaaFour
namespace Go.Proofs.Ytpifnhfdbcckjaa
open Go.RowKit
set_option linter.unusedVariables false
set_option linter.unusedSimpArgs false

def noughts (n : Nat) : List Value := List.replicate n (.int .i64 0)
theorem noughts_length (n : Nat) : (noughts n).length = n := by simp [noughts]
theorem noughts_eq (n : Nat) : noughts n = (List.replicate n (0 : Int)).map (Value.int .i64) := by simp [noughts]
theorem made_one (z : Value) (n : Nat) : madeCells #[z] n = (List.replicate n z).toArray := by
  apply Array.ext
  · simp [madeCells]
  · intro i h1 h2
    simp [madeCells, Nat.mod_one]
theorem info3 : ∃ i, Try.prog.info? 3 = some i ∧ i.zero = some (.int .i64 0) ∧ i.size = 1 ∧ i.bytes = 8 := ⟨_, rfl, rfl, rfl, rfl⟩

theorem make29 (n : Nat) (hn : n ≤ 65536) (w : World) : (Instr.makeSlice 50 (.int .i64 (n : Int)) (.int .i64 (n : Int))).run Try.prog w = .ok (.slice (some ⟨w.heap.size, 0, none⟩) n n) (w.alloc (.cells (noughts n).toArray 3)) := by
  obtain ⟨i0, hi0, hz0, hz1, hz2⟩ := info3
  have := run_make (P := Try.prog) w 50 3 i0 _ Try.underlying50 hi0 hz0 .i64 .i64 n n (by omega) (Int.le_refl _) (by rw [hz2]; omega) (by omega)
  rw [this, hz1]
  simp [Value.cells, made_one, noughts]

set_option maxRecDepth 100000 in
set_option maxHeartbeats 1000000 in
theorem new_yes (n : Nat) (w : World) (base : Nat) (hb : base ≤ w.heap.size) (h1 : 1 ≤ n) (h2 : n ≤ 65536) :
    Calls Try.prog 14 #[.int .i64 (n : Int)] w fun e w' => ∃ g gw, e = .returned (.tuple #[.pointer (some ⟨g, 0, none⟩), .int .i64 0]) ∧ Below w.heap.size w w' ∧ w.heap.size ≤ g ∧ w.heap.size ≤ gw ∧ At w' base g gw (List.replicate n 0) none 0 [] := by
  have hmk := make29 n h2
  have d1 : decide ((n : Int) < 1) = false := by simp; omega
  have d2 : decide (65536 < (n : Int)) = false := by simp; omega
  obtain ⟨X, hX⟩ : ∃ X : Obj, X = .cells (noughts n).toArray 3 := ⟨_, rfl⟩
  have HB := Lib.hid (below_one w X)
  have hL0 : Hid (Lies (w.alloc X) w.heap.size 3 (noughts n)) := Lib.hid (by rw [hX]; exact Lies.new w 3 (noughts n))
  have HS : Hid ((w.alloc X).heap.size = w.heap.size + 1) := Lib.hid (by simp)
  rw [← hX] at hmk
  clear hX
  go_enter Try.func14, Try.ntmps14
  go_wp2
  go_ret2
  refine ⟨w.heap.size + 1, w.heap.size, rfl, on HB.out HB.out.size (below_one _ _), by omega, Nat.le_refl _, ?_⟩
  have L1 := Lies.new (w.alloc X) 53 [.slice (some ⟨w.heap.size, 0, none⟩) n n, .slice none 0 0, .int .i64 0]
  rw [HS.out] at L1
  have L0 := hL0.out.alloc (.cells [.slice (some ⟨w.heap.size, 0, none⟩) n n, .slice none 0 0, .int .i64 0].toArray 53)
  refine ⟨by simpa using L1, by rw [← noughts_eq]; exact L0, World.ownsRow_nil _ _ _ _, by simp; omega, by simp; omega, by omega, hb⟩

set_option maxRecDepth 100000 in
set_option maxHeartbeats 1000000 in
theorem new_no (n : Int) (w : World) (h : n < 1 ∨ 65536 < n) :
    Calls Try.prog 14 #[.int .i64 n] w fun e w' => e = .returned (.tuple #[.pointer none, .int .i64 1]) ∧ Below w.heap.size w w' := by
  by_cases h1 : n < 1
  · have d1 : decide (n < 1) = true := by simp; omega
    go_enter Try.func14, Try.ntmps14
    go_wp2
    go_ret2
    exact ⟨rfl, Below.refl _ _⟩
  · have d1 : decide (n < 1) = false := by simp; omega
    have d2 : decide (65536 < n) = true := by simp; omega
    go_enter Try.func14, Try.ntmps14
    go_wp2
    go_ret2
    exact ⟨rfl, Below.refl _ _⟩

section
variable {w : World} {base g gw : Nat} {zs : List Int} {A : Option Addr} {c : Nat} {ts : List Tc}

theorem At.cleared (h : At w base g gw zs A c ts) : At ((w.setCell ⟨g, 1, none⟩ (.slice none 0 0)).setCell ⟨g, 2, none⟩ (.int .i64 0)) base g gw zs none 0 [] :=
  ⟨by simpa using (h.own.set 1 (.slice none 0 0)).set 2 (.int .i64 0), (h.words.far (p := ⟨g, 1, none⟩) h.gne.symm _).far (p := ⟨g, 2, none⟩) h.gne.symm _, World.ownsRow_nil _ _ _ _, h.some_, h.most, h.lo, h.lo'⟩

end
end Go.Proofs.Ytpifnhfdbcckjaa
