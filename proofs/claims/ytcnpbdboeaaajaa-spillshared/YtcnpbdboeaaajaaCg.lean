/- A step of any call, as a function of words and call. -/
import Derived.Test.YtcnpbdboeaaajaaCd
namespace Go.Proofs.Ytcnpbdboeaaajaa
open Go.RowKit
set_option linter.unusedVariables false
set_option linter.unusedSimpArgs false

/-- What the next step makes of a call, and of the words. -/
def stepF (zs : List Int) (c : Cl) : Cl × List Int :=
  if c.nx = 27 then (if zs.getD 0 0 = 0 then ({ c with nx := 34 }, zs.set 0 (c.who + 1)) else (c, zs))
  else if c.nx = 34 then ({ c with nx := c.mv, many := zs.getD 1 0 }, zs)
  else if c.nx = 25 then (if (zs.length : Int) - 2 ≤ c.many then ({ c with nx := 0, word := 0, err := 6 }, zs.set 0 0) else ({ c with nx := 31, many := c.many + 1, word := 0 }, zs.set (c.many.toNat + 2) c.word))
  else if c.nx = 26 then (if c.many ≤ 0 then ({ c with nx := 0, word := 0, err := 7 }, zs.set 0 0) else ({ c with nx := 31, many := c.many - 1, word := zs.getD ((c.many - 1).toNat + 2) 0 }, zs))
  else if c.nx = 31 then ({ c with nx := 35 }, zs.set 1 c.many)
  else if c.nx = 35 then ({ c with nx := 0 }, zs.set 0 0)
  else (c, zs)

/-- A call may take a step. -/
structure Fit (zs : List Int) (c : Cl) : Prop where
  len : 3 ≤ zs.length
  who : 0 ≤ c.who
  who' : c.who < 64
  mv : c.mv = 25 ∨ c.mv = 26
  many : 0 ≤ c.many
  many' : c.many ≤ (zs.length : Int) - 2
  known : c.nx = 27 ∨ c.nx = 34 ∨ c.nx = 25 ∨ c.nx = 26 ∨ c.nx = 31 ∨ c.nx = 35

theorem enter_any {n : Nat} (hn : n = 27 ∨ n = 34 ∨ n = 25 ∨ n = 26 ∨ n = 31 ∨ n = 35) (args : Array Value) (W : World) :
    (callFunc n args).run Try.prog W = .ok (.enter n args) W := by
  rcases hn with rfl | rfl | rfl | rfl | rfl | rfl
  · simp [callFunc, go_sem, Try.func27]; kernel_rfl
  · simp [callFunc, go_sem, Try.func34]; kernel_rfl
  · simp [callFunc, go_sem, Try.func25]; kernel_rfl
  · simp [callFunc, go_sem, Try.func26]; kernel_rfl
  · simp [callFunc, go_sem, Try.func31]; kernel_rfl
  · simp [callFunc, go_sem, Try.func35]; kernel_rfl

section
variable {w : World} {base g gw gc : Nat} {zs : List Int} {A : Option Addr} {c : Nat} {ts : List Tc} {cl : Cl}

theorem done_any {w : World} {g gc : Nat} {cl : Cl} (h : Lies w gc 62 (cl.cells g)) : Calls Try.prog 20 #[.pointer (some ⟨gc, 0, none⟩)] w fun e w' => e = .returned (.bool (decide (cl.nx = 0))) ∧ w = w' := by
  by_cases hn : cl.nx = 0
  · rw [decide_eq_true hn]; exact done_yes h hn
  · rw [decide_eq_false hn]; exact done_no h hn

set_option maxHeartbeats 1000000 in
theorem step_core (hl : Lies w gc 62 (cl.cells g)) (n : Nat) (hnx : cl.nx = n + 1) (hen : ∀ args W, (callFunc (n + 1) args).run Try.prog W = .ok (.enter (n + 1) args) W) {zs' : List Int} {cl' : Cl}
    (hc : Calls Try.prog (n + 1) #[.pointer (some ⟨gc, 0, none⟩)] w fun e w' => e = .returned (.tuple #[]) ∧ ∃ t, Dn w w' base gc g gw A zs' (ts ++ [t]) cl') :
    Calls Try.prog 16 #[.pointer (some ⟨gc, 0, none⟩)] w fun e w' => e = .returned (.bool (decide (cl'.nx = 0))) ∧ ∃ t, Dn w w' base gc g gw A zs' (ts ++ [t]) cl' := by
  obtain ⟨c0, c1, c2, c3, c4, c5, c6, fz⟩ := cl_facts hl
  rw [hnx] at c2
  simp only [nextV] at c2
  have q := neq_fun
  have HC := Lib.hid hc
  clear hl hc
  go_enter Try.func16, Try.ntmps16
  go_wp2_with fail
  refine HC.out.mono ?_
  rintro e w1 ⟨rfl, t, D⟩
  have D1 := Lib.hid D
  clear D HC c0 c1 c2 c3 c4 c5 c6 fz
  go_wp2_with fail
  refine (done_any D1.out.lies).mono ?_
  rintro e w2 ⟨rfl, rfl⟩
  go_wp2
  go_ret
  exact ⟨rfl, t, D1.out⟩

theorem step_any (h : At w base g gw zs A c ts) (hl : Lies w gc 62 (cl.cells g)) (hn : ts.length ≤ 30000) (f : Fit zs cl) :
    Calls Try.prog 16 #[.pointer (some ⟨gc, 0, none⟩)] w fun e w' => e = .returned (.bool (decide ((stepF zs cl).1.nx = 0))) ∧ ∃ t, Dn w w' base gc g gw A (stepF zs cl).2 (ts ++ [t]) (stepF zs cl).1 := by
  have hen := fun args W => enter_any f.known args W
  have f1 := f.len
  have f9 := f.many
  have f10 := f.many'
  have w0 := f.who
  have w1 := f.who'
  rcases f.known with e | e | e | e | e | e <;> rw [e] at hen
  · refine step_core hl 26 e hen ?_
    by_cases hc : zs.getD 0 0 = 0
    · simp only [stepF, e, if_pos, if_pos hc]; exact st27 h hl hn w0 w1 (by omega) hc
    · simp only [stepF, e, if_pos, if_neg hc]; exact st27_miss h hl hn w0 w1 (by omega) hc
  · refine step_core hl 33 e hen ?_
    rcases f.mv with m | m
    · have E : stepF zs cl = ({ cl with nx := 24 + 1, many := zs.getD 1 0 }, zs) := by simp [stepF, e, m]
      rw [E]; exact st34 h hl hn w0 w1 f1 _ rfl 24 m
    · have E : stepF zs cl = ({ cl with nx := 25 + 1, many := zs.getD 1 0 }, zs) := by simp [stepF, e, m]
      rw [E]; exact st34 h hl hn w0 w1 f1 _ rfl 25 m
  · refine step_core hl 24 e hen ?_
    by_cases hc : (zs.length : Int) - 2 ≤ cl.many
    · simp only [stepF, e, if_pos hc]; exact st25_full h hl hn w0 w1 f1 hc
    · obtain ⟨p, hp⟩ : ∃ p : Nat, cl.many = p := ⟨cl.many.toNat, by omega⟩
      have E : stepF zs cl = ({ cl with nx := 31, many := (p : Int) + 1, word := 0 }, zs.set (p + 2) cl.word) := by
        have hc' : ¬ (zs.length : Int) - 2 ≤ (p : Int) := by omega
        simp [stepF, e, hp, hc']
      rw [E]; exact st25 h hl hn w0 w1 f1 p hp (by omega)
  · refine step_core hl 25 e hen ?_
    by_cases hc : cl.many ≤ 0
    · simp only [stepF, e, if_pos hc]; exact st26_no h hl hn w0 w1 f1 hc
    · obtain ⟨p, hp⟩ : ∃ p : Nat, cl.many = (p : Int) + 1 := ⟨(cl.many - 1).toNat, by omega⟩
      have hp' : cl.many - 1 = (p : Int) := by omega
      have E : stepF zs cl = ({ cl with nx := 31, many := (p : Int), word := zs.getD (p + 2) 0 }, zs) := by simp [stepF, e, hc, hp']
      rw [E]; exact st26 h hl hn w0 w1 f1 p hp (by omega) _ rfl
  · refine step_core hl 30 e hen ?_
    simp only [stepF, e]; exact st31 h hl hn w0 w1 f1
  · refine step_core hl 34 e hen ?_
    simp only [stepF, e]; exact st35 h hl hn w0 w1 f1

set_option maxHeartbeats 1000000 in
theorem step_over {w : World} {g gc : Nat} {cl : Cl} (hl : Lies w gc 62 (cl.cells g)) (h0 : cl.nx = 0) : Calls Try.prog 16 #[.pointer (some ⟨gc, 0, none⟩)] w fun e w' => e = .returned (.bool true) ∧ w = w' := by
  obtain ⟨c0, c1, c2, c3, c4, c5, c6, fz⟩ := cl_facts hl
  rw [h0] at c2
  simp only [nextV] at c2
  have q := neq_nil
  have HC := Lib.hid (done_yes hl h0)
  clear hl
  go_enter Try.func16, Try.ntmps16
  go_wp2_with fail
  refine HC.out.mono ?_
  rintro e w1 ⟨rfl, rfl⟩
  go_wp2
  go_ret
  exact ⟨rfl, rfl⟩

theorem result_yes {w : World} {g gc : Nat} {cl : Cl} (hl : Lies w gc 62 (cl.cells g)) (h0 : cl.nx = 0) : Calls Try.prog 17 #[.pointer (some ⟨gc, 0, none⟩)] w fun e w' => e = .returned (.tuple #[.int .i64 cl.word, .int .i64 cl.err]) ∧ Below w.heap.size w w' := by
  obtain ⟨c0, c1, c2, c3, c4, c5, c6, fz⟩ := cl_facts hl
  have HC := Lib.hid (done_yes hl h0)
  have HB := Lib.hid (below_drewN w)
  clear hl
  go_enter Try.func17, Try.ntmps17
  go_wp2_with fail
  refine HC.out.mono ?_
  rintro e w1 ⟨rfl, rfl⟩
  go_wp2_with fail
  go_quiet (fail)
  go_wp2
  go_ret2
  exact ⟨rfl, HB.out _⟩
theorem result_no {w : World} {g gc : Nat} {cl : Cl} (hl : Lies w gc 62 (cl.cells g)) (h0 : cl.nx ≠ 0) : Calls Try.prog 17 #[.pointer (some ⟨gc, 0, none⟩)] w fun e w' => e = .returned (.tuple #[.int .i64 0, .int .i64 9]) ∧ Below w.heap.size w w' := by
  have HC := Lib.hid (done_no hl h0)
  clear hl
  go_enter Try.func17, Try.ntmps17
  go_wp2_with fail
  refine HC.out.mono ?_
  rintro e w1 ⟨rfl, rfl⟩
  go_wp2
  go_ret2
  exact ⟨rfl, Below.refl _ _⟩
end
end Go.Proofs.Ytcnpbdboeaaajaa
