/- A step of any call, as a function of words and call. -/
import Derived.Test.YteaffpkmidaghaaCd
import Derived.Test.YteaffpkmidaghaaCe
import Derived.Test.YteaffpkmidaghaaCf
namespace Go.Proofs.Yteaffpkmidaghaa
open Go.RowKit
set_option linter.unusedVariables false
set_option linter.unusedSimpArgs false

/-- What the next step makes of a call, and of the words. -/
def stepF (zs : List Int) (c : Cl) : Cl × List Int :=
  if c.nx = 25 then (if (zs.length : Int) - 2 ≤ zs.getD 0 0 then ({ c with nx := 0, place := zs.getD 0 0, word := 0, err := 6 }, zs) else ({ c with nx := 33, place := zs.getD 0 0 }, zs))
  else if c.nx = 33 then ({ c with nx := 38 }, zs.set (c.place.toNat + 2) c.word)
  else if c.nx = 38 then ({ c with nx := 0, word := 0 }, zs.set 0 (c.place + 1))
  else if c.nx = 26 then (if zs.getD 0 0 = 0 then ({ c with nx := 0, word := 0, err := 7 }, zs) else ({ c with nx := 34, place := zs.getD 0 0 - 1 }, zs))
  else if c.nx = 34 then ({ c with nx := 39 }, zs.set 0 c.place)
  else if c.nx = 39 then ({ c with nx := 45, word := zs.getD (c.place.toNat + 2) 0 }, zs)
  else if c.nx = 45 then (if zs.getD 1 0 % 4096 < c.place then ({ c with nx := 0, top := zs.getD 1 0 }, zs) else ({ c with nx := 49, top := zs.getD 1 0 }, zs))
  else if c.nx = 49 then (if c.place = c.top % 4096 then ({ c with nx := 54 }, zs.set 0 0) else ({ c with nx := 53 }, zs.set 0 0))
  else if c.nx = 54 then (if zs.getD 1 0 = c.top then ({ c with nx := 0 }, zs.set 1 ((c.top / 4096 + 1) * 4096)) else ({ c with nx := 53 }, zs))
  else if c.nx = 53 then ({ c with nx := 0, word := 0, err := 7 }, zs.set 1 ((c.top / 4096 + 1) * 4096))
  else if c.nx = 27 then ({ c with nx := 35, top := zs.getD 1 0, place := zs.getD 1 0 % 4096 }, zs)
  else if c.nx = 35 then (if zs.getD 0 0 ≤ c.place then ({ c with nx := 0, word := 0, err := 7 }, zs) else ({ c with nx := 40 }, zs))
  else if c.nx = 40 then ({ c with nx := 46, word := zs.getD (c.place.toNat + 2) 0 }, zs)
  else if c.nx = 46 then (if zs.getD 1 0 = c.top then ({ c with nx := 0 }, zs.set 1 (c.place + 1 + c.top / 4096 * 4096)) else ({ c with nx := 0, word := 0, err := 8 }, zs))
  else (c, zs)

/-- A call may take a step. -/
structure Fit (zs : List Int) (c : Cl) : Prop where
  len : 4 ≤ zs.length
  len' : zs.length ≤ 1026
  who : 0 ≤ c.who
  who' : c.who < 64
  bot : 0 ≤ zs.getD 0 0
  bot' : zs.getD 0 0 ≤ (zs.length : Int) - 2
  top : 0 ≤ zs.getD 1 0
  top' : zs.getD 1 0 < 4398046511104
  ctop : 0 ≤ c.top
  ctop' : c.top < 4398046511104
  place : 0 ≤ c.place
  place' : c.place ≤ (zs.length : Int) - 2
  lt : c.nx = 33 ∨ c.nx = 38 ∨ c.nx = 39 ∨ c.nx = 40 → c.place < (zs.length : Int) - 2
  known : c.nx = 25 ∨ c.nx = 33 ∨ c.nx = 38 ∨ c.nx = 26 ∨ c.nx = 34 ∨ c.nx = 39 ∨ c.nx = 45 ∨ c.nx = 49 ∨ c.nx = 54 ∨ c.nx = 53 ∨ c.nx = 27 ∨ c.nx = 35 ∨ c.nx = 40 ∨ c.nx = 46

theorem enter_any {n : Nat} (hn : n = 25 ∨ n = 33 ∨ n = 38 ∨ n = 26 ∨ n = 34 ∨ n = 39 ∨ n = 45 ∨ n = 49 ∨ n = 54 ∨ n = 53 ∨ n = 27 ∨ n = 35 ∨ n = 40 ∨ n = 46) (args : Array Value) (W : World) :
    (callFunc n args).run Try.prog W = .ok (.enter n args) W := by
  rcases hn with rfl | rfl | rfl | rfl | rfl | rfl | rfl | rfl | rfl | rfl | rfl | rfl | rfl | rfl
  · simp [callFunc, go_sem, Try.func25]; kernel_rfl
  · simp [callFunc, go_sem, Try.func33]; kernel_rfl
  · simp [callFunc, go_sem, Try.func38]; kernel_rfl
  · simp [callFunc, go_sem, Try.func26]; kernel_rfl
  · simp [callFunc, go_sem, Try.func34]; kernel_rfl
  · simp [callFunc, go_sem, Try.func39]; kernel_rfl
  · simp [callFunc, go_sem, Try.func45]; kernel_rfl
  · simp [callFunc, go_sem, Try.func49]; kernel_rfl
  · simp [callFunc, go_sem, Try.func54]; kernel_rfl
  · simp [callFunc, go_sem, Try.func53]; kernel_rfl
  · simp [callFunc, go_sem, Try.func27]; kernel_rfl
  · simp [callFunc, go_sem, Try.func35]; kernel_rfl
  · simp [callFunc, go_sem, Try.func40]; kernel_rfl
  · simp [callFunc, go_sem, Try.func46]; kernel_rfl

section
variable {w : World} {base g gw gc : Nat} {zs : List Int} {A : Option Addr} {c : Nat} {ts : List Tc} {cl : Cl}

theorem done_any {w : World} {g gc : Nat} {cl : Cl} (h : Lies w gc 58 (cl.cells g)) : Calls Try.prog 22 #[.pointer (some ⟨gc, 0, none⟩)] w fun e w' => e = .returned (.bool (decide (cl.nx = 0))) ∧ w = w' := by
  by_cases hn : cl.nx = 0
  · rw [decide_eq_true hn]; exact done_yes h hn
  · rw [decide_eq_false hn]; exact done_no h hn

set_option maxHeartbeats 1000000 in
theorem step_core (hl : Lies w gc 58 (cl.cells g)) (n : Nat) (hnx : cl.nx = n + 1) (hen : ∀ args W, (callFunc (n + 1) args).run Try.prog W = .ok (.enter (n + 1) args) W) {zs' : List Int} {cl' : Cl}
    (hc : Calls Try.prog (n + 1) #[.pointer (some ⟨gc, 0, none⟩)] w fun e w' => e = .returned (.tuple #[]) ∧ ∃ t, Dn w w' base gc g gw A zs' (ts ++ [t]) cl') :
    Calls Try.prog 19 #[.pointer (some ⟨gc, 0, none⟩)] w fun e w' => e = .returned (.bool (decide (cl'.nx = 0))) ∧ ∃ t, Dn w w' base gc g gw A zs' (ts ++ [t]) cl' := by
  obtain ⟨c0, c1, c2, c3, c4, c5, c6, fz⟩ := cl_facts hl
  rw [hnx] at c2
  simp only [nextV] at c2
  have q := neq_fun
  have HC := Lib.hid hc
  clear hl hc
  go_enter Try.func19, Try.ntmps19
  go_wp2_with fail
  refine HC.out.mono ?_
  rintro e w1 ⟨rfl, t, D⟩
  have D1 := Lib.hid D
  clear D HC c0 c1 c2 c3 c4 c5 c6 fz
  go_wp2_with fail
  refine (done_any D1.out.lies).mono ?_
  rintro e w2 ⟨rfl, rfl⟩
  go_wp2
  go_ret
  exact ⟨rfl, t, D1.out⟩

theorem step_any (h : At w base g gw zs A c ts) (hl : Lies w gc 58 (cl.cells g)) (hn : ts.length ≤ 1000) (f : Fit zs cl) :
    Calls Try.prog 19 #[.pointer (some ⟨gc, 0, none⟩)] w fun e w' => e = .returned (.bool (decide ((stepF zs cl).1.nx = 0))) ∧ ∃ t, Dn w w' base gc g gw A (stepF zs cl).2 (ts ++ [t]) (stepF zs cl).1 := by
  have hen := fun args W => enter_any f.known args W
  obtain ⟨p, hp⟩ : ∃ p : Nat, cl.place = p := ⟨cl.place.toNat, by have := f.place; omega⟩
  have hpn : cl.place.toNat = p := by omega
  have f1 := f.len
  have f2 := f.len'
  have f3 := f.bot
  have f4 := f.bot'
  have f5 := f.top
  have f6 := f.top'
  have f7 := f.ctop
  have f8 := f.ctop'
  have f9 := f.place
  have f10 := f.place'
  have hlt := f.lt
  have w0 := f.who
  have w1 := f.who'
  rcases f.known with e | e | e | e | e | e | e | e | e | e | e | e | e | e <;> rw [e] at hen
  · refine step_core hl 24 e hen ?_
    by_cases hc : (zs.length : Int) - 2 ≤ zs.getD 0 0
    · simp only [stepF, e, if_pos, if_pos hc]; exact st25_full h hl hn w0 w1 f1 _ rfl hc
    · simp only [stepF, e, if_pos, if_neg hc]; exact st25 h hl hn w0 w1 f1 _ rfl (by omega)
  · refine step_core hl 32 e hen ?_
    have := hlt (by omega)
    simp only [stepF, e, hpn]; exact st33 h hl hn w0 w1 f1 p hp (by omega)
  · refine step_core hl 37 e hen ?_
    have := hlt (by omega)
    have k := st38 h hl hn w0 w1 f1 p hp (by omega)
    rw [← hp] at k
    simp only [stepF, e]; exact k
  · refine step_core hl 25 e hen ?_
    by_cases hc : zs.getD 0 0 = 0
    · simp only [stepF, e, if_pos hc]; exact st26_no h hl hn w0 w1 f1 hc
    · simp only [stepF, e, if_neg hc]; exact st26 h hl hn w0 w1 f1 _ rfl (by omega) (by omega)
  · refine step_core hl 33 e hen ?_
    simp only [stepF, e]; exact st34 h hl hn w0 w1 f1
  · refine step_core hl 38 e hen ?_
    have := hlt (by omega)
    simp only [stepF, e, hpn]; exact st39 h hl hn w0 w1 f1 p hp (by omega)
  · refine step_core hl 44 e hen ?_
    by_cases hc : zs.getD 1 0 % 4096 < cl.place
    · simp only [stepF, e, if_pos hc]; exact st45_take h hl hn w0 w1 f1 _ rfl f5 f6 hc
    · simp only [stepF, e, if_neg hc]; exact st45 h hl hn w0 w1 f1 _ rfl f5 f6 (by omega)
  · refine step_core hl 48 e hen ?_
    by_cases hc : cl.place = cl.top % 4096
    · simp only [stepF, e, if_pos hc]; exact st49_eq h hl hn w0 w1 f1 f7 f8 hc
    · simp only [stepF, e, if_neg hc]; exact st49 h hl hn w0 w1 f1 f7 f8 hc
  · refine step_core hl 53 e hen ?_
    by_cases hc : zs.getD 1 0 = cl.top
    · simp only [stepF, e, if_pos hc]; exact st54_hit h hl hn w0 w1 f1 f7 f8 hc
    · simp only [stepF, e, if_neg hc]; exact st54_miss h hl hn w0 w1 f1 f7 f8 hc
  · refine step_core hl 52 e hen ?_
    simp only [stepF, e]; exact st53 h hl hn w0 w1 f1 f7 f8
  · refine step_core hl 26 e hen ?_
    simp only [stepF, e]; exact st27 h hl hn w0 w1 f1 _ rfl f5 f6
  · refine step_core hl 34 e hen ?_
    by_cases hc : zs.getD 0 0 ≤ cl.place
    · simp only [stepF, e, if_pos hc]; exact st35_empty h hl hn w0 w1 f1 _ rfl hc
    · have hc' : cl.place < zs.getD 0 0 := by omega
      simp only [stepF, e, if_neg hc]; exact st35 h hl hn w0 w1 f1 _ rfl hc'
  · refine step_core hl 39 e hen ?_
    have := hlt (by omega)
    simp only [stepF, e, hpn]; exact st40 h hl hn w0 w1 f1 p hp (by omega)
  · refine step_core hl 45 e hen ?_
    by_cases hc : zs.getD 1 0 = cl.top
    · simp only [stepF, e, if_pos hc]; exact st46_hit h hl hn w0 w1 f1 f7 f8 f9 (by omega) hc
    · simp only [stepF, e, if_neg hc]; exact st46_miss h hl hn w0 w1 f1 f7 f8 f9 (by omega) hc

set_option maxHeartbeats 1000000 in
theorem step_over {w : World} {g gc : Nat} {cl : Cl} (hl : Lies w gc 58 (cl.cells g)) (h0 : cl.nx = 0) : Calls Try.prog 19 #[.pointer (some ⟨gc, 0, none⟩)] w fun e w' => e = .returned (.bool true) ∧ w = w' := by
  obtain ⟨c0, c1, c2, c3, c4, c5, c6, fz⟩ := cl_facts hl
  rw [h0] at c2
  simp only [nextV] at c2
  have q := neq_nil
  have HC := Lib.hid (done_yes hl h0)
  clear hl
  go_enter Try.func19, Try.ntmps19
  go_wp2_with fail
  refine HC.out.mono ?_
  rintro e w1 ⟨rfl, rfl⟩
  go_wp2
  go_ret
  exact ⟨rfl, rfl⟩

theorem result_yes {w : World} {g gc : Nat} {cl : Cl} (hl : Lies w gc 58 (cl.cells g)) (h0 : cl.nx = 0) : Calls Try.prog 17 #[.pointer (some ⟨gc, 0, none⟩)] w fun e w' => e = .returned (.tuple #[.int .i64 cl.word, .int .i64 cl.err]) ∧ Below w.heap.size w w' := by
  obtain ⟨c0, c1, c2, c3, c4, c5, c6, fz⟩ := cl_facts hl
  have HC := Lib.hid (done_yes hl h0)
  have HB := Lib.hid (below_drewN w)
  clear hl
  go_enter Try.func17, Try.ntmps17
  go_wp2_with fail
  refine HC.out.mono ?_
  rintro e w1 ⟨rfl, rfl⟩
  go_wp2_with fail
  go_quiet (fail)
  go_wp2
  go_ret2
  exact ⟨rfl, HB.out _⟩
theorem result_no {w : World} {g gc : Nat} {cl : Cl} (hl : Lies w gc 58 (cl.cells g)) (h0 : cl.nx ≠ 0) : Calls Try.prog 17 #[.pointer (some ⟨gc, 0, none⟩)] w fun e w' => e = .returned (.tuple #[.int .i64 0, .int .i64 9]) ∧ Below w.heap.size w w' := by
  have HC := Lib.hid (done_no hl h0)
  clear hl
  go_enter Try.func17, Try.ntmps17
  go_wp2_with fail
  refine HC.out.mono ?_
  rintro e w1 ⟨rfl, rfl⟩
  go_wp2
  go_ret2
  exact ⟨rfl, Below.refl _ _⟩
end
end Go.Proofs.Yteaffpkmidaghaa
