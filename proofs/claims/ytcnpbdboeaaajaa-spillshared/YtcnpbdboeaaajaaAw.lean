/- The document's example; calls one behind the other. -/
import Derived.Test.YtcnpbdboeaaajaaPb
namespace Go.Proofs.Ytcnpbdboeaaajaa
open Go.RowKit
set_option linter.unusedVariables false
set_option linter.unusedSimpArgs false

/-- The example's put, step by step. -/
def it : Nat → Cl × List Int
  | 0 => (⟨0, 27, 25, 0, 5, 0⟩, [0, 0, 0, 0])
  | j + 1 => stepF (it j).2 (it j).1
theorem it1 : it 1 = (⟨0, 34, 25, 0, 5, 0⟩, [1, 0, 0, 0]) := rfl
theorem it2 : it 2 = (⟨0, 25, 25, 0, 5, 0⟩, [1, 0, 0, 0]) := rfl
theorem it3 : it 3 = (⟨0, 31, 25, 1, 0, 0⟩, [1, 0, 5, 0]) := rfl
theorem it4 : it 4 = (⟨0, 35, 25, 1, 0, 0⟩, [1, 1, 5, 0]) := rfl
theorem it5 : it 5 = (⟨0, 0, 25, 1, 0, 0⟩, [0, 1, 5, 0]) := rfl
theorem it_fit (j : Nat) (h : j < 5) : Fit (it j).2 (it j).1 := by
  rcases (by omega : j = 0 ∨ j = 1 ∨ j = 2 ∨ j = 3 ∨ j = 4) with rfl | rfl | rfl | rfl | rfl
  · exact ⟨by decide, by decide, by decide, by decide, by decide, by decide, by decide⟩
  · rw [it1]; exact ⟨by decide, by decide, by decide, by decide, by decide, by decide, by decide⟩
  · rw [it2]; exact ⟨by decide, by decide, by decide, by decide, by decide, by decide, by decide⟩
  · rw [it3]; exact ⟨by decide, by decide, by decide, by decide, by decide, by decide, by decide⟩
  · rw [it4]; exact ⟨by decide, by decide, by decide, by decide, by decide, by decide, by decide⟩
theorem it_nx (j : Nat) (h : j < 4) : (it (j + 1)).1.nx ≠ 0 := by
  rcases (by omega : j = 0 ∨ j = 1 ∨ j = 2 ∨ j = 3) with rfl | rfl | rfl | rfl
  · rw [it1]; decide
  · rw [it2]; decide
  · rw [it3]; decide
  · rw [it4]; decide
/-- The example, so far. -/
def Ex5 (w0 w : World) (gd g gw gc j : Nat) : Prop := ∃ A c ts, Dq w w0.heap.size gd g gw (it j).2 A c ts ∧ ts.length = j ∧ Lies w gc 62 ((it j).1.cells g) ∧ w0.heap.size ≤ gc ∧ Below w0.heap.size w0 w
theorem ex5_step {w0 w : World} {gd g gw gc j : Nat} (h : Ex5 w0 w gd g gw gc j) (hj : j < 5) : Calls Try.prog 16 #[.pointer (some ⟨gc, 0, none⟩)] w fun e w' => e = .returned (.bool (decide (j = 4))) ∧ Ex5 w0 w' gd g gw gc (j + 1) := by
  obtain ⟨A, c, ts, H, hts, L, lo, B⟩ := h
  refine (step_any H.at_ L (by omega) (it_fit j hj)).mono ?_
  rintro e w' ⟨rfl, t, D⟩
  have hb : decide ((stepF (it j).2 (it j).1).1.nx = 0) = decide (j = 4) := by
    by_cases h4 : j = 4
    · subst h4; rfl
    · have h5 : (stepF (it j).2 (it j).1).1.nx ≠ 0 := it_nx j (by omega)
      rw [decide_eq_false h4, decide_eq_false h5]
  have hlow := D.low H.at_ lo
  have hd := D.lies62 H.at_ H.own (H.own.apart L (by decide)) (by decide) (by decide) (by decide)
  have hself := D.lies
  obtain ⟨A', c', H', _⟩ := D
  exact ⟨by rw [hb], A', c', _, ⟨H', hd, H.lo⟩, by simp [hts], hself, lo, B.trans hlow⟩
theorem ex5_words {w0 w : World} {gd g gw gc : Nat} (h : Ex5 w0 w gd g gw gc 5) : Calls Try.prog 14 #[.pointer (some ⟨gd, 0, none⟩)] w fun e w' => ∃ a, e = .returned (.slice (some a) 1 1) ∧ w'.cell? a = some (.int .i64 5) ∧ Ex5 w0 w' gd g gw gc 5 := by
  have h' := h
  obtain ⟨A, c, ts, H, hts, L, lo, B⟩ := h
  refine (dwords_any H.at_ H.own (by decide) 1 (by rw [it5]; rfl) (by decide)).mono ?_
  rintro e w' ⟨a, rfl, R, hl, _, b⟩
  have hr : rowOf (it 5).2 = [5] := by rw [it5]; rfl
  rw [hr] at R
  obtain ⟨ad, e8, c8⟩ := R.at_ (i := 0) (by simp)
  injection e8 with e8
  subst e8
  simp only [List.getElem_cons_zero] at c8
  rw [show a.add 0 = a from by unfold Addr.add; split <;> simp_all] at c8
  exact ⟨a, rfl, c8, A, c, ts, H.kept b, hts, L.kept b, lo, on B B.size b⟩

set_option maxHeartbeats 2000000 in
theorem awake_any (w : World) : Calls Try.prog 9 #[] w fun e w' => e = .returned (.bool true) ∧ Below w.heap.size w w' := by
  have n1 := nil28
  have n2 := nil24
  go_enter Try.func9, Try.ntmps9
  go_wp2_with fail
  refine (dnew_yes 2 2 rfl w w.heap.size (Nat.le_refl _) (by omega) (by omega)).mono ?_
  rintro e w1 ⟨gd, g, gw, rfl, B1, H1⟩
  have HB1 := Lib.hid B1
  have HH1 := Lib.hid H1
  clear B1 H1
  go_wp2_with fail
  refine (put_yes HH1.out.own 0 5 (by omega) (by omega)).mono ?_
  rintro e w2 ⟨rfl, L2, B2⟩
  have X2 : Hid (Ex5 w w2 gd g gw w1.heap.size 0) := Lib.hid ⟨none, 0, [], HH1.out.kept B2, rfl, L2, HB1.out.size, on HB1.out HB1.out.size B2⟩
  clear L2 B2 HH1 HB1
  generalize w1.heap.size = gc at *
  go_wp2_with fail
  go_loopw [5] (fun v wr => ∃ j : Nat, j ≤ 4 ∧ v = .int .i64 j ∧ Ex5 w wr gd g gw gc j) (fun v _ => 9 - (intOf v).toNat)
  case atStart => exact ⟨0, by omega, rfl, X2.out⟩
  case round =>
    obtain ⟨j, hj, rfl, X⟩ := hrel
    have HX := Lib.hid X
    clear X X2
    have hj9 : (j : Int) < 9 := by omega
    go_wp2_with fail
    refine (ex5_step HX.out (by omega)).mono ?_
    rintro e w3 ⟨rfl, X3⟩
    have HX3 := Lib.hid X3
    clear X3
    by_cases h4 : j = 4
    · rw [decide_eq_true h4]
      subst h4
      go_wp2_with fail
      refine (ex5_words HX3.out).mono ?_
      rintro e w4 ⟨a4, rfl, c4, X4⟩
      have HX4 := Lib.hid X4
      clear X4 c4
      go_wp2_with fail
      refine (ex5_words HX4.out).mono ?_
      rintro e w5 ⟨a5, rfl, c5, X5⟩
      have HX5 : Hid (Below w.heap.size w w5) := Lib.hid (by obtain ⟨_, _, _, _, _, _, _, B⟩ := X5; exact B)
      clear X5
      go_wp2
      go_ret
      exact ⟨rfl, HX5.out⟩
    · rw [decide_eq_false h4]
      go_wp2
      exact ⟨⟨j + 1, by omega, by go_num, HX3.out⟩, by simp [intOf]; omega⟩

section
variable {w0 w w' : World} {gd g gw n : Nat} {pile : List Int} {k : Nat} {gc : Nat} {x who : Int}
theorem put_ok (h : Conc w0 w gd g gw n pile [some (gc, ⟨who, 27, 25, 0, x, 0⟩, x)] k) (hl : pile.length < n) (hk : k + 5 ≤ 30000) :
    Calls Try.prog 12 #[.pointer (some ⟨gc, 0, none⟩)] w fun e w' => e = .returned (.tuple #[.int .i64 0, .int .i64 0]) ∧ ∃ k', Conc w0 w' gd g gw n (pile ++ [x]) [] k' ∧ k' ≤ k + 5 ∧ KeptB w w' gc g gw := by
  refine (seq_done h rfl hk).mono ?_
  rintro e w' ⟨cl', pile', k', rfl, C, hk', O, K⟩
  rcases O with ⟨_, e1, e2, rfl, _⟩ | ⟨_, _, _, _, e⟩ | ⟨e, _⟩ | ⟨e, _⟩
  · exact ⟨by rw [e1, e2], k', C, hk', K⟩
  · omega
  · cases e
  · cases e
theorem put_full (h : Conc w0 w gd g gw n pile [some (gc, ⟨who, 27, 25, 0, x, 0⟩, x)] k) (hl : pile.length = n) (hk : k + 5 ≤ 30000) :
    Calls Try.prog 12 #[.pointer (some ⟨gc, 0, none⟩)] w fun e w' => e = .returned (.tuple #[.int .i64 0, .int .i64 6]) ∧ ∃ k', Conc w0 w' gd g gw n pile [] k' ∧ k' ≤ k + 5 ∧ KeptB w w' gc g gw := by
  refine (seq_done h rfl hk).mono ?_
  rintro e w' ⟨cl', pile', k', rfl, C, hk', O, K⟩
  rcases O with ⟨_, _, _, _, e⟩ | ⟨_, e1, e2, rfl, _⟩ | ⟨e, _⟩ | ⟨e, _⟩
  · omega
  · exact ⟨by rw [e1, e2], k', C, hk', K⟩
  · cases e
  · cases e
theorem take_ok {y : Int} (h : Conc w0 w gd g gw n (pile ++ [y]) [some (gc, ⟨who, 27, 26, 0, 0, 0⟩, x)] k) (hk : k + 5 ≤ 30000) :
    Calls Try.prog 12 #[.pointer (some ⟨gc, 0, none⟩)] w fun e w' => e = .returned (.tuple #[.int .i64 y, .int .i64 0]) ∧ ∃ k', Conc w0 w' gd g gw n pile [] k' ∧ k' ≤ k + 5 ∧ KeptB w w' gc g gw := by
  refine (seq_done h rfl hk).mono ?_
  rintro e w' ⟨cl', pile', k', rfl, C, hk', O, K⟩
  rcases O with ⟨e, _⟩ | ⟨e, _⟩ | ⟨_, e1, e2⟩ | ⟨_, _, _, e, _⟩
  · cases e
  · cases e
  · obtain ⟨rfl, e3⟩ := List.append_inj' e2 rfl
    injection e3 with e3
    exact ⟨by rw [e1, e3], k', C, hk', K⟩
  · simp at e
theorem take_empty (h : Conc w0 w gd g gw n [] [some (gc, ⟨who, 27, 26, 0, 0, 0⟩, x)] k) (hk : k + 5 ≤ 30000) :
    Calls Try.prog 12 #[.pointer (some ⟨gc, 0, none⟩)] w fun e w' => e = .returned (.tuple #[.int .i64 0, .int .i64 7]) ∧ ∃ k', Conc w0 w' gd g gw n [] [] k' ∧ k' ≤ k + 5 ∧ KeptB w w' gc g gw := by
  refine (seq_done h rfl hk).mono ?_
  rintro e w' ⟨cl', pile', k', rfl, C, hk', O, K⟩
  rcases O with ⟨e, _⟩ | ⟨e, _⟩ | ⟨_, e1, e2⟩ | ⟨_, e1, e2, _, rfl⟩
  · cases e
  · cases e
  · simp at e2
  · exact ⟨by rw [e1, e2], k', C, hk', K⟩
theorem free_nil : Free [] := fun i gc c x e => by simp at e
end
end Go.Proofs.Ytcnpbdboeaaajaa
