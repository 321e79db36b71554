/- What the heap's Read and Head answer, over the list of objects. -/
import Derived.Test.YtibfhpbklnpknaaWalk
namespace Go.Proofs.Ytibfhpbklnpknaa
open Go.RowKit
set_option linter.unusedVariables false

/-- What Read answers. -/
def readF (obs : List Ob) (a f : Int) : Int × Int :=
  match look obs a with
  | none => (0, 3)
  | some x => if 0 ≤ f ∧ f < x.2.1.1 / 65536 then (x.2.1.2.getD f.toNat 0, 0) else (0, 4)

/-- What Head answers. -/
def headF (obs : List Ob) (a : Int) : (Int × Int × Int) × Int :=
  match look obs a with
  | none => ((0, 0, 0), 3)
  | some x => ((x.2.1.1 % 16, x.2.1.1 / 65536, x.2.1.1 % 65536 / 16), 0)

theorem headF_st {w : World} {g gw gb : Nat} {obs : List Ob} {tail : List Int} (S : St w g gw gb obs tail) (a : Int) :
    Calls Try.prog 21 #[.pointer (some ⟨g, 0, none⟩), .int .i64 a] w fun e w' => e = .returned (.tuple #[.agg #[.int .i64 (headF obs a).1.1, .int .i64 (headF obs a).1.2.1, .int .i64 (headF obs a).1.2.2], .int .i64 (headF obs a).2]) ∧ Below w.heap.size w w' := by
  unfold headF
  cases hl : look obs a with
  | none => exact head_no S.lies a (start_not (look_none _ hl))
  | some x =>
    obtain ⟨pre, o, post⟩ := x
    obtain ⟨e0, rfl⟩ := look_some _ _ _ hl
    simp only at e0 ⊢
    subst e0
    exact head_st S _ rfl

set_option maxHeartbeats 1000000 in
theorem read_st {w : World} {g gw gb : Nat} {obs : List Ob} {tail : List Int} (S : St w g gw gb obs tail) (a f : Int) :
    Calls Try.prog 20 #[.pointer (some ⟨g, 0, none⟩), .int .i64 a, .int .i64 f] w fun e w' => e = .returned (.tuple #[.int .i64 (readF obs a f).1, .int .i64 (readF obs a f).2]) ∧ Below w.heap.size w w' := by
  unfold readF
  cases hl : look obs a with
  | none =>
    have hn := Lib.hid (look_none tail.length hl)
    have HS := Lib.hid S
    clear hl S
    go_enter Try.func20, Try.ntmps20
    go_wp2_with fail
    refine (head_no HS.out.lies a (start_not hn.out)).mono ?_
    rintro e w1 ⟨rfl, hb1⟩
    go_wp2
    refine bodyPost_ret (v := .tuple #[.int .i64 0, .int .i64 3]) (by simp [results, Try.results20, go_sem]) rfl ?_
    exact ⟨rfl, hb1.alloc hb1.size _⟩
  | some x =>
    obtain ⟨pre, o, post⟩ := x
    obtain ⟨e0, rfl⟩ := look_some _ _ _ hl
    simp only at e0 ⊢
    subst e0
    have hlen := S.fine.right.head.2
    have hh := S.fine.right.head.1
    have hfit := fits_here S.fine
    have h := S.lies
    have hm := h.most
    have hfz := h.fits
    have hw : ∀ f : Nat, f < o.2.length → (flat (pre ++ o :: post) ++ tail).getD ((flat pre).length + 1 + f) 0 = o.2.getD f 0 := fun f hf => by
      rw [flat_append, flat_cons]
      simp only [List.append_assoc, List.getD_eq_getElem?_getD]
      rw [List.getElem?_append_right (by omega)]
      have : (flat pre).length + 1 + f - (flat pre).length = f + 1 := by omega
      rw [this]
      simp only [List.cons_append, List.getElem?_cons_succ]
      rw [List.append_assoc, List.getElem?_append_left hf]
    have HS := Lib.hid S
    obtain ⟨N, hN⟩ : ∃ N, (flat pre).length = N := ⟨_, rfl⟩
    rw [hN] at hw hfit ⊢
    have HN := Lib.hid hN
    have HL := Lib.hid hlen
    have HW := Lib.hid hw
    obtain ⟨L, hL⟩ : ∃ L, (flat (pre ++ o :: post) ++ tail).length = L := ⟨_, rfl⟩
    rw [hL] at hm hfz
    have HLL := Lib.hid hL
    clear hl S hN hlen hw hL h hh
    by_cases h1 : 0 ≤ f ∧ f < o.1 / 65536
    · rw [if_pos h1]
      obtain ⟨f, rfl⟩ := Int.eq_ofNat_of_zero_le h1.1
      have hd : decide (0 ≤ (f : Int) ∧ (f : Int) < o.1 / 65536) = true := decide_eq_true h1
      have hfo : f < lenOf o.1 := by unfold lenOf; omega
      have hff : N + 1 + f < L := by omega
      have c1 : (N : Int) + 1 + (f : Int) < (L : Int) := by omega
      have c2 : (0 : Int) ≤ (N : Int) + 1 + (f : Int) := by omega
      have c3 : ((N : Int) + 1 + (f : Int)).toNat = N + 1 + f := by omega
      clear h1
      go_enter Try.func20, Try.ntmps20
      go_wp2_with fail
      refine (head_st HS.out N HN.out).mono ?_
      rintro e w1 ⟨rfl, hb1⟩
      generalize o.1 / 65536 = q at *
      generalize o.1 % 65536 / 16 = r at *
      generalize o.1 % 16 = s at *
      go_wp2_with fail
      refine (hasField_b s q r f _ true hd).mono ?_
      rintro e w2 ⟨rfl, hb2⟩
      have B2 : Below w.heap.size w w2 := on (hb1.alloc hb1.size _) (by have := hb1.size; simp; omega) hb2
      have H2 := HS.out.lies.kept B2
      have y0 := H2.c0
      have y1 := H2.w_at (by rw [HLL.out]; exact hff)
      rw [HLL.out] at y0
      rw [HW.out f (by rw [HL.out]; exact hfo)] at y1
      have HB2 := Lib.hid B2
      clear hb1 hb2 H2 B2
      go_wp2
      refine bodyPost_ret (v := .tuple #[.int .i64 (o.2.getD f 0), .int .i64 0]) (by simp [results, Try.results20, go_sem]) rfl ?_
      exact ⟨rfl, HB2.out⟩
    · rw [if_neg h1]
      have hd : decide (0 ≤ f ∧ f < o.1 / 65536) = false := decide_eq_false h1
      clear h1
      go_enter Try.func20, Try.ntmps20
      go_wp2_with fail
      refine (head_st HS.out N HN.out).mono ?_
      rintro e w1 ⟨rfl, hb1⟩
      generalize o.1 / 65536 = q at *
      generalize o.1 % 65536 / 16 = r at *
      generalize o.1 % 16 = s at *
      go_wp2_with fail
      refine (hasField_b s q r f _ false hd).mono ?_
      rintro e w2 ⟨rfl, hb2⟩
      go_wp2
      refine bodyPost_ret (v := .tuple #[.int .i64 0, .int .i64 4]) (by simp [results, Try.results20, go_sem]) rfl ?_
      exact ⟨rfl, on (hb1.alloc hb1.size _) (by have := hb1.size; simp; omega) hb2⟩
end Go.Proofs.Ytibfhpbklnpknaa
