/- How many words a thread's buffer has. -/
import Derived.Test.YtibfhpbklnpknaaAlOne
import Derived.Test.YtibfhpbklnpknaaROf1
namespace Go.Proofs.Ytibfhpbklnpknaa
open Go.RowKit
set_option linter.unusedVariables false
set_option linter.unusedSimpArgs false

/-- How many words a thread's buffer has, its head too; 0 of none. -/
def leftF (bs : List Int) (obs : List Ob) (t : Nat) : Int := if bs.getD t 0 = 0 then 0 else 1 + (headF obs (bs.getD t 0 - 1)).1.2.1

theorem headF_len {obs : List Ob} (hf : Fine obs) (a : Int) : 0 ≤ (headF obs a).1.2.1 ∧ (headF obs a).1.2.1 ≤ 4095 := by
  unfold headF
  cases hl : look obs a with
  | none => simp
  | some x =>
    obtain ⟨e, _⟩ := look_some _ _ _ hl
    have h1 := (hf x.2.1 (by rw [e]; simp)).1
    have h2 := len_le h1
    have h3 := head_nn h1
    unfold lenOf at h2
    simp only
    omega
theorem St.few {w : World} {g gw gb : Nat} {obs : List Ob} {tail : List Int} (S : St w g gw gb obs tail) : (flat obs).length ≤ 65536 := by
  have h1 := S.lies.fits
  have h2 := S.lies.most
  omega
theorem look_range {obs : List Ob} {a : Int} (h : (look obs a).isSome = true) : 0 ≤ a ∧ a < (flat obs).length := by
  cases hl : look obs a with
  | none => rw [hl] at h; simp at h
  | some x =>
    obtain ⟨e, ea⟩ := look_some _ _ _ hl
    rw [e, flat_append, flat_cons]
    simp
    omega
theorem Al.b_range {w : World} {ga gf g gw gb size : Nat} {bs : List Int} {obs : List Ob} {tail : List Int} (h : Al w ga gf g gw gb size bs obs tail) {t : Nat} (ht : t < bs.length) : 0 ≤ bs.getD t 0 ∧ bs.getD t 0 ≤ 65536 := by
  by_cases h0 : bs.getD t 0 = 0
  · omega
  · have e : bs.getD t 0 = bs[t] := by simp [List.getD, ht]
    have := look_range (h.led _ (by rw [e]; exact List.getElem_mem _) h0)
    have := h.st.few
    omega

set_option maxHeartbeats 1000000 in
theorem left_any {w : World} {ga gf g gw gb size : Nat} {bs : List Int} {obs : List Ob} {tail : List Int} (h : Al w ga gf g gw gb size bs obs tail) (t : Nat) (ht : t < bs.length) :
    Calls Try.prog 31 #[.pointer (some ⟨ga, 0, none⟩), .int .i64 (t : Int)] w fun e w' =>
      e = .returned (.int .i64 (leftF bs obs t)) ∧ Below w.heap.size w w' := by
  unfold leftF
  have y0 := h.c0
  have y2 := h.c2
  have b2 := h.b_at ht
  have br := h.b_range ht
  have t0 : (0 : Int) ≤ (t : Int) := by omega
  have t1 : (t : Int) < (bs.length : Int) := by omega
  have ha := h.own.lt
  have hr := h.row.lt
  have RT : ∀ W, Lies W gf 3 (bs.map (Value.int .i64)) → W.cell? ⟨gf, t, none⟩ = some (.int .i64 (bs.getD t 0)) := fun W hW => by rw [hW.cell t]; simp [List.getD, ht]
  have HO := Lib.hid h.own
  have HR := Lib.hid h.row
  generalize bs.getD t 0 = b at *
  have HRT := Lib.hid RT
  clear RT
  obtain ⟨q1, q2⟩ := headF_len h.st.fine (b - 1)
  have HD := Lib.hid (fun W S => headF_st (w := W) (g := g) (gw := gw) (gb := gb) (obs := obs) (tail := tail) S (b - 1))
  have S0 := Lib.hid (h.st.kept (Below.refl w.heap.size w).drew)
  have bX := below_one w (.cells #[.int .i64 0, .int .i64 0, .int .i64 0] 40)
  have SX := Lib.hid ((h.st.kept bX).kept (Below.refl (w.alloc (.cells #[.int .i64 0, .int .i64 0, .int .i64 0] 40)).heap.size (w.alloc (.cells #[.int .i64 0, .int .i64 0, .int .i64 0] 40))).drew)
  have LX := Lib.hid (Lies.new w 40 [.int .i64 0, .int .i64 0, .int .i64 0])
  have ng : ga ≠ w.heap.size := by omega
  have nf : gf ≠ w.heap.size := by omega
  have HbX := Lib.hid bX
  clear bX
  have w1 : IntKind.i64.wrap (b - 1) = b - 1 := IntWalk.i64_in _ (by omega)
  generalize bs.length = n at y2 t1 HO
  generalize headF obs (b - 1) = R at *
  obtain ⟨⟨k, l, p⟩, x⟩ := R
  simp only at q1 q2 HD ⊢
  clear h ht
  by_cases h0 : b = 0
  · subst h0
    rw [if_pos rfl]
    go_enter Try.func31, Try.ntmps31
    go_wp2
    go_ret
    exact ⟨rfl, Below.refl _ _⟩
  · rw [if_neg h0]
    have h0' : (b == 0) = false := by simp [h0]
    go_enter Try.func31, Try.ntmps31
    go_wp2_with fail
    go_region_held3 (fun W => W.cell? ⟨ga, 0, none⟩ = some (.pointer (some ⟨g, 0, none⟩)) ∧ W.cell? ⟨ga, 2, none⟩ = some (.slice (some ⟨gf, 0, none⟩) n n) ∧ W.cell? ⟨gf, t, none⟩ = some (.int .i64 b))
      (first | go_keep | exact ⟨L3.cell 0, L3.cell 2, HRT.out _ R3⟩ | exact ⟨(L3.alloc _).cell 0, (L3.alloc _).cell 2, HRT.out _ (R3.alloc _)⟩ | exact ⟨(((L3.far (p := ⟨w.heap.size, 0, none⟩) ng _).far (p := ⟨w.heap.size, 1, none⟩) ng _).far (p := ⟨w.heap.size, 2, none⟩) ng _).cell 0, (((L3.far (p := ⟨w.heap.size, 0, none⟩) ng _).far (p := ⟨w.heap.size, 1, none⟩) ng _).far (p := ⟨w.heap.size, 2, none⟩) ng _).cell 2, HRT.out _ (((R3.far (p := ⟨w.heap.size, 0, none⟩) nf _).far (p := ⟨w.heap.size, 1, none⟩) nf _).far (p := ⟨w.heap.size, 2, none⟩) nf _)⟩)
      ((first
      | (go_at_call 21; ((with_reducible refine (HD.out _ S0.out).mono ?_)); rintro e w3 ⟨rfl, hb3⟩; have L3 := HO.out.drew.below hb3 ha; have R3 := HR.out.drew.below hb3 hr; have B3 := Lib.hid (show Below w.heap.size w w3 from (Below.refl w.heap.size w).drew.trans hb3); have hz3 : w.heap.size ≤ w3.heap.size := hb3.size; clear hb3)
      | (go_at_call 21; ((with_reducible refine (HD.out _ SX.out).mono ?_)); rintro e w3 ⟨rfl, hb3⟩; have L3 := (HO.out.alloc (.cells #[.int .i64 0, .int .i64 0, .int .i64 0] 40)).drew.below hb3 (by simp; omega); have R3 := (HR.out.alloc (.cells #[.int .i64 0, .int .i64 0, .int .i64 0] 40)).drew.below hb3 (by simp; omega); have X3 := LX.out.drew.below hb3 (by simp); have x0 : w3.cell? ⟨w.heap.size, 0, none⟩ = some (.int .i64 0) := X3.cell 0; have x1 : w3.cell? ⟨w.heap.size, 1, none⟩ = some (.int .i64 0) := X3.cell 1; have x2 : w3.cell? ⟨w.heap.size, 2, none⟩ = some (.int .i64 0) := X3.cell 2; have xf0 := X3.frozen 0; have xf1 := X3.frozen 1; have xf2 := X3.frozen 2; have B3 := Lib.hid (show Below w.heap.size w w3 from (on (HbX.out.drew) (by simp) hb3)); have hz3 : w.heap.size < w3.heap.size := (by have := hb3.size; simp at this; omega); clear hb3)
      | fail))
    all_goals (
      go_wp2_with fail
      refine (aroom_any k l p _ q1 q2).mono ?_
      rintro e w5 ⟨rfl, hb5⟩
      go_wp2
      go_ret
      refine ⟨rfl, ?_⟩
      refine on (?_ : Below w.heap.size w _) ?_ hb5
      · repeat (first | exact B3.out | refine Below.setCell ?_ (by first | omega | (simp; done) | (simp; omega)) _ | refine Below.alloc ?_ (by first | omega | (simp; done) | (simp; omega)) _)
      · first | (simp; done) | (simp; omega) | omega)
end Go.Proofs.Ytibfhpbklnpknaa
