/- A new buffer; an object out of a thread's buffer. -/
import Derived.Test.YtibfhpbklnpknaaAlPlace
namespace Go.Proofs.Ytibfhpbklnpknaa
open Go.RowKit
set_option linter.unusedVariables false
set_option linter.unusedSimpArgs false

theorem look_iff {obs : List Ob} {a : Int} : (look obs a).isSome = true ↔ ∃ pre o post, obs = pre ++ o :: post ∧ a = ((flat pre).length : Nat) := by
  constructor
  · intro h
    cases hl : look obs a with
    | none => rw [hl] at h; simp at h
    | some x =>
      obtain ⟨e, ea⟩ := look_some _ _ _ hl
      exact ⟨_, _, _, e, ea⟩
  · rintro ⟨pre, o, post, rfl, rfl⟩
    rw [look_here]; rfl

theorem look_swap {pre post r : List Ob} {o x : Ob} {a : Int} (h : (look (pre ++ o :: post) a).isSome = true) (hl : (flat (x :: r)).length = 1 + o.2.length) : (look (pre ++ x :: (r ++ post)) a).isSome = true := by
  rw [look_iff] at h ⊢
  obtain ⟨p, y, q, he, rfl⟩ := h
  rcases List.append_eq_append_iff.1 he with ⟨t, e1, e2⟩ | ⟨t, e1, e2⟩
  · cases t with
    | nil =>
      simp at e1 e2
      exact ⟨pre, x, r ++ post, rfl, by rw [e1]⟩
    | cons z t =>
      simp at e2
      obtain ⟨rfl, rfl⟩ := e2
      refine ⟨pre ++ x :: (r ++ t), y, q, by simp, ?_⟩
      rw [e1]
      simp [flat_append, flat_cons] at hl ⊢
      omega
  · cases t with
    | nil =>
      simp at e1 e2
      exact ⟨pre, x, r ++ post, rfl, by rw [e1]⟩
    | cons z t =>
      simp at e2
      obtain ⟨rfl, rfl⟩ := e2
      exact ⟨p, y, t ++ x :: (r ++ post), by rw [e1]; simp, rfl⟩

theorem look_cut {obs : List Ob} {a b k l p : Int} (hf : Fine obs) (h : (look obs b).isSome = true) : (look (splitF obs a k l p).2.2 b).isSome = true := by
  unfold splitF
  cases hl : look obs a with
  | none => exact h
  | some x =>
    obtain ⟨pre, o, post⟩ := x
    obtain ⟨rfl, e⟩ := look_some _ _ _ hl
    simp only at e ⊢
    change Fine (pre ++ o :: post) at hf
    have hlen := hf.right.head.2
    have h0 := head_nn hf.right.head.1
    unfold lenOf at hlen
    split
    · exact h
    · split
      · exact h
      · rename_i hg
        have l0 := ((good_iff k l p).1 (by simpa using hg)).2.2.1
        split
        · exact h
        · split
          · have := look_swap (r := []) (x := (packW k l p, zeros l)) h (by simp [flat_cons, flat_nil, zeros]; omega)
            simpa using this
          · have := look_swap (r := [(packW 15 (o.1 / 65536 - l - 1) 0, zeros (o.1 / 65536 - l - 1))]) (x := (packW k l p, zeros l)) h (by simp [flat_cons, flat_nil, zeros]; omega)
            simpa using this
theorem look_rest {obs : List Ob} {a k l p : Int} (h : (splitF obs a k l p).1 ≠ 0) : (look (splitF obs a k l p).2.2 (splitF obs a k l p).1).isSome = true := by
  unfold splitF at h ⊢
  cases hl : look obs a with
  | none => rw [hl] at h; simp at h
  | some x =>
    obtain ⟨pre, o, post⟩ := x
    obtain ⟨rfl, e⟩ := look_some _ _ _ hl
    rw [hl] at h
    simp only at e h ⊢
    by_cases h1 : o.1 % 16 ≠ 15
    · rw [if_pos h1] at h; simp at h
    · rw [if_neg h1] at h ⊢
      by_cases h2 : goodB k l p = false
      · rw [if_pos h2] at h; simp at h
      · rw [if_neg h2] at h ⊢
        have l0 := ((good_iff k l p).1 (by simpa using h2)).2.2.1
        by_cases h3 : o.1 / 65536 < l
        · rw [if_pos h3] at h; simp at h
        · rw [if_neg h3] at h ⊢
          by_cases h4 : o.1 / 65536 = l
          · rw [if_pos h4] at h; simp at h
          · rw [if_neg h4]
            refine look_iff.2 ⟨pre ++ [(packW k l p, zeros l)], (packW 15 (o.1 / 65536 - l - 1) 0, zeros (o.1 / 65536 - l - 1)), post, by simp, ?_⟩
            simp [flat_append, flat_cons, flat_nil, zeros]
            omega
theorem look_new {obs : List Ob} {tail : List Int} {k l p : Int} (h : (placeF obs tail k l p).2.1 = 0) : (look (placeF obs tail k l p).2.2.1 (placeF obs tail k l p).1).isSome = true := by
  unfold placeF at h ⊢
  by_cases h1 : goodB k l p = false
  · rw [if_pos h1] at h; simp at h
  · rw [if_neg h1] at h ⊢
    by_cases h2 : tail.length < 1 + l.toNat
    · rw [if_pos h2] at h; simp at h
    · rw [if_neg h2]
      exact look_iff.2 ⟨obs, _, [], rfl, rfl⟩

theorem Al.put {w : World} {ga gf g gw gb size : Nat} {bs : List Int} {obs : List Ob} {tail : List Int} (h : Al w ga gf g gw gb size bs obs tail) (t : Nat) (b : Int) (hb : b ≠ 0 → (look obs (b - 1)).isSome = true) :
    Al (w.setCell ⟨gf, t, none⟩ (.int .i64 b)) ga gf g gw gb size (bs.set t b) obs tail := by
  refine ⟨h.st.far (p := ⟨gf, t, none⟩) h.ne1.symm h.ne.symm h.ne2.symm _, ?_, ?_, h.ne, h.lo, h.hi, fun c hc hne => ?_⟩
  · have := h.own.far (p := ⟨gf, t, none⟩) h.ne6 (.int .i64 b)
    simpa using this
  · have := h.row.set t (.int .i64 b)
    rwa [← List.map_set] at this
  · rcases List.mem_or_eq_of_mem_set hc with h1 | h1
    · exact h.led c h1 hne
    · subst h1; exact hb hne

theorem placeF_code (obs : List Ob) (tail : List Int) (k l p : Int) : 0 ≤ (placeF obs tail k l p).1 ∧ (placeF obs tail k l p).1 ≤ (flat obs).length := by
  unfold placeF
  split
  · simp
  · split <;> simp

/-- A new buffer: whether there is one; the buffers, and the heap, then. -/
def renewF (size : Nat) (bs : List Int) (obs : List Ob) (tail : List Int) (t : Nat) : Bool × List Int × List Ob × List Int :=
  if (placeF obs tail 15 ((size : Int) - 1) 0).2.1 = 0 then (true, bs.set t ((placeF obs tail 15 ((size : Int) - 1) 0).1 + 1), (placeF obs tail 15 ((size : Int) - 1) 0).2.2.1, (placeF obs tail 15 ((size : Int) - 1) 0).2.2.2)
  else (false, bs.set t 0, (placeF obs tail 15 ((size : Int) - 1) 0).2.2.1, (placeF obs tail 15 ((size : Int) - 1) 0).2.2.2)

set_option maxHeartbeats 1000000 in
theorem renew_any {w : World} {ga gf g gw gb size : Nat} {bs : List Int} {obs : List Ob} {tail : List Int} (h : Al w ga gf g gw gb size bs obs tail) (t : Nat) (ht : t < bs.length) :
    Calls Try.prog 32 #[.pointer (some ⟨ga, 0, none⟩), .int .i64 (t : Int)] w fun e w' =>
      e = .returned (.bool (renewF size bs obs tail t).1) ∧ Al w' ga gf g gw gb size (renewF size bs obs tail t).2.1 (renewF size bs obs tail t).2.2.1 (renewF size bs obs tail t).2.2.2 ∧ Else4 g gw gb gf w w' := by
  have HP := Lib.hid (fun W S => place_st (w := W) (g := g) (gw := gw) (gb := gb) (obs := obs) (tail := tail) S 15 ((size : Int) - 1) 0)
  have HL := Lib.hid (fun a => look_placed (obs := obs) (a := a) tail 15 ((size : Int) - 1) 0)
  have HN := Lib.hid (look_new (obs := obs) (tail := tail) (k := 15) (l := (size : Int) - 1) (p := 0))
  have pc := placeF_code obs tail 15 ((size : Int) - 1) 0
  have few := h.st.few
  have s1 := h.lo
  have s2 := h.hi
  have HR := Lib.hid (retire_any h t ht)
  have t0 : (0 : Int) ≤ (t : Int) := by omega
  have t1 : (t : Int) < (bs.length : Int) := by omega
  unfold renewF
  generalize placeF obs tail 15 ((size : Int) - 1) 0 = R at *
  obtain ⟨r, c, obs2, tail2⟩ := R
  simp only at HP HL HN pc ⊢
  have r0 : 0 ≤ r := pc.1
  have r1 : r ≤ 65536 := by omega
  clear pc few h
  by_cases h0 : c = 0
  · subst h0
    rw [if_pos rfl]
    go_enter Try.func32, Try.ntmps32
    go_wp2_with fail
    refine HR.out.mono ?_
    rintro e w1 ⟨rfl, A1, E1⟩
    have y0 := A1.c0
    have y1 := A1.c1
    have HA1 := Lib.hid (A1.kept (Below.refl w1.heap.size w1).drew)
    have HE1 := Lib.hid (E1.trans (Else4.of_below (Below.refl w1.heap.size w1).drew))
    clear A1 E1 HR
    have q1 : IntKind.i64.wrap ((size : Int) - 1) = (size : Int) - 1 := IntWalk.i64_in _ (by omega)
    go_wp2_with fail
    go_region_held3 (fun W => W.cell? ⟨ga, 0, none⟩ = some (.pointer (some ⟨g, 0, none⟩)) ∧ W.cell? ⟨ga, 1, none⟩ = some (.int .i64 (size : Int)))
      (first | exact ⟨y0, y1⟩ | go_keep | exact ⟨A3.c0, A3.c1⟩)
      ((first
      | (go_at_call 48; refine (HP.out _ HA1.out.st).mono ?_; rintro e w3 ⟨rfl, S3, E3⟩; have A3 := HA1.out.step S3 E3 HL.out; have E4 := Lib.hid (HE1.out.trans (Else4.of_else (gf := gf) E3)); clear S3 E3)
      | fail))
    have HA := Lib.hid (A3.put t (r + 1) (fun _ => by rw [Int.add_sub_cancel]; exact HN.out (by trivial)))
    have HE := Lib.hid (E4.out.put t (.int .i64 (r + 1)))
    have v2 : w3.cell? ⟨ga, 2, none⟩ = some (.slice (some ⟨gf, 0, none⟩) bs.length bs.length) := by have := A3.c2; simpa using this
    obtain ⟨u, hu⟩ : ∃ u, w3.cell? ⟨gf, t, none⟩ = some (.int .i64 u) := ⟨_, A3.b_at (by simpa using ht)⟩
    have hfz := A3.row.frozen t
    rw [List.set_set] at HA
    clear A3 E4 q1 y0 y1 ht
    generalize bs.length = n at *
    go_wp2
    go_ret
    exact ⟨rfl, HA.out, HE.out⟩
  · rw [if_neg h0]
    have h0' : (c != 0) = true := by simp [h0]
    go_enter Try.func32, Try.ntmps32
    go_wp2_with fail
    refine HR.out.mono ?_
    rintro e w1 ⟨rfl, A1, E1⟩
    have y0 := A1.c0
    have y1 := A1.c1
    have HA1 := Lib.hid (A1.kept (Below.refl w1.heap.size w1).drew)
    have HE1 := Lib.hid (E1.trans (Else4.of_below (Below.refl w1.heap.size w1).drew))
    clear A1 E1 HR
    have q1 : IntKind.i64.wrap ((size : Int) - 1) = (size : Int) - 1 := IntWalk.i64_in _ (by omega)
    go_wp2_with fail
    go_region_held3 (fun W => W.cell? ⟨ga, 0, none⟩ = some (.pointer (some ⟨g, 0, none⟩)) ∧ W.cell? ⟨ga, 1, none⟩ = some (.int .i64 (size : Int)))
      (first | exact ⟨y0, y1⟩ | go_keep | exact ⟨A3.c0, A3.c1⟩)
      ((first
      | (go_at_call 48; refine (HP.out _ HA1.out.st).mono ?_; rintro e w3 ⟨rfl, S3, E3⟩; have A3 := HA1.out.step S3 E3 HL.out; have E4 := Lib.hid (HE1.out.trans (Else4.of_else (gf := gf) E3)); clear S3 E3)
      | fail))
    have HA := Lib.hid A3
    clear A3 q1 y0 y1
    go_wp2
    go_ret
    exact ⟨rfl, HA.out, E4.out⟩
end Go.Proofs.Ytibfhpbklnpknaa
