/- An object out of a thread's buffer; Left, Retire, Heap. -/
import Derived.Test.YtibfhpbklnpknaaAlSplit
namespace Go.Proofs.Ytibfhpbklnpknaa
open Go.RowKit
set_option linter.unusedVariables false
set_option linter.unusedSimpArgs false

theorem splitF_code {obs : List Ob} (hf : Fine obs) (a k l p : Int) : 0 ≤ (splitF obs a k l p).1 ∧ (splitF obs a k l p).1 ≤ (flat obs).length := by
  unfold splitF
  cases hl : look obs a with
  | none => simp
  | some x =>
    obtain ⟨pre, o, post⟩ := x
    obtain ⟨rfl, e⟩ := look_some _ _ _ hl
    simp only at e ⊢
    change Fine (pre ++ o :: post) at hf
    have h1 := fits_here hf
    have h0 := head_nn hf.right.head.1
    unfold lenOf at h1
    split
    · simp
    · split
      · simp
      · rename_i hg
        have l0 := ((good_iff k l p).1 (by simpa using hg)).2.2.1
        split
        · simp
        · split
          · simp
          · simp only
            rw [e]
            omega

/-- An object out of a thread's buffer: its address; the buffers, and the objects, then. -/
def cutF (bs : List Int) (obs : List Ob) (t : Nat) (k l p : Int) : Int × List Int × List Ob :=
  (bs.getD t 0 - 1, bs.set t (if (splitF obs (bs.getD t 0 - 1) k l p).1 = 0 then 0 else (splitF obs (bs.getD t 0 - 1) k l p).1 + 1), (splitF obs (bs.getD t 0 - 1) k l p).2.2)

set_option maxHeartbeats 1000000 in
theorem cut_any {w : World} {ga gf g gw gb size : Nat} {bs : List Int} {obs : List Ob} {tail : List Int} (h : Al w ga gf g gw gb size bs obs tail) (t : Nat) (ht : t < bs.length) (k l p : Int) :
    Calls Try.prog 33 #[.pointer (some ⟨ga, 0, none⟩), .int .i64 (t : Int), .agg #[.int .i64 k, .int .i64 l, .int .i64 p]] w fun e w' =>
      e = .returned (.int .i64 (cutF bs obs t k l p).1) ∧ Al w' ga gf g gw gb size (cutF bs obs t k l p).2.1 (cutF bs obs t k l p).2.2 tail ∧ Else4 g gw gb gf w w' := by
  obtain ⟨X, hX⟩ : ∃ X : Obj, X = .cells #[.int .i64 k, .int .i64 l, .int .i64 p] 40 := ⟨_, rfl⟩
  have bX := below_one w X
  have H0 := h.kept bX
  have H1 := H0.kept (Below.refl (w.alloc X).heap.size (w.alloc X)).drew
  have LB : Lies (w.alloc X).drew w.heap.size 40 [.int .i64 k, .int .i64 l, .int .i64 p] := by rw [hX]; exact (Lies.new w 40 [_, _, _]).drew
  have y0 : (w.alloc X).cell? ⟨ga, 0, none⟩ = some (.pointer (some ⟨g, 0, none⟩)) := H1.c0
  have y2 := H0.c2
  have yt := H0.b_at ht
  have z0 : (w.alloc X).cell? ⟨w.heap.size, 0, none⟩ = some (.int .i64 k) := LB.cell 0
  have z1 : (w.alloc X).cell? ⟨w.heap.size, 1, none⟩ = some (.int .i64 l) := LB.cell 1
  have z2 : (w.alloc X).cell? ⟨w.heap.size, 2, none⟩ = some (.int .i64 p) := LB.cell 2
  have n1 : w.heap.size ≠ g := by have := h.st.lies.own.lt; omega
  have n2 : w.heap.size ≠ gw := by have := h.st.lies.words.lt; omega
  have n3 : w.heap.size ≠ gb := by have := h.st.lies.begins.lt; omega
  have br := h.b_range ht
  have few := h.st.few
  have t0 : (0 : Int) ≤ (t : Int) := by omega
  have t1 : (t : Int) < (bs.length : Int) := by omega
  have E0 : Else4 g gw gb gf w (w.alloc X).drew := Else4.of_below bX.drew
  have fine := h.st.fine
  unfold cutF
  generalize bs.getD t 0 = b at *
  have HP := Lib.hid (split_st H1.st (b - 1) k l p)
  have HL := Lib.hid (fun a => look_cut (obs := obs) (a := b - 1) (b := a) (k := k) (l := l) (p := p) fine)
  have HN := Lib.hid (look_rest (obs := obs) (a := b - 1) (k := k) (l := l) (p := p))
  have pc := splitF_code fine (b - 1) k l p
  have HH := Lib.hid H1
  have HB := Lib.hid LB
  have HE := Lib.hid E0
  have HT := Lib.hid ht
  clear H1 LB h bX E0 H0 fine
  subst hX
  generalize splitF obs (b - 1) k l p = R at *
  obtain ⟨r, c, obs2⟩ := R
  simp only at HP HL HN pc ⊢
  have r0 : 0 ≤ r := pc.1
  have r1 : r ≤ 65536 := by omega
  have b0 := br.1
  have b1 := br.2
  clear pc few br
  have q1 : IntKind.i64.wrap (b - 1) = b - 1 := IntWalk.i64_in _ (by omega)
  have hlen : bs.length = (bs.set t 0).length := by simp
  have HLn := Lib.hid hlen
  clear hlen ht
  obtain ⟨n, hn⟩ : ∃ n, bs.length = n := ⟨_, rfl⟩
  rw [hn] at y2 t1
  have HN2 := Lib.hid hn
  clear hn
  obtain ⟨bs2, hbs2⟩ : ∃ x, x = bs.set t (if r = 0 then 0 else r + 1) := ⟨_, rfl⟩
  rw [← hbs2]
  have HBS := Lib.hid hbs2
  clear hbs2
  go_enter Try.func33, Try.ntmps33
  go_wp2_with fail
  go_region_held3 (fun W => W.cell? ⟨ga, 0, none⟩ = some (.pointer (some ⟨g, 0, none⟩)) ∧ W.cell? ⟨w.heap.size, 0, none⟩ = some (.int .i64 k) ∧ W.cell? ⟨w.heap.size, 1, none⟩ = some (.int .i64 l) ∧ W.cell? ⟨w.heap.size, 2, none⟩ = some (.int .i64 p))
    (first | exact ⟨y0, z0, z1, z2⟩ | go_keep | exact ⟨A3.c0, B3.cell 0, B3.cell 1, B3.cell 2⟩)
    ((first
    | (go_at_call 49; refine HP.out.mono ?_; rintro e w3 ⟨rfl, S3, E3⟩; have A3 := HH.out.step S3 E3 HL.out; have B3 := E3.lies HB.out n1 n2 n3; have E4 := Lib.hid (HE.out.trans (Else4.of_else (gf := gf) E3)); clear S3 E3)
    | fail))
  have HR := Lib.hid (retire_any A3 t HT.out)
  clear A3 B3 y0 y2 yt z0 z1 z2 HP HL HH HB HE q1
  go_wp2_with fail
  refine HR.out.mono ?_
  rintro e w5 ⟨rfl, A5, E5⟩
  have E6 := Lib.hid (E4.out.trans E5)
  by_cases h0 : r = 0
  · have hb2 := HBS.out
    rw [if_pos h0] at hb2
    rw [← hb2] at A5
    have HA := Lib.hid A5
    have h0' : (r != 0) = false := by simp [h0]
    clear hb2
    clear A5 E5 E4 HR
    go_wp2
    go_ret
    exact ⟨rfl, HA.out, E6.out⟩
  · have hb2 := HBS.out
    rw [if_neg h0] at hb2
    have h0' : (r != 0) = true := by simp [h0]
    have HA := Lib.hid (A5.put t (r + 1) (fun _ => by rw [Int.add_sub_cancel]; exact HN.out h0))
    have HE := Lib.hid (E6.out.put t (.int .i64 (r + 1)))
    have v2 : w5.cell? ⟨ga, 2, none⟩ = some (.slice (some ⟨gf, 0, none⟩) n n) := by have := A5.c2; rw [← HLn.out, HN2.out] at this; exact this
    obtain ⟨u, hu⟩ : ∃ u, w5.cell? ⟨gf, t, none⟩ = some (.int .i64 u) := ⟨_, A5.b_at (by rw [← HLn.out]; exact HT.out)⟩
    have hfz := A5.row.frozen t
    rw [List.set_set, ← hb2] at HA
    clear A5 E5 E4 HR E6 hb2
    go_wp2
    go_ret
    exact ⟨rfl, HA.out, HE.out⟩

theorem hasPlace_b (A : Option Addr) (n c : Nat) (t : Int) (w : World) (b : Bool) (h : decide (0 ≤ t ∧ t < (n : Int)) = b) :
    Calls Try.prog 26 #[.slice A n c, .int .i64 t] w fun e w' => e = .returned (.bool b) ∧ w = w' :=
  (hasPlace_any A n c t w).mono fun e w' ⟨he, hw⟩ => ⟨by rw [he, h], hw.symm⟩

/-- What Left answers. -/
def leftA (bs : List Int) (obs : List Ob) (t : Int) : Int × Int := if 0 ≤ t ∧ t < (bs.length : Int) then (leftF bs obs t.toNat, 0) else (0, 1)

theorem Left_any {w : World} {ga gf g gw gb size : Nat} {bs : List Int} {obs : List Ob} {tail : List Int} (h : Al w ga gf g gw gb size bs obs tail) (t : Int) :
    Calls Try.prog 14 #[.pointer (some ⟨ga, 0, none⟩), .int .i64 t] w fun e w' =>
      e = .returned (.tuple #[.int .i64 (leftA bs obs t).1, .int .i64 (leftA bs obs t).2]) ∧ Below w.heap.size w w' := by
  have y2 := h.c2
  have HH := Lib.hid h
  unfold leftA
  by_cases ht : 0 ≤ t ∧ t < (bs.length : Int)
  · rw [if_pos ht]
    have HP := Lib.hid (fun W => hasPlace_b (some ⟨gf, 0, none⟩) bs.length bs.length t W true (decide_eq_true ht))
    obtain ⟨t, rfl⟩ := Int.eq_ofNat_of_zero_le ht.1
    rw [Int.toNat_natCast]
    have HL := Lib.hid (left_any h t (by omega))
    generalize leftF bs obs t = q at *
    generalize bs.length = n at y2 HP
    clear h ht
    go_enter Try.func14, Try.ntmps14
    go_wp2_with fail
    refine (HP.out _).mono ?_
    rintro e w1 ⟨rfl, rfl⟩
    go_wp2_with fail
    refine HL.out.mono ?_
    rintro e w1 ⟨rfl, hb⟩
    go_wp2
    go_ret2
    exact ⟨rfl, hb⟩
  · rw [if_neg ht]
    have HP := Lib.hid (fun W => hasPlace_b (some ⟨gf, 0, none⟩) bs.length bs.length t W false (decide_eq_false ht))
    generalize bs.length = n at y2 HP
    clear h ht
    go_enter Try.func14, Try.ntmps14
    go_wp2_with fail
    refine (HP.out _).mono ?_
    rintro e w1 ⟨rfl, rfl⟩
    go_wp2
    go_ret2
    exact ⟨rfl, Below.refl _ _⟩

/-- What Retire answers, and what the buffers are then. -/
def retireA (bs : List Int) (t : Int) : Int × List Int := if 0 ≤ t ∧ t < (bs.length : Int) then (0, bs.set t.toNat 0) else (1, bs)

theorem Retire_any {w : World} {ga gf g gw gb size : Nat} {bs : List Int} {obs : List Ob} {tail : List Int} (h : Al w ga gf g gw gb size bs obs tail) (t : Int) :
    Calls Try.prog 15 #[.pointer (some ⟨ga, 0, none⟩), .int .i64 t] w fun e w' =>
      e = .returned (.int .i64 (retireA bs t).1) ∧ Al w' ga gf g gw gb size (retireA bs t).2 obs tail ∧ Else4 g gw gb gf w w' := by
  have y2 := h.c2
  have HH := Lib.hid h
  unfold retireA
  by_cases ht : 0 ≤ t ∧ t < (bs.length : Int)
  · rw [if_pos ht]
    have HP := Lib.hid (fun W => hasPlace_b (some ⟨gf, 0, none⟩) bs.length bs.length t W true (decide_eq_true ht))
    obtain ⟨t, rfl⟩ := Int.eq_ofNat_of_zero_le ht.1
    rw [Int.toNat_natCast]
    have HL := Lib.hid (retire_any h t (by omega))
    generalize bs.length = n at y2 HP
    clear h ht
    go_enter Try.func15, Try.ntmps15
    go_wp2_with fail
    refine (HP.out _).mono ?_
    rintro e w1 ⟨rfl, rfl⟩
    go_wp2_with fail
    refine HL.out.mono ?_
    rintro e w1 ⟨rfl, A1, E1⟩
    go_wp2
    go_ret
    exact ⟨rfl, A1, E1⟩
  · rw [if_neg ht]
    have HP := Lib.hid (fun W => hasPlace_b (some ⟨gf, 0, none⟩) bs.length bs.length t W false (decide_eq_false ht))
    generalize bs.length = n at y2 HP
    clear h ht
    go_enter Try.func15, Try.ntmps15
    go_wp2_with fail
    refine (HP.out _).mono ?_
    rintro e w1 ⟨rfl, rfl⟩
    go_wp2
    go_ret
    exact ⟨rfl, HH.out, Else4.refl _ _ _ _ _⟩

theorem Heap_any {w : World} {ga gf g gw gb size : Nat} {bs : List Int} {obs : List Ob} {tail : List Int} (h : Al w ga gf g gw gb size bs obs tail) :
    Calls Try.prog 10 #[.pointer (some ⟨ga, 0, none⟩)] w fun e w' => e = .returned (.pointer (some ⟨g, 0, none⟩)) ∧ w = w' := by
  have y0 := h.c0
  clear h
  go_enter Try.func10, Try.ntmps10
  go_wp2
  go_ret
  exact ⟨rfl, rfl⟩
end Go.Proofs.Ytibfhpbklnpknaa
