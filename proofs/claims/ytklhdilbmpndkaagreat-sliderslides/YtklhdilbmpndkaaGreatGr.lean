/- heap.Of, find, copied, Words, Read: carried from stage 1. To and Word of a Forward, whatever is asked; what Read answers. -/
import Derived.Test.YtklhdilbmpndkaaGreatJd
import Derived.Test.YtklhdilbmpndkaaGreatGb
import Derived.Test.YtklhdilbmpndkaaGreatSlAw
namespace Go.Proofs.YtklhdilbmpndkaaGreat
set_option maxRecDepth 20000
open Go.RowKit
set_option linter.unusedVariables false
set_option linter.unusedSimpArgs false

set_option maxHeartbeats 1000000 in
theorem copied_any (A : Option Addr) (c : Nat) (zs : List Int) (w : World) (hr : Row w A zs) (hn : zs.length ≤ 65536) :
    Calls Tryz.prog 31 #[.slice A zs.length c] w fun e w' => e = .returned (.slice (some ⟨w.heap.size, 0, none⟩) zs.length zs.length) ∧ Lies w' w.heap.size 3 (zs.map (Value.int .i64)) ∧ Below w.heap.size w w' := by
  have hmk := make51 zs.length hn
  obtain ⟨w2, hcp, hL, hB⟩ := run_copy51 A c zs w hr
  go_enter Tryz.func31, Tryz.ntmps31
  go_wp2
  go_ret
  exact ⟨rfl, hL, hB⟩

theorem words_any {w : World} {g gw gb : Nat} {zs : List Int} {top : Nat} {bs : List Bool} (h : HeapAt w g gw gb zs top bs) :
    Calls Tryz.prog 8 #[.pointer (some ⟨g, 0, none⟩)] w fun e w' => e = .returned (.slice (some ⟨w.heap.size, 0, none⟩) zs.length zs.length) ∧ Lies w' w.heap.size 3 (zs.map (Value.int .i64)) ∧ Below w.heap.size w w' := by
  have hc0 := h.c0
  have hm := h.most
  go_enter Tryz.func8, Tryz.ntmps8
  go_wp2_with fail
  refine (copied_any _ _ zs _ (Row.of_lies h.words) hm).mono ?_
  rintro e w2 ⟨rfl, hL, hB⟩
  go_wp2
  go_ret
  exact ⟨rfl, hL, hB⟩

set_option maxHeartbeats 1000000 in
theorem find_yes {w : World} {g gw gb : Nat} {zs : List Int} {top : Nat} (h : HeapAt w g gw gb zs top (noted [] zs.length)) (hp : Parses (zs.take top)) :
    Calls Tryz.prog 65 #[.pointer (some ⟨g, 0, none⟩)] w fun e w' => e = .returned (.bool true) ∧ Else g gw gb w w' ∧ ∃ obs, Fine obs ∧ flat obs = zs.take top ∧ HeapAt w' g gw gb zs top (noted obs (zs.length - top)) := by
  have hm := h.most
  have ht := h.fits
  go_enter Tryz.func65, Tryz.ntmps65
  go_wp2
  go_loopw [3] (fun i wr => ∃ (a : Nat) (pre : List Ob), a ≤ top ∧ i = .int .i64 a ∧ Fine pre ∧ flat pre = zs.take a ∧ HeapAt wr g gw gb zs top (noted pre (zs.length - a)) ∧ Else g gw gb w wr) (fun i _ => top - (intOf i).toNat)
  case atStart => exact ⟨0, [], Nat.zero_le _, rfl, fun _ h => by simp at h, rfl, h, Else.refl _ _ _ _⟩
  case round =>
    obtain ⟨a, pre, ha, rfl, hf, hfl, H, hE⟩ := hrel
    have hc0 := H.c0
    have hc1 := H.c1
    have hc2 := H.c2
    by_cases hlt : a < top
    · obtain ⟨hh, hn⟩ := parse_next hf hfl hlt ht hp
      have hwa := H.w_at (i := a) (by omega)
      have Hz : ∃ z, zs.getD a 0 = z := ⟨_, rfl⟩
      obtain ⟨z, hz⟩ := Hz
      rw [hz] at hh hn hwa
      have a1 : (a : Int) < (zs.length : Int) := by omega
      have a0 : (0 : Int) ≤ (a : Int) := by omega
      have HZ := Lib.hid hz
      clear hz
      have HF := Lib.hid hfl
      clear hfl
      have hz0 : 0 ≤ z / 65536 := by have := head_nn hh; omega
      have hz1 : z / 65536 ≤ 4095 := by have := len_le hh; unfold lenOf at this; omega
      go_wp2_with fail
      refine (unpack_yes z _ hh).mono ?_
      rintro e w2 ⟨rfl, hb2⟩
      have H2 := H.kept hb2
      have E2 : Else g gw gb w w2 := hE.trans (Else.of_below hb2)
      clear hc0 hc1 hc2 hwa
      have hc2 := H2.c2
      have hb := H2.b_at (i := a) (by omega)
      have hfr := H2.begins.frozen a
      have l1 := H2.own.lt
      have l3 := H2.begins.lt
      generalize hq : z / 65536 = q at *
      have HQ := Lib.hid hq
      clear hq
      go_wp2_with fail
      refine (room_any _ q _ _ hz0 hz1).mono ?_
      rintro e w3 ⟨rfl, rfl⟩
      go_wp2_with fail
      have hq0 : lenOf z = q.toNat := by unfold lenOf; rw [HQ.out]
      have hlen : ((zs.drop (a + 1)).take (lenOf z)).length = lenOf z := by simp; omega
      refine ⟨⟨a + 1 + lenOf z, pre ++ [(z, (zs.drop (a + 1)).take (lenOf z))], by omega, ?_, hf.append (Fine.one hh hlen), ?_, ?_, ?_⟩, ?_⟩
      · rw [hq0]; exact congrArg (Value.int .i64) (by omega)
      · have := next_ob (zs := zs) HF.out hlt ht (by rw [HZ.out]; omega)
        rw [HZ.out] at this
        exact this
      · have hfl : (flat pre).length = a := by rw [HF.out]; simp; omega
        have := noted_next (m := 0) (o := (z, (zs.drop (a + 1)).take (lenOf z))) (n := zs.length - a) hfl (by rw [hlen]; omega)
        have e : zs.length - (a + 1 + lenOf z) = zs.length - a - (1 + lenOf z) := by omega
        rw [hlen] at this
        rw [e, ← this]
        exact ((H2.mark a).alloc _).alloc _
      · exact (E2.trans (marked_else _ _ _)).trans (Else.of_below (((Below.refl _ _).alloc (Nat.le_refl _) _).alloc (by simp) _))
      · simp [intOf]; omega
    · have HF := Lib.hid hfl
      clear hfl
      obtain rfl : a = top := by omega
      go_wp2
      go_ret
      exact ⟨rfl, hE, pre, hf, HF.out, H⟩

set_option maxHeartbeats 2000000 in
theorem of_yes (A : Option Addr) (c top : Nat) (zs : List Int) (w : World) (hr : Row w A zs) (h1 : 1 ≤ zs.length) (h2 : zs.length ≤ 65536) (h3 : top ≤ zs.length) (hp : Parses (zs.take top)) :
    Calls Tryz.prog 32 #[.slice A zs.length c, .int .i64 top] w fun e w' => ∃ g gw gb obs, e = .returned (.tuple #[.pointer (some ⟨g, 0, none⟩), .int .i64 0]) ∧ Below w.heap.size w w' ∧ w.heap.size ≤ g ∧ w.heap.size ≤ gw ∧ w.heap.size ≤ gb ∧
      Fine obs ∧ flat obs = zs.take top ∧ HeapAt w' g gw gb zs top (noted obs (zs.length - top)) := by
  have hs : decide (1 ≤ (zs.length : Int) ∧ (zs.length : Int) ≤ 65536) = true := by simp; omega
  have hmk := make75 zs.length h2
  have ht0 : decide ((top : Int) < 0) = false := by simp
  have HP := Lib.hid hp
  clear hp
  have HR := Lib.hid hr
  go_enter Tryz.func32, Tryz.ntmps32
  go_wp2_with fail
  refine (maySize_any _ _).mono ?_
  rintro e w' ⟨rfl, rfl⟩
  rw [hs]
  go_wp2_with fail
  go_region_with ((first
    | (go_at_call 31; refine (copied_any _ _ zs _ (by first | exact Row.drew HR.out | exact Row.drew (Row.alloc HR.out _)) h2).mono ?_; rintro e w3 ⟨rfl, hL3, hb3⟩)
    | fail))
  · have hz := hb3.size
    have hz' : w.heap.size ≤ w3.heap.size := hz
    have HM := made (w := w3.alloc (.cells (noBits zs.length).toArray 4)) (top := top) (n := 0) (hL3.alloc _) (Lies.new w3 4 (noBits zs.length)) h1 h2 h3
    rw [World.size_alloc] at HM
    have BW : Below w.heap.size w ((w3.alloc (.cells (noBits zs.length).toArray 4)).alloc (.cells #[.slice (some ⟨w.heap.size, 0, none⟩) zs.length zs.length, .int .i64 top, .slice (some ⟨w3.heap.size, 0, none⟩) zs.length zs.length] 84)) :=
      ((undrawn hb3).alloc hz' _).alloc (by simp; omega) _
    clear hmk hL3
    go_wp2_with fail
    refine (find_yes HM HP.out).mono ?_
    rintro e w5 ⟨rfl, E5, obs, hf, hfl, H5⟩
    have B5 : Below w.heap.size w w5 := BW.trans (E5.below (by simp; omega) (by omega) (Nat.le_refl _) hz')
    have HF := Lib.hid hfl
    clear hfl HM BW E5
    go_wp2
    go_ret2
    exact ⟨w3.heap.size + 1, w.heap.size, w3.heap.size, obs, rfl, B5, by omega, Nat.le_refl _, hz', hf, HF.out, H5⟩
  · have hz := hb3.size
    have hz' : w.heap.size + 1 ≤ w3.heap.size := by simpa using hz
    have hL4 : Lies w3 (w.heap.size + 1) 3 (zs.map (Value.int .i64)) := by simpa using hL3
    have hN4 : Lies w3 w.heap.size 4 (noBits zs.length) := (Lies.new w 4 (noBits zs.length)).drew.below hb3 (by simp)
    have HM := made (w := w3) (top := top) (n := 0) hL4 hN4 h1 h2 h3
    have BW : Below w.heap.size w (w3.alloc (.cells #[.slice (some ⟨w.heap.size + 1, 0, none⟩) zs.length zs.length, .int .i64 top, .slice (some ⟨w.heap.size, 0, none⟩) zs.length zs.length] 84)) :=
      (on ((Below.refl _ _).alloc (Nat.le_refl _) _).drew (by simp) hb3).alloc (by omega) _
    clear hmk hL3
    go_wp2_with fail
    refine (find_yes HM HP.out).mono ?_
    rintro e w5 ⟨rfl, E5, obs, hf, hfl, H5⟩
    have B5 : Below w.heap.size w w5 := BW.trans (E5.below (by simp; omega) (by omega) (by omega) (Nat.le_refl _))
    have HF := Lib.hid hfl
    clear hfl HM BW E5
    go_wp2
    go_ret2
    exact ⟨w3.heap.size, w.heap.size + 1, w.heap.size, obs, rfl, B5, by omega, by omega, Nat.le_refl _, hf, HF.out, H5⟩

set_option maxHeartbeats 1000000 in
theorem read_st {w : World} {g gw gb : Nat} {obs : List Ob} {tail : List Int} (S : St w g gw gb obs tail) (a f : Int) :
    Calls Tryz.prog 54 #[.pointer (some ⟨g, 0, none⟩), .int .i64 a, .int .i64 f] w fun e w' => e = .returned (.tuple #[.int .i64 (readF obs a f).1, .int .i64 (readF obs a f).2]) ∧ Below w.heap.size w w' := by
  unfold readF
  cases hl : look obs a with
  | none =>
    have hn := Lib.hid (look_none tail.length hl)
    have HS := Lib.hid S
    clear hl S
    go_enter Tryz.func54, Tryz.ntmps54
    go_wp2_with fail
    refine (head_no HS.out.lies a (start_not hn.out)).mono ?_
    rintro e w1 ⟨rfl, hb1⟩
    go_wp2
    refine bodyPost_ret (v := .tuple #[.int .i64 0, .int .i64 3]) (by simp [results, Tryz.results54, go_sem]) rfl ?_
    exact ⟨rfl, hb1.alloc hb1.size _⟩
  | some x =>
    obtain ⟨pre, o, post⟩ := x
    obtain ⟨e0, rfl⟩ := look_some _ _ _ hl
    simp only at e0 ⊢
    subst e0
    have hlen := S.fine.right.head.2
    have hh := S.fine.right.head.1
    have hfit := fits_here S.fine
    have h := S.lies
    have hm := h.most
    have hfz := h.fits
    have hw : ∀ f : Nat, f < o.2.length → (flat (pre ++ o :: post) ++ tail).getD ((flat pre).length + 1 + f) 0 = o.2.getD f 0 := fun f hf => by
      rw [flat_append, flat_cons]
      simp only [List.append_assoc, List.getD_eq_getElem?_getD]
      rw [List.getElem?_append_right (by omega)]
      have : (flat pre).length + 1 + f - (flat pre).length = f + 1 := by omega
      rw [this]
      simp only [List.cons_append, List.getElem?_cons_succ]
      rw [List.append_assoc, List.getElem?_append_left hf]
    have HS := Lib.hid S
    obtain ⟨N, hN⟩ : ∃ N, (flat pre).length = N := ⟨_, rfl⟩
    rw [hN] at hw hfit ⊢
    have HN := Lib.hid hN
    have HL := Lib.hid hlen
    have HW := Lib.hid hw
    obtain ⟨L, hL⟩ : ∃ L, (flat (pre ++ o :: post) ++ tail).length = L := ⟨_, rfl⟩
    rw [hL] at hm hfz
    have HLL := Lib.hid hL
    clear hl S hN hlen hw hL h hh
    by_cases h1 : 0 ≤ f ∧ f < o.1 / 65536
    · rw [if_pos h1]
      obtain ⟨f, rfl⟩ := Int.eq_ofNat_of_zero_le h1.1
      have hd : decide (0 ≤ (f : Int) ∧ (f : Int) < o.1 / 65536) = true := decide_eq_true h1
      have hfo : f < lenOf o.1 := by unfold lenOf; omega
      have hff : N + 1 + f < L := by omega
      have c1 : (N : Int) + 1 + (f : Int) < (L : Int) := by omega
      have c2 : (0 : Int) ≤ (N : Int) + 1 + (f : Int) := by omega
      have c3 : ((N : Int) + 1 + (f : Int)).toNat = N + 1 + f := by omega
      clear h1
      go_enter Tryz.func54, Tryz.ntmps54
      go_wp2_with fail
      refine (head_st HS.out N HN.out).mono ?_
      rintro e w1 ⟨rfl, hb1⟩
      generalize o.1 / 65536 = q at *
      generalize o.1 % 65536 / 16 = r at *
      generalize o.1 % 16 = s at *
      go_wp2_with fail
      refine (hasField_b s q r f _ true hd).mono ?_
      rintro e w2 ⟨rfl, hb2⟩
      have B2 : Below w.heap.size w w2 := on (hb1.alloc hb1.size _) (by have := hb1.size; simp; omega) hb2
      have H2 := HS.out.lies.kept B2
      have y0 := H2.c0
      have y1 := H2.w_at (by rw [HLL.out]; exact hff)
      rw [HLL.out] at y0
      rw [HW.out f (by rw [HL.out]; exact hfo)] at y1
      have HB2 := Lib.hid B2
      clear hb1 hb2 H2 B2
      go_wp2
      refine bodyPost_ret (v := .tuple #[.int .i64 (o.2.getD f 0), .int .i64 0]) (by simp [results, Tryz.results54, go_sem]) rfl ?_
      exact ⟨rfl, HB2.out⟩
    · rw [if_neg h1]
      have hd : decide (0 ≤ f ∧ f < o.1 / 65536) = false := decide_eq_false h1
      clear h1
      go_enter Tryz.func54, Tryz.ntmps54
      go_wp2_with fail
      refine (head_st HS.out N HN.out).mono ?_
      rintro e w1 ⟨rfl, hb1⟩
      generalize o.1 / 65536 = q at *
      generalize o.1 % 65536 / 16 = r at *
      generalize o.1 % 16 = s at *
      go_wp2_with fail
      refine (hasField_b s q r f _ false hd).mono ?_
      rintro e w2 ⟨rfl, hb2⟩
      go_wp2
      refine bodyPost_ret (v := .tuple #[.int .i64 0, .int .i64 4]) (by simp [results, Tryz.results54, go_sem]) rfl ?_
      exact ⟨rfl, on (hb1.alloc hb1.size _) (by have := hb1.size; simp; omega) hb2⟩

theorem words_n {w : World} {g gw gb : Nat} {obs : List Ob} (S : St w g gw gb obs []) (N : Nat) (hN : (flat obs).length = N) :
    Calls Tryz.prog 8 #[.pointer (some ⟨g, 0, none⟩)] w fun e w' => e = .returned (.slice (some ⟨w.heap.size, 0, none⟩) N N) ∧ Lies w' w.heap.size 3 ((flat obs).map (Value.int .i64)) ∧ Below w.heap.size w w' := by
  subst hN
  have := words_any S.lies
  simpa using this

end Go.Proofs.YtklhdilbmpndkaaGreat

namespace Go.Proofs.YtklhdilbmpndkaaGreat
set_option maxRecDepth 20000
open Go.RowKit Go.Sort
set_option linter.unusedVariables false
set_option linter.unusedSimpArgs false


section
variable {w : World} {b W K T top : Nat} {f : Nat → Bool} {obs : List Ob}
theorem to_any (h : Fo w b W K T top f obs) (p : Nat) : Calls Tryz.prog 53 #[.pointer (some ⟨b, 0, none⟩), .int .i64 (p : Nat)] w fun e w' => e = .returned (.tuple #[.int .i64 ((if isK f (adr 0 obs) p then goS f (adr 0 obs) p else 0 : Nat) : Int), .int .i64 (if isK f (adr 0 obs) p then 0 else 3)]) ∧ Below w.heap.size w w' := by
  cases hk : isK f (adr 0 obs) p with
  | true => exact to_yes h p _ hk rfl
  | false => exact to_no h p (.inr (.inr (by simpa using hk)))
theorem word_any (h : Fo w b W K T top f obs) (z : Int) (hz : InR z) : Calls Tryz.prog 35 #[.pointer (some ⟨b, 0, none⟩), .int .i64 z] w fun e w' => e = .returned (.tuple #[.int .i64 (if okW f (adr 0 obs) z then mvW f (adr 0 obs) z else 0), .int .i64 (if okW f (adr 0 obs) z then 0 else 5)]) ∧ Below w.heap.size w w' := by
  by_cases h0 : z = 0
  · subst h0
    have e : okW f (adr 0 obs) 0 = true := by simp [okW]
    rw [e]
    have e2 : mvW f (adr 0 obs) 0 = 0 := by simp [mvW]
    rw [e2]
    exact word_zero
  · cases hk : okW f (adr 0 obs) z with
    | true =>
      have h1 : 1 ≤ z ∧ isK f (adr 0 obs) (z - 1).toNat = true := by simpa [okW, h0] using hk
      have e2 : mvW f (adr 0 obs) z = ((goS f (adr 0 obs) (z - 1).toNat : Nat) : Int) + 1 := by simp [mvW, h0]
      rw [if_pos rfl, if_pos rfl, e2]
      exact word_yes h z (z - 1).toNat _ (by omega) h1.2 rfl
    | false =>
      rw [if_neg (by simp), if_neg (by simp)]
      unfold InR at hz
      by_cases hm : z = -9223372036854775808
      · subst hm
        exact word_no h _ 9223372036854775807 h0 (by decide) (.inr (.inl (by have := h.most; omega)))
      · refine word_no h z (z - 1) h0 (IntWalk.i64_in _ (by omega)) ?_
        by_cases h1 : 1 ≤ z
        · exact .inr (.inr (by simpa [okW, h0, h1] using hk))
        · exact .inl (by omega)
end
theorem at_mem {obs : List Ob} (x : At obs) : x.1 ∈ adr 0 obs := by
  obtain ⟨⟨a, o⟩, pre, post, h1, h2⟩ := x
  simp only at h1 h2 ⊢
  subst h2
  rw [h1, adr_append, adr]
  simp
theorem mem_split : ∀ {a : Nat} {obs : List Ob} {x : Nat × Ob}, x ∈ adr a obs → ∃ pre post, obs = pre ++ x.2 :: post ∧ x.1 = a + (flat pre).length
  | _, [], x, h => by simp [adr] at h
  | a, o :: l, x, h => by
    rw [adr] at h
    rcases List.mem_cons.1 h with rfl | h
    · exact ⟨[], l, rfl, by simp [flat_nil]⟩
    · obtain ⟨pre, post, h1, h2⟩ := mem_split h
      exact ⟨o :: pre, post, by rw [h1]; rfl, by rw [h2, flat_cons]; simp; omega⟩
theorem read_at {w : World} {g gw gb : Nat} {obs : List Ob} {tail : List Int} (S : St w g gw gb obs tail) (x : Nat × Ob) (hx : x ∈ adr 0 obs) (i : Nat) (hi : i < x.2.2.length) :
    Calls Tryz.prog 54 #[.pointer (some ⟨g, 0, none⟩), .int .i64 (x.1 : Nat), .int .i64 (i : Nat)] w fun e w' => e = .returned (.tuple #[.int .i64 (x.2.2.getD i 0), .int .i64 0]) ∧ Below w.heap.size w w' := by
  obtain ⟨pre, post, h1, h2⟩ := mem_split hx
  have h3 : look obs (x.1 : Nat) = some (pre, x.2, post) := by
    rw [h1, h2, Nat.zero_add]; exact look_here pre x.2 post
  have h4 := read_st S (x.1 : Nat) (i : Nat)
  have hf := S.fine x.2 (by rw [h1]; simp)
  have h5 : x.2.1 / 65536 = (x.2.2.length : Nat) := by have e1 := hf.2; have e2 := head_nn hf.1; unfold lenOf at e1; omega
  unfold readF at h4
  rw [h3] at h4
  simp only at h4
  rw [if_pos (by rw [h5]; omega)] at h4
  simpa using h4
theorem ob_facts {w : World} {g gw gb : Nat} {obs : List Ob} {tail : List Int} (S : St w g gw gb obs tail) (x : Nat × Ob) (hx : x ∈ adr 0 obs) :
    x.2.1 / 65536 = (x.2.2.length : Nat) ∧ x.2.2.length ≤ 4095 ∧ x.2.1 % 65536 / 16 = (ptrs x.2.1 : Nat) ∧ ptrs x.2.1 ≤ x.2.2.length ∧ headB x.2.1 = true ∧ x.1 + 1 + x.2.2.length ≤ (flat obs).length := by
  obtain ⟨pre, post, h1, h2⟩ := mem_split hx
  have hf := S.fine x.2 (by rw [h1]; simp)
  have h5 : x.2.1 / 65536 = (x.2.2.length : Nat) := by have e1 := hf.2; have e2 := head_nn hf.1; unfold lenOf at e1; omega
  have h6 := len_le hf.1
  obtain ⟨_, _, _, _, hp0, hp1, _⟩ := (good_iff _ _ _).1 (head_good hf.1)
  refine ⟨h5, by have := hf.2; omega, by unfold ptrs; omega, by unfold ptrs; omega, hf.1, ?_⟩
  rw [h1, h2, flat_append, flat_cons]; simp; omega
end Go.Proofs.YtklhdilbmpndkaaGreat
