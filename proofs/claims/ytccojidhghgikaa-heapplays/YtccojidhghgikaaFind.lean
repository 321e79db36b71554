/- What find does: it tells whether just objects stand ahead of the top, and notes where they begin. -/
import Derived.Test.YtccojidhghgikaaPlain
import Derived.Test.YtccojidhghgikaaPlace
namespace Go.Proofs.Ytccojidhghgikaa
open Go.RowKit
set_option linter.unusedVariables false

/-- Where objects begin, as find notes it. -/
def noted (obs : List Ob) (n : Nat) : List Bool := marks obs ++ List.replicate n false

theorem noted_next {pre : List Ob} {a m n : Nat} {o : Ob} (ha : (flat pre).length = a) (hn : o.2.length + 1 ≤ n) :
    (noted pre n).set a true = noted (pre ++ [o]) (n - (1 + o.2.length)) := by
  have hm : (marks pre).length = a := by rw [marks_length, ha]
  unfold noted
  rw [marks_append, marks_cons]
  rw [List.set_append_right _ _ (by omega), hm, Nat.sub_self]
  obtain ⟨q, rfl⟩ : ∃ q, n = q + (1 + o.2.length) := ⟨n - (1 + o.2.length), by omega⟩
  have e : q + (1 + o.2.length) = (o.2.length + q) + 1 := by omega
  rw [Nat.add_sub_cancel, e, List.replicate_succ, List.set_cons_zero, List.append_assoc]
  simp [marks]

theorem HeapAt.mark {w : World} {g gw gb : Nat} {zs : List Int} {top : Nat} {bs : List Bool} (h : HeapAt w g gw gb zs top bs) (a : Nat) : HeapAt (w.setCell ⟨gb, a, none⟩ (.bool true)) g gw gb zs top (bs.set a true) := by
  refine ⟨h.own.far (h.own.apart h.begins (by decide)) _, h.words.far (h.words.apart h.begins (by decide)) _, ?_, by simpa using h.same, h.some_, h.most, h.fits⟩
  have := h.begins.set a (.bool true)
  simpa [List.map_set] using this
theorem marked_else {g gw gb : Nat} (w : World) (a : Nat) (u : Value) : Else g gw gb w (w.setCell ⟨gb, a, none⟩ u) :=
  ⟨rfl, rfl, rfl, by simp [World.setCell], fun j hj h1 h2 h3 => Below.heap_setCell _ _ _ _ h3⟩

set_option maxHeartbeats 1000000 in
theorem find_yes {w : World} {g gw gb : Nat} {zs : List Int} {top : Nat} (h : HeapAt w g gw gb zs top (noted [] zs.length)) (hp : Parses (zs.take top)) :
    Calls Try.prog 53 #[.pointer (some ⟨g, 0, none⟩)] w fun e w' => e = .returned (.bool true) ∧ Else g gw gb w w' ∧ ∃ obs, Fine obs ∧ flat obs = zs.take top ∧ HeapAt w' g gw gb zs top (noted obs (zs.length - top)) := by
  have hm := h.most
  have ht := h.fits
  go_enter Try.func53, Try.ntmps53
  go_wp2
  go_loopw [3] (fun i wr => ∃ (a : Nat) (pre : List Ob), a ≤ top ∧ i = .int .i64 a ∧ Fine pre ∧ flat pre = zs.take a ∧ HeapAt wr g gw gb zs top (noted pre (zs.length - a)) ∧ Else g gw gb w wr) (fun i _ => top - (intOf i).toNat)
  case atStart => exact ⟨0, [], Nat.zero_le _, rfl, fun _ h => by simp at h, rfl, h, Else.refl _ _ _ _⟩
  case round =>
    obtain ⟨a, pre, ha, rfl, hf, hfl, H, hE⟩ := hrel
    have hc0 := H.c0
    have hc1 := H.c1
    have hc2 := H.c2
    by_cases hlt : a < top
    · obtain ⟨hh, hn⟩ := parse_next hf hfl hlt ht hp
      have hwa := H.w_at (i := a) (by omega)
      have Hz : ∃ z, zs.getD a 0 = z := ⟨_, rfl⟩
      obtain ⟨z, hz⟩ := Hz
      rw [hz] at hh hn hwa
      have a1 : (a : Int) < (zs.length : Int) := by omega
      have a0 : (0 : Int) ≤ (a : Int) := by omega
      have HZ := Lib.hid hz
      clear hz
      have HF := Lib.hid hfl
      clear hfl
      have hz0 : 0 ≤ z / 65536 := by have := head_nn hh; omega
      have hz1 : z / 65536 ≤ 4095 := by have := len_le hh; unfold lenOf at this; omega
      go_wp2_with fail
      refine (unpack_yes z _ hh).mono ?_
      rintro e w2 ⟨rfl, hb2⟩
      have H2 := H.kept hb2
      have E2 : Else g gw gb w w2 := hE.trans (Else.of_below hb2)
      clear hc0 hc1 hc2 hwa
      have hc2 := H2.c2
      have hb := H2.b_at (i := a) (by omega)
      have hfr := H2.begins.frozen a
      have l1 := H2.own.lt
      have l3 := H2.begins.lt
      generalize hq : z / 65536 = q at *
      have HQ := Lib.hid hq
      clear hq
      go_wp2_with fail
      refine (room_any _ q _ _ hz0 hz1).mono ?_
      rintro e w3 ⟨rfl, rfl⟩
      go_wp2_with fail
      have hq0 : lenOf z = q.toNat := by unfold lenOf; rw [HQ.out]
      have hlen : ((zs.drop (a + 1)).take (lenOf z)).length = lenOf z := by simp; omega
      refine ⟨⟨a + 1 + lenOf z, pre ++ [(z, (zs.drop (a + 1)).take (lenOf z))], by omega, ?_, hf.append (Fine.one hh hlen), ?_, ?_, ?_⟩, ?_⟩
      · rw [hq0]; exact congrArg (Value.int .i64) (by omega)
      · have := next_ob (zs := zs) HF.out hlt ht (by rw [HZ.out]; omega)
        rw [HZ.out] at this
        exact this
      · have hfl : (flat pre).length = a := by rw [HF.out]; simp; omega
        have := noted_next (m := 0) (o := (z, (zs.drop (a + 1)).take (lenOf z))) (n := zs.length - a) hfl (by rw [hlen]; omega)
        have e : zs.length - (a + 1 + lenOf z) = zs.length - a - (1 + lenOf z) := by omega
        rw [hlen] at this
        rw [e, ← this]
        exact ((H2.mark a).alloc _).alloc _
      · exact (E2.trans (marked_else _ _ _)).trans (Else.of_below (((Below.refl _ _).alloc (Nat.le_refl _) _).alloc (by simp) _))
      · simp [intOf]; omega
    · have HF := Lib.hid hfl
      clear hfl
      obtain rfl : a = top := by omega
      go_wp2
      go_ret
      exact ⟨rfl, hE, pre, hf, HF.out, H⟩

set_option maxHeartbeats 1000000 in
theorem find_no {w : World} {g gw gb : Nat} {zs : List Int} {top : Nat} (h : HeapAt w g gw gb zs top (noted [] zs.length)) (hwf : ∀ i, zs.getD i 0 < 9223372036854775808) (hp : ¬ Parses (zs.take top)) :
    Calls Try.prog 53 #[.pointer (some ⟨g, 0, none⟩)] w fun e w' => e = .returned (.bool false) ∧ Else g gw gb w w' := by
  have hm := h.most
  have ht := h.fits
  have HP := Lib.hid hp
  have HW := Lib.hid hwf
  clear hp hwf
  go_enter Try.func53, Try.ntmps53
  go_wp2
  go_loopw [3] (fun i wr => ∃ (a : Nat), a ≤ top + 4096 ∧ i = .int .i64 a ∧ (∃ bs', HeapAt wr g gw gb zs top bs') ∧ (a ≤ top → ∃ pre, Fine pre ∧ flat pre = zs.take a) ∧ Else g gw gb w wr) (fun i _ => top - (intOf i).toNat)
  case atStart => exact ⟨0, by omega, rfl, ⟨_, h⟩, fun _ => ⟨[], fun _ h => by simp at h, rfl⟩, Else.refl _ _ _ _⟩
  case round =>
    obtain ⟨a, ha, rfl, ⟨bs', H⟩, hpre, hE⟩ := hrel
    have hc0 := H.c0
    have hc1 := H.c1
    have hc2 := H.c2
    by_cases hlt : a < top
    · obtain ⟨pre, hf, hfl⟩ := hpre (by omega)
      clear hpre
      have hwa := H.w_at (i := a) (by omega)
      have Hz : ∃ z, zs.getD a 0 = z := ⟨_, rfl⟩
      obtain ⟨z, hz⟩ := Hz
      have hw := HW.out a
      rw [hz] at hwa hw
      have a1 : (a : Int) < (zs.length : Int) := by omega
      have a0 : (0 : Int) ≤ (a : Int) := by omega
      have HZ := Lib.hid hz
      clear hz
      have HF := Lib.hid hfl
      clear hfl
      cases hh : headB z with
      | false =>
        go_wp2_with fail
        refine (unpack_no z _ hh hw).mono ?_
        rintro e w2 ⟨rfl, hb2⟩
        have E2 : Else g gw gb w w2 := hE.trans (Else.of_below hb2)
        go_wp2
        go_ret
        exact ⟨rfl, E2.trans (Else.of_below ((Below.refl _ _).alloc (Nat.le_refl _) _))⟩
      | true =>
        have hz0 : 0 ≤ z / 65536 := by have := head_nn hh; omega
        have hz1 : z / 65536 ≤ 4095 := by have := len_le hh; unfold lenOf at this; omega
        go_wp2_with fail
        refine (unpack_yes z _ hh).mono ?_
        rintro e w2 ⟨rfl, hb2⟩
        have H2 := H.kept hb2
        have E2 : Else g gw gb w w2 := hE.trans (Else.of_below hb2)
        clear hc0 hc1 hc2 hwa
        have hc2 := H2.c2
        have hb := H2.b_at (i := a) (by omega)
        have hfr := H2.begins.frozen a
        have l1 := H2.own.lt
        have l3 := H2.begins.lt
        generalize hq : z / 65536 = q at *
        have HQ := Lib.hid hq
        clear hq
        go_wp2_with fail
        refine (room_any _ q _ _ hz0 hz1).mono ?_
        rintro e w3 ⟨rfl, rfl⟩
        go_wp2_with fail
        have hq0 : lenOf z = q.toNat := by unfold lenOf; rw [HQ.out]
        refine ⟨⟨a + 1 + lenOf z, by omega, ?_, ⟨_, ((H2.mark a).alloc _).alloc _⟩, fun hle => ?_, ?_⟩, ?_⟩
        · rw [hq0]; exact congrArg (Value.int .i64) (by omega)
        · have hlen : ((zs.drop (a + 1)).take (lenOf z)).length = lenOf z := by simp; omega
          have := next_ob (zs := zs) HF.out hlt ht (by rw [HZ.out]; omega)
          rw [HZ.out] at this
          exact ⟨_, hf.append (Fine.one hh hlen), this⟩
        · exact (E2.trans (marked_else _ _ _)).trans (Else.of_below (((Below.refl _ _).alloc (Nat.le_refl _) _).alloc (by simp) _))
        · simp [intOf]; omega
    · have hne : a ≠ top := by
        rintro rfl
        obtain ⟨pre, hf, hfl⟩ := hpre (Nat.le_refl _)
        exact HP.out ⟨pre, hf, hfl⟩
      have hne' : ((a : Int) == (top : Int)) = false := by rw [beq_eq_false_iff_ne]; omega
      clear hpre
      go_wp2
      go_ret
      exact ⟨rfl, hE⟩
end Go.Proofs.Ytccojidhghgikaa
