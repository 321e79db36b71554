/- DequeRooms. -/
import Derived.Test.YteaffpkmidaghaaSq
namespace Go.Proofs.Yteaffpkmidaghaa
open Go.RowKit
set_option linter.unusedVariables false
set_option linter.unusedSimpArgs false

def rowTo (k j : Nat) : List Int := (List.range j).map fun i : Nat => 100 * (k : Int) + (i : Int)
theorem rowTo_len (k j : Nat) : (rowTo k j).length = j := by simp [rowTo]
theorem rowTo_succ (k j : Nat) : rowTo k (j + 1) = rowTo k j ++ [100 * (k : Int) + (j : Int)] := by simp [rowTo, List.range_succ]
theorem rowTo_zero (k : Nat) : rowTo k 0 = [] := rfl

set_option maxRecDepth 100000 in
set_option maxHeartbeats 4000000 in
theorem rooms_any (room rounds : Int) (w : World) (h0 : 0 ≤ room) (h1 : room ≤ 255) (h2 : 0 ≤ rounds) (h3 : rounds ≤ 255) : Calls Try.prog 8 #[.int .u8 room, .int .u8 rounds] w fun e w' => e = .returned (.bool true) ∧ Below w.heap.size w w' := by
  obtain ⟨N, hN⟩ : ∃ N : Nat, 2 + room % 30 = N := ⟨(2 + room % 30).toNat, by omega⟩
  obtain ⟨R, hR⟩ : ∃ R : Nat, 1 + rounds % 4 = R := ⟨(1 + rounds % 4).toNat, by omega⟩
  have hN1 : 2 ≤ N := by omega
  have hN2 : N ≤ 31 := by omega
  have hR2 : R ≤ 4 := by omega
  have n2 := nil24
  have HN := Lib.hid hN
  have HR := Lib.hid hR
  clear hN hR
  go_enter Try.func8, Try.ntmps8
  go_wp2_with fail
  refine (awake_any _).mono ?_
  rintro e w1 ⟨rfl, B1⟩
  have HB1 := Lib.hid B1
  clear B1
  go_wp2_with fail
  refine (sq_new (2 + room % 30) N HN.out w w1 HB1.out hN1 (by omega)).mono ?_
  rintro e w2 ⟨gd, g, gw, rfl, S2⟩
  have HS2 := Lib.hid S2
  clear S2
  go_wp2_with fail
  rw [HN.out, HR.out]
  clear HN HR h0 h1 h2 h3
  go_loopw [40] (fun i wr => ∃ (k tag : Nat), k ≤ R ∧ i = .int .i64 k ∧ tag ≤ 2 * k ∧ Sq w wr gd g gw N 0 tag [] (k * 230)) (fun i _ => R - (intOf i).toNat)
  case atStart => exact ⟨0, 0, Nat.zero_le _, rfl, by omega, HS2.out⟩
  case round =>
    obtain ⟨k, tag, hk, rfl, htag, S⟩ := hrel
    have HS := Lib.hid S
    clear S HS2
    by_cases hkR : k < R
    · have hkR' : (k : Int) < (R : Int) := by omega
      go_wp2_with fail
      go_loopw [44] (fun i wr => ∃ j : Nat, j ≤ N ∧ i = .int .i64 j ∧ Sq w wr gd g gw N 0 tag (rowTo k j) (k * 230 + 3 * j)) (fun i _ => N - (intOf i).toNat)
      case atStart => exact ⟨0, Nat.zero_le _, rfl, HS.out⟩
      case round =>
        obtain ⟨j, hj, rfl, S⟩ := hrel
        have HSj := Lib.hid S
        clear S
        by_cases hjN : j < N
        · have hjN' : (j : Int) < (N : Int) := by omega
          go_wp2_with fail
          refine (sq_push HSj.out _).mono ?_
          rintro e w3 ⟨gc, rfl, b3⟩
          have HB3 := Lib.hid b3
          clear b3
          go_wp2_with fail
          refine (done_push HB3.out (by rw [rowTo_len]; omega) (by omega)).mono ?_
          rintro e w4 ⟨y, rfl, S4⟩
          have HS4 := Lib.hid S4
          clear S4
          go_wp2
          exact ⟨⟨j + 1, by omega, by go_num, by rw [rowTo_succ]; exact HS4.out.more (by omega)⟩, by simp [intOf]; omega⟩
        · have : j = N := by omega
          subst this
          go_wp2_with fail
          refine (sq_push HSj.out 9).mono ?_
          rintro e w3 ⟨gc, rfl, b3⟩
          have HB3 := Lib.hid b3
          clear b3
          go_wp2_with fail
          refine (done_full HB3.out (by rw [rowTo_len]; omega) (by omega)).mono ?_
          rintro e w4 ⟨y, rfl, S4⟩
          have HS4 := Lib.hid S4
          clear S4
          go_wp2_with fail
          refine (sq_words HS4.out).mono ?_
          rintro e w5 ⟨a5, rfl, _, B5⟩
          rw [rowTo_len]
          have HS5 := Lib.hid (HS4.out.kept B5)
          clear B5
          go_wp2_with fail
          go_loopw [14] (fun i wr => ∃ (m tag' : Nat), m ≤ j ∧ i = .int .i64 ((m : Int) - 1) ∧ tag' ≤ tag + 1 ∧ (0 < m → tag' = tag) ∧ Sq w wr gd g gw j 0 tag' (rowTo k m) (k * 230 + 3 * j + 1 + (j - m) * 4 + (if m = 0 then 2 else 0))) (fun i _ => (intOf i + 1).toNat)
          case atStart => exact ⟨j, tag, Nat.le_refl _, rfl, by omega, fun _ => rfl, HS5.out.more (by omega)⟩
          case round =>
            obtain ⟨m, tag', hm, rfl, ht', ht2, S⟩ := hrel
            have HSm := Lib.hid S
            clear S
            by_cases hm0 : 0 < m
            · obtain ⟨m', rfl⟩ : ∃ m', m = m' + 1 := ⟨m - 1, by omega⟩
              have ht3 := ht2 hm0
              subst ht3
              have e1 : ((m' + 1 : Nat) : Int) - 1 = (m' : Int) := by omega
              rw [e1]
              have d1 : decide ((0 : Int) ≤ (m' : Int)) = true := by simp
              go_wp2_with fail
              refine (sq_pop HSm.out).mono ?_
              rintro e w6 ⟨gc6, rfl, b6⟩
              rw [rowTo_succ] at b6
              by_cases hm1 : m' = 0
              · subst hm1
                rw [rowTo_zero, List.nil_append] at b6
                have HB6 := Lib.hid b6
                clear b6
                go_wp2_with fail
                refine (done_pop2 HB6.out (by omega) (by simp; omega)).mono ?_
                rintro e w7 ⟨rfl, S7⟩
                have HS7 := Lib.hid S7
                clear S7
                go_wp2
                refine ⟨⟨0, tag' + 1, by omega, by simp, by omega, by omega, HS7.out.more (by simp; omega)⟩, by simp [intOf]⟩
              · have HB6 := Lib.hid b6
                clear b6
                go_wp2_with fail
                refine (done_pop1 HB6.out (by rw [rowTo_len]; omega) (by simp; omega)).mono ?_
                rintro e w7 ⟨rfl, S7⟩
                have HS7 := Lib.hid S7
                clear S7
                go_wp2
                refine ⟨⟨m', tag', by omega, rfl, by omega, fun _ => rfl, HS7.out.more (by simp [hm1]; omega)⟩, by simp [intOf]⟩
            · have hm1 : m = 0 := by omega
              subst hm1
              have e1 : ((0 : Nat) : Int) - 1 = -1 := by omega
              rw [e1]
              go_wp2_with fail
              refine (sq_pop HSm.out).mono ?_
              rintro e w6 ⟨gc6, rfl, b6⟩
              rw [rowTo_zero] at b6
              have HB6 := Lib.hid b6
              clear b6
              go_wp2_with fail
              refine (done_pop3 HB6.out (by omega) (by simp; omega)).mono ?_
              rintro e w7 ⟨rfl, tag2, ht7, S7⟩
              have HS7 := Lib.hid S7
              clear S7
              go_wp2_with fail
              refine (sq_words HS7.out).mono ?_
              rintro e w8 ⟨a8, rfl, _, B8⟩
              have HS8 := Lib.hid (HS7.out.kept B8)
              clear B8
              go_wp2
              exact ⟨⟨k + 1, tag2, by omega, by go_num, by omega, HS8.out.more (by simp; omega)⟩, by simp [intOf]; omega⟩
    · have : k = R := by omega
      subst this
      go_wp2
      go_ret
      exact ⟨rfl, HS.out.below⟩
end Go.Proofs.Yteaffpkmidaghaa
