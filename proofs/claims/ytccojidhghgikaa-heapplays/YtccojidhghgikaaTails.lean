/- The walk of HeapTails: it returns true, and turns nothing that was there. -/
import Derived.Test.YtccojidhghgikaaOf
namespace Go.Proofs.Ytccojidhghgikaa
open Go.RowKit
set_option linter.unusedVariables false

theorem cleared_at (zs : List Int) (i n j : Nat) (h : i + n ≤ zs.length) : (cleared zs i n).getD j 0 = if i ≤ j ∧ j < i + n then 0 else zs.getD j 0 := by
  unfold cleared
  simp only [List.getD, List.getElem?_append, List.length_take, List.length_replicate, List.getElem?_take, List.getElem?_replicate, List.getElem?_drop]
  have hm : min i zs.length = i := by omega
  rw [hm]
  by_cases h1 : j < i
  · rw [if_pos h1, if_pos h1, if_neg (by omega)]
  · rw [if_neg h1]
    by_cases h2 : j - i < n
    · rw [if_pos h2, if_pos h2, if_pos (by omega)]; rfl
    · rw [if_neg h2, if_neg (by omega)]
      have : i + n + (j - i - n) = j := by omega
      rw [this]
theorem laid_at (zs : List Int) (i l j : Nat) (v : Int) (h : i + (1 + l) ≤ zs.length) : (laid zs i l v).getD j 0 = if j = i then v else if i < j ∧ j ≤ i + l then 0 else zs.getD j 0 := by
  unfold laid
  have hl : (cleared zs i (1 + l)).length = zs.length := cleared_length _ _ _ h
  by_cases h1 : j = i
  · subst h1
    rw [if_pos rfl]
    simp [List.getD, hl, show j < zs.length by omega]
  · have e : ((cleared zs i (1 + l)).set i v).getD j 0 = (cleared zs i (1 + l)).getD j 0 := by
      simp [List.getD, Ne.symm h1]
    rw [if_neg h1, e, cleared_at _ _ _ _ h]
    by_cases h2 : i < j ∧ j ≤ i + l
    · rw [if_pos (by omega), if_pos h2]
    · rw [if_neg (by omega), if_neg h2]

theorem nil_eq (w : World) : (binOp .eql 36 (.pointer none) (.pointer none)).run Try.prog w = .ok (.bool true) w := by kernel_rfl

set_option maxHeartbeats 1000000 in
theorem tails_out (A : Option Addr) (c n : Nat) (t k l p : Int) (w : World) (hn : n = 0 ∨ 200 < n) :
    Calls Try.prog 13 #[.slice A n c, .int .u8 t, .agg #[.int .i64 k, .int .i64 l, .int .i64 p]] w fun e w' => e = .returned (.bool true) ∧ Below w.heap.size w w' := by
  rcases hn with hn | hn
  · have h1 : ((n : Int) == 0) = true := by simp [hn]
    have h2 : ¬ 200 < n := by omega
    go_enter Try.func13, Try.ntmps13
    go_wp2_with fail
    refine (awake_any _).mono ?_
    rintro e w1 ⟨rfl, hb1⟩
    have B1 : Below w.heap.size w w1 := on ((Below.refl _ _).alloc (Nat.le_refl _) _) (by simp) hb1
    go_wp2_with fail
    refine (awake_any _).mono ?_
    rintro e w2 ⟨rfl, hb2⟩
    go_wp2
    go_ret
    exact ⟨rfl, on B1 B1.size hb2⟩
  · go_enter Try.func13, Try.ntmps13
    go_wp2_with fail
    refine (awake_any _).mono ?_
    rintro e w1 ⟨rfl, hb1⟩
    have B1 : Below w.heap.size w w1 := on ((Below.refl _ _).alloc (Nat.le_refl _) _) (by simp) hb1
    go_wp2_with fail
    refine (awake_any _).mono ?_
    rintro e w2 ⟨rfl, hb2⟩
    go_wp2
    go_ret
    exact ⟨rfl, on B1 B1.size hb2⟩

set_option maxHeartbeats 1000000 in
theorem tails_no (A : Option Addr) (c t : Nat) (zs : List Int) (k l p : Int) (w : World) (hr : Row w A zs) (hwf : ∀ i, zs.getD i 0 < 9223372036854775808) (ht : t ≤ 255) (h1 : 1 ≤ zs.length) (h2 : zs.length ≤ 200) (hp : ¬ Parses (zs.take (t % (zs.length + 1)))) :
    Calls Try.prog 13 #[.slice A zs.length c, .int .u8 t, .agg #[.int .i64 k, .int .i64 l, .int .i64 p]] w fun e w' => e = .returned (.bool true) ∧ Below w.heap.size w w' := by
  have hne : ((zs.length : Int) == 0) = false := by rw [beq_eq_false_iff_ne]; omega
  have hlt : t % (zs.length + 1) ≤ zs.length := by have := Nat.mod_lt t (show 0 < zs.length + 1 by omega); omega
  have hcast : (t : Int) % ((zs.length : Int) + 1) = ((t % (zs.length + 1) : Nat) : Int) := by simp
  have HC := Lib.hid hcast
  have HP := Lib.hid hp
  have HW := Lib.hid hwf
  have HR := Lib.hid hr
  clear hcast hp hwf hr
  have hnil := nil_eq
  have hd : decide ((200 : Int) < (zs.length : Int)) = false := by simp; omega
  go_enter Try.func13, Try.ntmps13
  go_wp2_with fail
  refine (awake_any _).mono ?_
  rintro e w1 ⟨rfl, hb1⟩
  have B1 : Below w.heap.size w w1 := on ((Below.refl _ _).alloc (Nat.le_refl _) _) (by simp) hb1
  have R1 : Row w1 A zs := HR.out.kept B1
  go_wp2_with fail
  rw [HC.out]
  generalize t % (zs.length + 1) = n at *
  refine (of_no A c n zs w1 R1 h1 (by omega) hlt HW.out HP.out).mono ?_
  rintro e w2 ⟨rfl, hb2⟩
  go_wp2
  go_ret
  exact ⟨rfl, on B1 B1.size hb2⟩

set_option maxHeartbeats 4000000 in
theorem tails_yes (A : Option Addr) (c t : Nat) (zs : List Int) (k l p : Int) (w : World) (hr : Row w A zs) (ht : t ≤ 255) (h1 : 1 ≤ zs.length) (h2 : zs.length ≤ 200) (hp : Parses (zs.take (t % (zs.length + 1)))) :
    Calls Try.prog 13 #[.slice A zs.length c, .int .u8 t, .agg #[.int .i64 k, .int .i64 l, .int .i64 p]] w fun e w' => e = .returned (.bool true) ∧ Below w.heap.size w w' := by
  have hne : ((zs.length : Int) == 0) = false := by rw [beq_eq_false_iff_ne]; omega
  have hlt : t % (zs.length + 1) ≤ zs.length := by have := Nat.mod_lt t (show 0 < zs.length + 1 by omega); omega
  have hcast : (t : Int) % ((zs.length : Int) + 1) = ((t % (zs.length + 1) : Nat) : Int) := by simp
  have HC := Lib.hid hcast
  have HP := Lib.hid hp
  have HR := Lib.hid hr
  clear hcast hp hr
  have hd : decide ((200 : Int) < (zs.length : Int)) = false := by simp; omega
  go_enter Try.func13, Try.ntmps13
  go_wp2_with fail
  refine (awake_any _).mono ?_
  rintro e w1 ⟨rfl, hb1⟩
  have B1 : Below w.heap.size w w1 := on ((Below.refl _ _).alloc (Nat.le_refl _) _) (by simp) hb1
  have box1 := (Lies.new w 23 [.int .i64 k, .int .i64 l, .int .i64 p]).below hb1 (by simp)
  have R1 : Row w1 A zs := HR.out.kept B1
  clear hb1
  go_wp2_with fail
  rw [HC.out]
  generalize t % (zs.length + 1) = n at *
  clear HC
  refine (of_yes A c n zs w1 R1 h1 (by omega) hlt HP.out).mono ?_
  rintro e w2 ⟨g, gw, gb, obs, rfl, hb2, g1, g2, g3, hfine, hflat, H2⟩
  have B2 : Below w.heap.size w w2 := on B1 B1.size hb2
  have box2 := box1.below hb2 box1.lt
  have R2 : Row w2 A zs := R1.kept hb2
  have q1 : w.heap.size < g := by have := box1.lt; omega
  have q2 : w.heap.size < gw := by have := box1.lt; omega
  have q3 : w.heap.size < gb := by have := box1.lt; omega
  clear hb2 g1 g2 g3 hflat R1 box1 B1 hfine HP
  go_wp2_with fail
  refine (words_any H2).mono ?_
  rintro e w3 ⟨rfl, hL3, hb3⟩
  have H3 := H2.kept hb3
  have B3 : Below w.heap.size w w3 := on B2 B2.size hb3
  have box3 := box2.below hb3 box2.lt
  have R3 : Row w3 A zs := R2.kept hb3
  clear H2 B2 box2 R2 hb3
  go_wp2_with fail
  refine (ints_any _ A _ c zs zs w3 (Row.of_lies hL3) R3 (by omega) (by omega)).mono ?_
  rintro e w4 ⟨rfl, hb4⟩
  have H4 := H3.kept hb4
  have B4 : Below w.heap.size w w4 := on B3 B3.size hb4
  have box4 := box3.below hb4 box3.lt
  have R4 : Row w4 A zs := R3.kept hb4
  clear H3 B3 box3 R3 hb4 hL3
  rw [decide_eq_true (rfl : zs = zs)]
  go_wp2_with fail
  refine (top_any H4).mono ?_
  rintro e w5 ⟨rfl, rfl⟩
  have x0 : w4.cell? ⟨w.heap.size, 0, none⟩ = some (.int .i64 k) := box4.cell 0
  have x1 : w4.cell? ⟨w.heap.size, 1, none⟩ = some (.int .i64 l) := box4.cell 1
  have x2 : w4.cell? ⟨w.heap.size, 2, none⟩ = some (.int .i64 p) := box4.cell 2
  go_wp2_with fail
  cases hg : goodB k l p with
  | false =>
    refine (place_bad H4 k l p hg).mono ?_
    rintro e w6 ⟨rfl, hb6⟩
    have H6 := H4.kept hb6
    have B6 : Below w.heap.size w w6 := on B4 B4.size hb6
    have R6 : Row w6 A zs := R4.kept hb6
    go_wp2_with fail
    refine (words_any H6).mono ?_
    rintro e w7 ⟨rfl, hL7, hb7⟩
    have B7 : Below w.heap.size w w7 := on B6 B6.size hb7
    go_wp2_with fail
    refine (ints_any _ A _ c zs zs w7 (Row.of_lies hL7) (R6.kept hb7) (by omega) (by omega)).mono ?_
    rintro e w8 ⟨rfl, hb8⟩
    rw [decide_eq_true (rfl : zs = zs)]
    go_wp2
    go_ret
    exact ⟨rfl, on B7 B7.size hb8⟩
  | true =>
    obtain ⟨l, rfl⟩ := Int.eq_ofNat_of_zero_le ((good_iff k l p).1 hg).2.2.1
    have hl4 : l ≤ 4095 := by have := (good_iff k l p).1 hg; omega
    by_cases hfit : n + (1 + l) ≤ zs.length
    · refine (place_yes H4 k p l hg hfit).mono ?_
      rintro e w6 ⟨rfl, H6, E6⟩
      have B6 : Below w.heap.size w w6 := B4.trans (E6.below B4.size (by omega) (by omega) (by omega))
      have box6 := E6.lies box4 (by omega) (by omega) (by omega)
      have R6 : Row w6 A zs := HR.out.kept B6
      clear x0 x1 x2 H4 B4 box4 R4 E6
      go_wp2_with fail
      refine (words_any H6).mono ?_
      rintro e w7 ⟨rfl, hL7, hb7⟩
      have B7 : Below w.heap.size w w7 := on B6 B6.size hb7
      have box7 := box6.below hb7 box6.lt
      have R7 := R6.kept hb7
      have hll := laid_length zs n l (packW k l p) hfit
      rw [hll]
      have x1 : w7.cell? ⟨w.heap.size, 1, none⟩ = some (.int .i64 l) := box7.cell 1
      have HL := Lib.hid hll
      clear hll hb7 R6 box6 box7 H6 B6
      go_wp2
      go_loopw [71] (fun i wr => ∃ j : Nat, j ≤ zs.length ∧ i = .int .i64 j ∧ ∃ nq, wr = w7.drewN nq) (fun i _ => zs.length - (intOf i).toNat)
      case atStart => exact ⟨0, Nat.zero_le _, rfl, 0, rfl⟩
      case round =>
        obtain ⟨j, hj, rfl, nq, rfl⟩ := hrel
        by_cases hjl : j < zs.length
        · obtain ⟨ad, rfl, hcx⟩ := R7.at_ hjl
          have hcl : w7.cell? ⟨w6.heap.size, j, none⟩ = some (.int .i64 ((laid zs n l (packW k l p)).getD j 0)) := by
            rw [hL7.cell j]; simp [List.getD, HL.out, hjl]
          rw [laid_at _ _ _ _ _ hfit] at hcl
          have j0 : (0 : Int) ≤ (j : Int) := by omega
          have j1 : (j : Int) < (zs.length : Int) := by omega
          by_cases hin : n < j ∧ j ≤ n + l
          · rw [if_neg (by omega), if_pos hin] at hcl
            have i1 : (n : Int) < (j : Int) := by omega
            have i2 : (j : Int) ≤ (n : Int) + (l : Int) := by omega
            clear hin
            go_wp2
            go_quiet (fail)
            go_wp2
            exact ⟨⟨j + 1, by omega, by go_num, _, rfl⟩, by simp [intOf]; omega⟩
          · by_cases hjn : j = n
            · subst hjn
              have i1 : ((j : Int) != (j : Int)) = false := by simp
              go_wp2
              go_quiet (fail)
              go_wp2
              exact ⟨⟨j + 1, by omega, by go_num, _, rfl⟩, by simp [intOf]; omega⟩
            · rw [if_neg hjn, if_neg hin] at hcl
              have i1 : ((j : Int) != (n : Int)) = true := by simp; omega
              generalize zs.getD j 0 = v at hcl hcx
              have i2 : (v != v) = false := by simp
              by_cases hgt : n < j
              · have i3 : (n : Int) < (j : Int) := by omega
                have i4 : (n : Int) + (l : Int) < (j : Int) := by omega
                have i5 : decide ((j : Int) ≤ (n : Int) + (l : Int)) = false := by simp; omega
                clear hin hjn
                go_wp2
                go_quiet (fail)
                go_wp2
                exact ⟨⟨j + 1, by omega, by go_num, _, rfl⟩, by simp [intOf]; omega⟩
              · have i3 : (j : Int) < (n : Int) := by omega
                have i4 : ¬ (n : Int) < (j : Int) := by omega
                have i5 : decide (n < j) = false := by simp; omega
                clear hin hjn
                go_wp2
                go_quiet (fail)
                go_wp2
                exact ⟨⟨j + 1, by omega, by go_num, _, rfl⟩, by simp [intOf]; omega⟩
        · go_wp2
          go_ret
          exact ⟨rfl, B7.trans ⟨rfl, rfl, rfl, Nat.le_refl _, fun _ _ => rfl⟩⟩
    · refine (place_full H4 k p l hg (by omega)).mono ?_
      rintro e w6 ⟨rfl, hb6⟩
      have H6 := H4.kept hb6
      have B6 : Below w.heap.size w w6 := on B4 B4.size hb6
      have R6 : Row w6 A zs := R4.kept hb6
      go_wp2_with fail
      refine (words_any H6).mono ?_
      rintro e w7 ⟨rfl, hL7, hb7⟩
      have B7 : Below w.heap.size w w7 := on B6 B6.size hb7
      go_wp2_with fail
      refine (ints_any _ A _ c zs zs w7 (Row.of_lies hL7) (R6.kept hb7) (by omega) (by omega)).mono ?_
      rintro e w8 ⟨rfl, hb8⟩
      rw [decide_eq_true (rfl : zs = zs)]
      go_wp2
      go_ret
      exact ⟨rfl, on B7 B7.size hb8⟩

theorem tails_walk (A : Option Addr) (n c : Nat) (zs : List Int) (t k l p : Int) (w : World) (hz : zs.length = n) (hr : Row w A zs) (hwf : ∀ i, -9223372036854775808 ≤ zs.getD i 0 ∧ zs.getD i 0 ≤ 9223372036854775807) (h0 : 0 ≤ t) (ht : t ≤ 255) :
    Calls Try.prog 13 #[.slice A n c, .int .u8 t, .agg #[.int .i64 k, .int .i64 l, .int .i64 p]] w fun e w' => e = .returned (.bool true) ∧ Below w.heap.size w w' := by
  subst hz
  obtain ⟨t, rfl⟩ := Int.eq_ofNat_of_zero_le h0
  by_cases h1 : zs.length = 0 ∨ 200 < zs.length
  · exact tails_out A c zs.length t k l p w h1
  · by_cases hp : Parses (zs.take (t % (zs.length + 1)))
    · exact tails_yes A c t zs k l p w hr (by omega) (by omega) (by omega) hp
    · exact tails_no A c t zs k l p w hr (fun i => by have := (hwf i).2; omega) (by omega) (by omega) (by omega) hp
end Go.Proofs.Ytccojidhghgikaa
