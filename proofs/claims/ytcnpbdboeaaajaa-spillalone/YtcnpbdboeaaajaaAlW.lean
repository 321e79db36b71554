/- SpillAlone. -/
import Derived.Test.YtcnpbdboeaaajaaAlM
import Derived.Deep.CutBlock
namespace Go.Proofs.Ytcnpbdboeaaajaa
open Go.RowKit
set_option linter.unusedVariables false
set_option linter.unusedSimpArgs false

set_option maxRecDepth 100000 in
set_option maxHeartbeats 1000000 in
theorem alone_far (room : Int) (h0 : 0 ≤ room) (h1 : room ≤ 255) (A : Option Addr) (c : Nat) (l : Nat) (w : World) (hl : 60 < l) : Calls Try.prog 3 #[.int .u8 room, .slice A l c] w fun e w' => e = .returned (.bool true) ∧ Below w.heap.size w w' := by
  have d1 : decide ((60 : Int) < (l : Int)) = true := by simp; omega
  go_enter Try.func3, Try.ntmps3
  go_wp2_with fail
  refine (awake_any _).mono ?_
  rintro e w1 ⟨rfl, B1⟩
  go_wp2_with fail
  refine (awake_any _).mono ?_
  rintro e w2 ⟨rfl, B2⟩
  have HB := Lib.hid (on B1 B1.size B2)
  clear B1 B2
  go_wp2
  go_ret
  exact ⟨rfl, HB.out⟩

set_option maxRecDepth 100000 in
set_option maxHeartbeats 8000000 in
theorem alone_near (room : Int) (A : Option Addr) (c : Nat) (xs : List Int) (w : World) (hm0 : 0 ≤ room) (hm1 : room ≤ 255) (hl : xs.length ≤ 60) (hr : Row .i64 w A xs) :
    Calls Try.prog 3 #[.int .u8 room, .slice A xs.length c] w fun e w' => e = .returned (.bool true) ∧ Below w.heap.size w w' := by
  have d1 : decide ((60 : Int) < (xs.length : Int)) = false := by simp; omega
  obtain ⟨N, hN⟩ : ∃ N : Nat, 1 + room % 9 = N := ⟨(1 + room % 9).toNat, by omega⟩
  have hN1 : 1 ≤ N := by omega
  have hN2 : N ≤ 9 := by omega
  have HN := Lib.hid hN
  have n2 := nil24
  have HR := Lib.hid hr
  clear hr hN
  go_enter Try.func3, Try.ntmps3
  go_wp2_with fail
  refine (awake_any _).mono ?_
  rintro e w1 ⟨rfl, B1⟩
  have HB1 := Lib.hid B1
  clear B1
  go_wp2_with fail
  refine (conc_new (1 + room % 9) N HN.out w w1 HB1.out hN1 (by omega)).mono ?_
  rintro e w2 ⟨gd, g, gw, rfl, C2, _⟩
  have HC2 := Lib.hid C2
  clear C2
  go_wp2_with fail
  rw [HN.out]
  clear hm0 hm1 HN
  go_loopw [48, 8] (fun i v8 wr => ∃ (j k : Nat) (row : List Int), j ≤ xs.length ∧ i = .int .i64 j ∧ k ≤ 5 * j ∧ Rw wr w.heap.size gw v8 row ∧ Conc w wr gd g gw N row [] k) (fun i _ _ => xs.length - (intOf i).toNat)
  case atStart => exact ⟨0, 0, [], Nat.zero_le _, rfl, by omega, Rw.nil _ _ _, HC2.out⟩
  case round =>
    obtain ⟨j, k, row, hj, rfl, hk, hrw, C⟩ := hrel
    obtain ⟨A8, l8, cap8, rfl, hrl⟩ := hrw.rl
    have HW := Lib.hid hrl
    have HC := Lib.hid C
    have hll := hrl.1
    clear C HC2 hrw hrl
    by_cases hjl : j < xs.length
    · obtain ⟨ad, rfl, c0⟩ := (HR.out.kept HC.out.below).at_ hjl
      generalize xs[j] = a at c0
      have j0 : (0 : Int) ≤ (j : Int) := by omega
      have j1 : (j : Int) < (xs.length : Int) := by omega
      have hfits : l8 ≤ N := by obtain ⟨zs, q⟩ := HC.out.free_pl free_nil; have := q.fits; omega
      have HLL := Lib.hid hll
      clear hll
      have j64 : (j : Int) % 64 = (j : Int) := by omega
      have ea := and_one a
      have hcase : a % 2 = 0 ∨ a % 2 = 1 := by omega
      rcases hcase with h2 | h2
      · rw [h2] at ea
        clear h2
        go_wp2_with fail
        refine (seq_put HC.out (j : Int) a (by omega) (by omega)).mono ?_
        rintro e w3 ⟨gc, rfl, C3, B3⟩
        have HC3 := Lib.hid C3
        have HW3 := Lib.hid (HW.out.below B3)
        clear C3 B3 c0
        by_cases hfull : l8 < N
        · have hd : ((l8 : Int) == (N : Int)) = false := by simp; omega
          go_wp2_with fail
          refine (put_ok HC3.out (by rw [HLL.out]; exact hfull) (by omega)).mono ?_
          rintro e w4 ⟨rfl, k4, C4, hk4, K4⟩
          have HC4 := Lib.hid C4
          have HW4 := Lib.hid (HW3.out.keptB K4 HC3.out (HC3.out.lies (i := 0) rfl))
          have hb4 := Lib.hid C4.below.size
          clear C4 K4
          have HB5 := Lib.hid (below_one w4 (.cells #[.int .i64 a] 3))
          have HW5 := Lib.hid (HW4.out.below HB5.out)
          have HC5 := Lib.hid (HC4.out.kept HB5.out)
          have c5 := cell_one_new w4 (.int .i64 a) 3 0 _ rfl
          rw [Addr.add_zero'] at c5
          have HCe5 := Lib.hid c5
          clear c5
          go_wp2_with (at_builtin; refine wpList_append_rw rfl (.tmp 97) (.tmp 99) rfl rfl HW5.out.2 (Nat.le_trans hb4.out HB5.out.size) HC5.out.gw_lt (by rw [HLL.out]; omega) ⟨w4.heap.size, 0, none⟩ a rfl HCe5.out ?_; intro v6 w6 R6 G6)
          have HC6 := Lib.hid (HC5.out.grown HW5.out.2 G6)
          have HR6 := Lib.hid R6
          clear R6 G6 HC5 HW5 HB5 HC4 HW4 HC3 HW3 HC HW HCe5
          obtain ⟨A9, l9, cap9, hv9, R9⟩ := HR6.out.rl
          subst hv9
          have hl9 : l9 ≤ 9 := by obtain ⟨zs, q⟩ := HC6.out.free_pl free_nil; have := q.fits; have := R9.1; omega
          have HR' := Lib.hid R9
          clear R9
          go_wp2_with fail
          refine (conc_words HC6.out free_nil).mono ?_
          rintro e wt4 ⟨a4, rfl, R4, _, B4⟩
          rw [HR'.out.1]
          have HR4 := Lib.hid R4
          have HS4 := Lib.hid (HC6.out.kept B4)
          have HW4 := Lib.hid (HR'.out.below B4)
          clear R4 B4 HR' HR6 HC6
          go_wp2_with fail
          go_loopw [149] (fun i wi => ∃ m : Nat, m ≤ l9 ∧ i = .int .i64 m ∧ Below wt4.heap.size wt4 wi) (fun i _ => l9 - (intOf i).toNat)
          case atStart => exact ⟨0, Nat.zero_le _, rfl, Below.refl _ _⟩
          case round =>
            obtain ⟨m, hm, rfl, B⟩ := hrel
            have HB := Lib.hid B
            clear B
            by_cases hmr : m < l9
            · have hmr' : m < (row ++ [a]).length := by rw [HW4.out.1]; exact hmr
              obtain ⟨ad5, e5, c5⟩ := (HR4.out.kept HB.out).at_ hmr'
              injection e5 with e5
              subst e5
              obtain ⟨ad6, e6, c6⟩ := (HW4.out.below HB.out).at_ hmr
              subst e6
              have e7 : (row ++ [a]).getD m 0 = (row ++ [a])[m] := by rw [List.getD_eq_getElem?_getD, List.getElem?_eq_getElem hmr']; rfl
              rw [e7] at c6
              generalize (row ++ [a])[m] = y9 at c5 c6
              have m0 : (0 : Int) ≤ (m : Int) := by omega
              have m1 : (m : Int) < (l9 : Int) := by omega
              have HBD := Lib.hid (below_drewN wr)
              go_wp2_with fail
              go_quiet (fail)
              go_wp2
              exact ⟨⟨m + 1, by omega, by go_num, on HB.out HB.out.size (HBD.out _)⟩, by simp [intOf]; omega⟩
            · have : m = l9 := by omega
              subst this
              go_wp2
              exact ⟨⟨j + 1, k4, row ++ [a], by omega, by go_num, by omega, (HW4.out.below HB.out).2, HS4.out.kept HB.out⟩, by simp [intOf]; omega⟩
        · have hfull' : l8 = N := by omega
          clear hfull
          subst hfull'
          go_wp2_with fail
          refine (put_full HC3.out HLL.out (by omega)).mono ?_
          rintro e w4 ⟨rfl, k4, C4, hk4, K4⟩
          have HC4 := Lib.hid C4
          have HR6 : Hid (Rw w4 w.heap.size gw (.slice A8 l8 cap8) row) := Lib.hid (HW3.out.keptB K4 HC3.out (HC3.out.lies (i := 0) rfl)).2
          clear C4 K4 HC3 HW3 HC HW
          go_wp2_with fail
          refine (conc_words HC4.out free_nil).mono ?_
          rintro e wt4 ⟨a4, rfl, R4, _, B4⟩
          rw [HLL.out]
          have HR4 := Lib.hid R4
          have HS4 := Lib.hid (HC4.out.kept B4)
          have HW4 : Hid (Rl wt4 w.heap.size gw A8 l8 cap8 row) := Lib.hid ⟨HLL.out, HR6.out.below B4⟩
          clear R4 B4 HR6 HC4
          go_wp2_with fail
          go_loopw [149] (fun i wi => ∃ m : Nat, m ≤ l8 ∧ i = .int .i64 m ∧ Below wt4.heap.size wt4 wi) (fun i _ => l8 - (intOf i).toNat)
          case atStart => exact ⟨0, Nat.zero_le _, rfl, Below.refl _ _⟩
          case round =>
            obtain ⟨m, hm, rfl, B⟩ := hrel
            have HB := Lib.hid B
            clear B
            by_cases hmr : m < l8
            · have hmr' : m < (row).length := by rw [HW4.out.1]; exact hmr
              obtain ⟨ad5, e5, c5⟩ := (HR4.out.kept HB.out).at_ hmr'
              injection e5 with e5
              subst e5
              obtain ⟨ad6, e6, c6⟩ := (HW4.out.below HB.out).at_ hmr
              subst e6
              have e7 : (row).getD m 0 = (row)[m] := by rw [List.getD_eq_getElem?_getD, List.getElem?_eq_getElem hmr']; rfl
              rw [e7] at c6
              generalize (row)[m] = y9 at c5 c6
              have m0 : (0 : Int) ≤ (m : Int) := by omega
              have m1 : (m : Int) < (l8 : Int) := by omega
              have HBD := Lib.hid (below_drewN wr)
              go_wp2_with fail
              go_quiet (fail)
              go_wp2
              exact ⟨⟨m + 1, by omega, by go_num, on HB.out HB.out.size (HBD.out _)⟩, by simp [intOf]; omega⟩
            · have : m = l8 := by omega
              subst this
              go_wp2
              exact ⟨⟨j + 1, k4, row, by omega, by go_num, by omega, (HW4.out.below HB.out).2, HS4.out.kept HB.out⟩, by simp [intOf]; omega⟩
      · rw [h2] at ea
        clear h2
        go_wp2_with fail
        refine (seq_take HC.out (j : Int) (by omega) (by omega)).mono ?_
        rintro e w3 ⟨gc, rfl, C3, B3⟩
        have HC3 := Lib.hid C3
        have HW3 := Lib.hid (HW.out.below B3)
        clear C3 B3 c0
        by_cases hl0 : l8 = 0
        · have hnil : row = [] := List.length_eq_zero_iff.1 (by rw [HLL.out]; exact hl0)
          subst hnil
          subst hl0
          go_wp2_with fail
          refine (take_empty HC3.out (by omega)).mono ?_
          rintro e w4 ⟨rfl, k4, C4, hk4, K4⟩
          have HC4 := Lib.hid C4
          have HR6 := Lib.hid (HW3.out.keptB K4 HC3.out (HC3.out.lies (i := 0) rfl)).2
          clear C4 K4 HC3 HW3 HC HW
          go_wp2
          exact ⟨⟨j + 1, k4, [], by omega, by go_num, by omega, HR6.out, HC4.out⟩, by simp [intOf]; omega⟩
        · obtain ⟨l9, hl9⟩ : ∃ l9, l8 = l9 + 1 := ⟨l8 - 1, by omega⟩
          obtain ⟨r, y, hr⟩ : ∃ r y, row = r ++ [y] := by
            rcases List.eq_nil_or_concat row with h | ⟨r, y, h⟩
            · rw [h] at HLL; have := HLL.out; simp at this; omega
            · exact ⟨r, y, by rw [h, List.concat_eq_append]⟩
          subst hr
          have hrl9 : Hid (r.length = l9) := Lib.hid (by have := HLL.out; simp at this; omega)
          have hd2 : ((l8 : Int) == 0) = false := by simp; omega
          have hs9 : (l8 : Int) - 1 = (l9 : Int) := by omega
          have q0 : (0 : Int) ≤ (l9 : Int) := by omega
          have q1 : (l9 : Int) < (l8 : Int) := by omega
          have HL9 := Lib.hid hl9
          clear hl9 hl0
          go_wp2_with fail
          refine (take_ok HC3.out (by omega)).mono ?_
          rintro e w4 ⟨rfl, k4, C4, hk4, K4⟩
          have HC4 := Lib.hid C4
          have HW4 := Lib.hid (HW3.out.keptB K4 HC3.out (HC3.out.lies (i := 0) rfl))
          clear C4 K4 HC3 HW3 HC HW
          obtain ⟨ad8, e8, c8⟩ := HW4.out.at_ (i := l9) (by have := HL9.out; omega)
          subst e8
          have c9 : w4.cell? (ad8.add l9) = some (.int .i64 y) := by rw [c8, ← hrl9.out]; simp [List.getD]
          obtain ⟨rs, R5⟩ := HW4.out.last HL9.out
          have HR6 := Lib.hid R5
          clear c8 R5 HW4
          go_wp2_with fail
          refine (conc_words HC4.out free_nil).mono ?_
          rintro e wt4 ⟨a4, rfl, R4, _, B4⟩
          rw [hrl9.out]
          have HR4 := Lib.hid R4
          have HS4 := Lib.hid (HC4.out.kept B4)
          have HW4 : Hid (Rl wt4 w.heap.size gw (some ad8) l9 cap8 r) := Lib.hid ⟨hrl9.out, HR6.out.below B4⟩
          clear R4 B4 HR6 HC4 c9
          go_wp2_with fail
          go_loopw [149] (fun i wi => ∃ m : Nat, m ≤ l9 ∧ i = .int .i64 m ∧ Below wt4.heap.size wt4 wi) (fun i _ => l9 - (intOf i).toNat)
          case atStart => exact ⟨0, Nat.zero_le _, rfl, Below.refl _ _⟩
          case round =>
            obtain ⟨m, hm, rfl, B⟩ := hrel
            have HB := Lib.hid B
            clear B
            by_cases hmr : m < l9
            · have hmr' : m < (r).length := by rw [HW4.out.1]; exact hmr
              obtain ⟨ad5, e5, c5⟩ := (HR4.out.kept HB.out).at_ hmr'
              injection e5 with e5
              subst e5
              obtain ⟨ad6, e6, c6⟩ := (HW4.out.below HB.out).at_ hmr
              injection e6 with e6
              subst e6
              have e7 : (r).getD m 0 = (r)[m] := by rw [List.getD_eq_getElem?_getD, List.getElem?_eq_getElem hmr']; rfl
              rw [e7] at c6
              generalize (r)[m] = y9 at c5 c6
              have m0 : (0 : Int) ≤ (m : Int) := by omega
              have m1 : (m : Int) < (l9 : Int) := by omega
              have HBD := Lib.hid (below_drewN wr)
              go_wp2_with fail
              go_quiet (fail)
              go_wp2
              exact ⟨⟨m + 1, by omega, by go_num, on HB.out HB.out.size (HBD.out _)⟩, by simp [intOf]; omega⟩
            · have : m = l9 := by omega
              subst this
              go_wp2
              exact ⟨⟨j + 1, k4, r, by omega, by go_num, by omega, (HW4.out.below HB.out).2, HS4.out.kept HB.out⟩, by simp [intOf]; omega⟩
    · have hj' : j = xs.length := by omega
      subst hj'
      go_wp2
      go_ret
      exact ⟨rfl, HC.out.below⟩

theorem alone_walk (room : Int) (hm : 0 ≤ room ∧ room ≤ 255) (A : Option Addr) (len cap : Nat) (w : World) (h : ∃ xs, Came .i64 w A len xs) : Calls Try.prog 3 #[.int .u8 room, .slice A len cap] w fun e w' => e = .returned (.bool true) ∧ Below w.heap.size w w' := by
  obtain ⟨xs, rfl, hr, hz⟩ := h
  by_cases hl : 60 < xs.length
  · exact alone_far room hm.1 hm.2 A cap _ w hl
  · exact alone_near room A cap xs w hm.1 hm.2 (by omega) hr
end Go.Proofs.Ytcnpbdboeaaajaa
