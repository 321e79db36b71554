/- DequeAlone. -/
import Derived.Test.YteaffpkmidaghaaAlM
import Derived.Deep.CutBlock
namespace Go.Proofs.Yteaffpkmidaghaa
open Go.RowKit
set_option linter.unusedVariables false
set_option linter.unusedSimpArgs false

set_option maxRecDepth 100000 in
set_option maxHeartbeats 1000000 in
theorem alone_far (room : Int) (h0 : 0 ≤ room) (h1 : room ≤ 255) (A : Option Addr) (c : Nat) (l : Nat) (w : World) (hl : 80 < l) : Calls Try.prog 3 #[.int .u8 room, .slice A l c] w fun e w' => e = .returned (.bool true) ∧ Below w.heap.size w w' := by
  have d1 : decide ((80 : Int) < (l : Int)) = true := by simp; omega
  go_enter Try.func3, Try.ntmps3
  go_wp2_with fail
  refine (awake_any _).mono ?_
  rintro e w1 ⟨rfl, B1⟩
  go_wp2_with fail
  refine (awake_any _).mono ?_
  rintro e w2 ⟨rfl, B2⟩
  have HB := Lib.hid (on B1 B1.size B2)
  clear B1 B2
  go_wp2
  go_ret
  exact ⟨rfl, HB.out⟩

/-- Behind an act. -/
def Acted (w wx : World) (gd g gw N j : Nat) (v8 v9 v10 : Value) : Prop :=
  ∃ (t' tag' nx' : Nat) (row' : List Int), Rw wx w.heap.size gw v8 row' ∧ v9 = .int .i64 t' ∧ v10 = .int .i64 nx' ∧ nx' ≤ j + 2 ∧ tag' ≤ j + 1 ∧ Sq w wx gd g gw N t' tag' row' (6 * (j + 1))

set_option maxRecDepth 100000 in
set_option maxHeartbeats 4000000 in
theorem alone_near (room : Int) (A : Option Addr) (c : Nat) (xs : List Int) (w : World) (hm0 : 0 ≤ room) (hm1 : room ≤ 255) (hl : xs.length ≤ 80) (hr : Row .u8 w A xs) (hz : ∀ z ∈ xs, 0 ≤ z ∧ z ≤ 255) :
    Calls Try.prog 3 #[.int .u8 room, .slice A xs.length c] w fun e w' => e = .returned (.bool true) ∧ Below w.heap.size w w' := by
  have d1 : decide ((80 : Int) < (xs.length : Int)) = false := by simp; omega
  obtain ⟨N, hN⟩ : ∃ N : Nat, 2 + room % 8 = N := ⟨(2 + room % 8).toNat, by omega⟩
  have hN1 : 2 ≤ N := by omega
  have hN2 : N ≤ 9 := by omega
  have HN := Lib.hid hN
  have n2 := nil24
  have HR := Lib.hid hr
  have HZ := Lib.hid hz
  clear hr hz hN
  go_enter Try.func3, Try.ntmps3
  go_wp2_with fail
  refine (awake_any _).mono ?_
  rintro e w1 ⟨rfl, B1⟩
  have HB1 := Lib.hid B1
  clear B1
  go_wp2_with fail
  refine (sq_new (2 + room % 8) N HN.out w w1 HB1.out hN1 (by omega)).mono ?_
  rintro e w2 ⟨gd, g, gw, rfl, S2⟩
  have HS2 := Lib.hid S2
  clear S2
  go_wp2_with fail
  rw [HN.out]
  clear hm0 hm1 HN
  go_loopw [48, 8, 9, 10] (fun i v8 v9 v10 wr => ∃ (j t tag nx : Nat) (row : List Int), j ≤ xs.length ∧ i = .int .i64 j ∧ Rw wr w.heap.size gw v8 row ∧ v9 = .int .i64 t ∧ v10 = .int .i64 nx ∧ nx ≤ j + 1 ∧ tag ≤ j ∧ Sq w wr gd g gw N t tag row (6 * j)) (fun i _ _ _ _ => xs.length - (intOf i).toNat)
  case atStart => exact ⟨0, 0, 0, 1, [], Nat.zero_le _, rfl, Rw.nil _ _ _, rfl, rfl, by omega, by omega, HS2.out⟩
  case round =>
    obtain ⟨j, t, tag, nx, row, hj, rfl, hrw, rfl, rfl, hnx, htag, S⟩ := hrel
    obtain ⟨A8, l8, cap8, rfl, hrl⟩ := hrw.rl
    have HW := Lib.hid hrl
    have HS := Lib.hid S
    have hll := hrl.1
    clear S HS2 hrw hrl
    by_cases hjl : j < xs.length
    · obtain ⟨ad, rfl, c0⟩ := (HR.out.kept HS.out.below).at_ hjl
      have hb := HZ.out xs[j] (List.getElem_mem hjl)
      generalize xs[j] = a at c0 hb
      obtain ⟨hb0, hb1⟩ := hb
      have j0 : (0 : Int) ≤ (j : Int) := by omega
      have j1 : (j : Int) < (xs.length : Int) := by omega
      have hfits : t + l8 ≤ N := by obtain ⟨zs, q⟩ := HS.out.q; have := q.fits; omega
      have HLL := Lib.hid hll
      clear hll
      go_upto_block 2 with fail
      go_cut [8, 9, 10] from 49 to 184 (fun v8 v9 v10 wx => Acted w wx gd g gw N j v8 v9 v10)
      case first =>
        have hcase : a % 3 = 0 ∨ a % 3 = 1 ∨ a % 3 = 2 := by omega
        rcases hcase with h3 | h3 | h3
        · go_wp2_with fail
          refine (sq_pushk HS.out _).mono ?_
          rintro e w3 ⟨gc, rfl, b3, B3⟩
          have HB3 := Lib.hid b3
          have HW3 := Lib.hid (HW.out.below B3)
          clear b3 B3 c0
          by_cases hfull : t + l8 < N
          · have hd : ((t : Int) + (l8 : Int) == (N : Int)) = false := by simp; omega
            go_wp2_with fail
            refine (done_pushk HB3.out (by rw [HLL.out]; exact hfull) (by omega)).mono ?_
            rintro e w4 ⟨y, rfl, S4, K4⟩
            have HS4 := Lib.hid S4
            have HW4 := Lib.hid (HW3.out.keptk K4 HB3.out.lies)
            have hb4 := Lib.hid S4.below.size
            clear S4 K4
            have HB5 := Lib.hid (below_one w4 (.cells #[.int .i64 (nx : Int)] 3))
            have HW5 := Lib.hid (HW4.out.below HB5.out)
            have HS5 := Lib.hid (HS4.out.kept HB5.out)
            have c5 := cell_one_new w4 (.int .i64 (nx : Int)) 3 0 _ rfl
            rw [Addr.add_zero'] at c5
            have HC5 := Lib.hid c5
            clear c5
            go_wp2_with (at_builtin; refine wpList_append_rw rfl (.tmp 112) (.tmp 114) rfl rfl HW5.out.2 (Nat.le_trans hb4.out HB5.out.size) HS5.out.gw_lt (by rw [HLL.out]; omega) ⟨w4.heap.size, 0, none⟩ (nx : Int) rfl HC5.out ?_; intro v6 w6 R6 G6)
            go_meet
            exact ⟨t, tag, nx + 1, row ++ [(nx : Int)], R6, rfl, by go_num, by omega, by omega, (HS5.out.grown HW5.out.2 G6).more (by omega)⟩
          · have hfull' : t + l8 = N := by omega
            have hd : ((t : Int) + (l8 : Int) == (N : Int)) = true := by simp; omega
            go_wp2_with fail
            refine (done_fullk HB3.out (by rw [HLL.out]; exact hfull') (by omega)).mono ?_
            rintro e w4 ⟨y, rfl, S4, K4⟩
            have HS4 := Lib.hid S4
            have HW4 := Lib.hid (HW3.out.keptk K4 HB3.out.lies)
            clear S4 K4
            go_wp2
            all_goals go_meet
            all_goals exact ⟨t, tag, nx, row, HW4.out.2, rfl, rfl, by omega, by omega, HS4.out.more (by omega)⟩
        · go_wp2_with fail
          refine (sq_popk HS.out).mono ?_
          rintro e w3 ⟨gc, rfl, b3, B3⟩
          have HW3 := Lib.hid (HW.out.below B3)
          have HB3 := Lib.hid b3
          clear b3 B3 c0
          by_cases hl0 : l8 = 0
          · have hnil : row = [] := List.length_eq_zero_iff.1 (by rw [HLL.out]; exact hl0)
            subst hnil
            subst hl0
            go_wp2_with fail
            refine (done_pop3k HB3.out (by omega) (by omega)).mono ?_
            rintro e w4 ⟨rfl, tag2, ht2, S4, K4⟩
            have HS4 := Lib.hid S4
            have HW4 := Lib.hid (HW3.out.keptk K4 HB3.out.lies)
            clear S4 K4
            by_cases ht0 : t = 0
            · have hd : ((t : Int) == 0) = true := by simp; omega
              go_wp2
              all_goals go_meet
              all_goals exact ⟨0, tag2, nx, [], HW4.out.2, rfl, rfl, by omega, by omega, HS4.out.more (by omega)⟩
            · have hd : ((t : Int) == 0) = false := by simp; omega
              go_wp2
              all_goals go_meet
              all_goals exact ⟨0, tag2, nx, [], HW4.out.2, rfl, rfl, by omega, by omega, HS4.out.more (by omega)⟩
          · obtain ⟨l9, hl9⟩ : ∃ l9, l8 = l9 + 1 := ⟨l8 - 1, by omega⟩
            obtain ⟨r, y, hr⟩ : ∃ r y, row = r ++ [y] := by
              rcases List.eq_nil_or_concat row with h | ⟨r, y, h⟩
              · rw [h] at HLL; have := HLL.out; simp at this; omega
              · exact ⟨r, y, by rw [h, List.concat_eq_append]⟩
            subst hr
            have hrl9 : Hid (r.length = l9) := Lib.hid (by have := HLL.out; simp at this; omega)
            have hd1 : ((t : Int) + (l8 : Int) == 0) = false := by simp; omega
            have hd2 : ((l8 : Int) == 0) = false := by simp; omega
            have hs9 : (l8 : Int) - 1 = (l9 : Int) := by omega
            have q0 : (0 : Int) ≤ (l9 : Int) := by omega
            have q1 : (l9 : Int) < (l8 : Int) := by omega
            have HL9 := Lib.hid hl9
            clear hl9 hl0
            by_cases hr0 : l9 = 0
            · have hrn : r = [] := List.length_eq_zero_iff.1 (by rw [hrl9.out]; exact hr0)
              subst hrn
              rw [List.nil_append] at HB3
              have hd3 : ((l9 : Int) == 0) = true := by simp; omega
              go_wp2_with fail
              refine (done_pop2k HB3.out (by omega) (by omega)).mono ?_
              rintro e w4 ⟨rfl, S4, K4⟩
              have HS4 := Lib.hid S4
              have HW4 := Lib.hid (HW3.out.keptk K4 HB3.out.lies)
              clear S4 K4
              obtain ⟨ad8, e8, c8⟩ := HW4.out.at_ (i := l9) (by have := HL9.out; omega)
              subst e8
              have c9 : w4.cell? (ad8.add l9) = some (.int .i64 y) := by rw [c8, hr0]; rfl
              obtain ⟨rs, R5⟩ := HW4.out.last HL9.out
              have HR5 := Lib.hid R5
              clear c8 R5 hr0
              go_wp2
              all_goals go_meet
              all_goals exact ⟨0, tag + 1, nx, [], HR5.out, rfl, rfl, by omega, by omega, HS4.out.more (by omega)⟩
            · have hd3 : ((l9 : Int) == 0) = false := by simp; omega
              go_wp2_with fail
              refine (done_pop1k HB3.out (by rw [hrl9.out]; omega) (by omega)).mono ?_
              rintro e w4 ⟨rfl, S4, K4⟩
              have HS4 := Lib.hid S4
              have HW4 := Lib.hid (HW3.out.keptk K4 HB3.out.lies)
              clear S4 K4
              obtain ⟨ad8, e8, c8⟩ := HW4.out.at_ (i := l9) (by have := HL9.out; omega)
              subst e8
              have c9 : w4.cell? (ad8.add l9) = some (.int .i64 y) := by rw [c8, ← hrl9.out]; simp [List.getD]
              obtain ⟨rs, R5⟩ := HW4.out.last HL9.out
              have HR5 := Lib.hid R5
              clear c8 R5 hr0
              go_wp2
              all_goals go_meet
              all_goals exact ⟨t, tag, nx, r, HR5.out, rfl, rfl, by omega, by omega, HS4.out.more (by omega)⟩
        · go_wp2_with fail
          refine (sq_stealk HS.out (1 + a / 3 % 63) (by omega) (by omega)).mono ?_
          rintro e w3 ⟨gc, rfl, b3, B3⟩
          have HW3 := Lib.hid (HW.out.below B3)
          have hi3 : Hid (0 ≤ 1 + a / 3 % 63 ∧ 1 + a / 3 % 63 < 64) := Lib.hid (by omega)
          have HB3 := Lib.hid b3
          clear b3 B3 c0
          by_cases hl0 : l8 = 0
          · have hnil : row = [] := List.length_eq_zero_iff.1 (by rw [HLL.out]; exact hl0)
            subst hnil
            subst hl0
            go_wp2_with fail
            refine (done_steal0k HB3.out hi3.out (by omega)).mono ?_
            rintro e w4 ⟨rfl, S4, K4⟩
            have HS4 := Lib.hid S4
            have HW4 := Lib.hid (HW3.out.keptk K4 HB3.out.lies)
            clear S4 K4
            go_wp2
            all_goals go_meet
            all_goals exact ⟨t, tag, nx, [], HW4.out.2, rfl, rfl, by omega, by omega, HS4.out.more (by omega)⟩
          · obtain ⟨l9, hl9⟩ : ∃ l9, l8 = l9 + 1 := ⟨l8 - 1, by omega⟩
            obtain ⟨y, r, hr⟩ : ∃ y r, row = y :: r := by
              cases row with
              | nil => have := HLL.out; simp at this; omega
              | cons y r => exact ⟨y, r, rfl⟩
            subst hr
            have hd2 : ((l8 : Int) == 0) = false := by simp; omega
            have q0 : (0 : Int) < (l8 : Int) := by omega
            have HL9 := Lib.hid hl9
            clear hl9 hl0
            go_wp2_with fail
            refine (done_steal1k HB3.out hi3.out (by omega)).mono ?_
            rintro e w4 ⟨rfl, S4, K4⟩
            have HS4 := Lib.hid S4
            have HW4 := Lib.hid (HW3.out.keptk K4 HB3.out.lies)
            clear S4 K4
            obtain ⟨ad8, e8, c8⟩ := HW4.out.at_ (i := 0) (by have := HL9.out; omega)
            subst e8
            have c9 : w4.cell? ad8 = some (.int .i64 y) := by rw [← Addr.add_zero' ad8, c8]; rfl
            obtain ⟨v5, rs, R5⟩ := HW4.out.first HL9.out
            have HR5 := Lib.hid R5
            clear c8 R5
            go_wp2
            all_goals go_meet
            all_goals exact ⟨t + 1, tag, nx, r, HR5.out, by go_num, rfl, by omega, by omega, HS4.out.more (by omega)⟩
      case rest =>
        obtain ⟨t', tag', nx', row', R', rfl, rfl, hnx', htag', S'⟩ := hcut
        obtain ⟨A9, l9, cap9, rfl, R9⟩ := R'.rl
        have hl9 : l9 ≤ 9 := by obtain ⟨zs, q⟩ := S'.q; have := q.fits; have := R9.1; omega
        have HR' := Lib.hid R9
        have HS' := Lib.hid S'
        clear R' S' R9 HW HS c0
        go_wp2_with fail
        refine (sq_words HS'.out).mono ?_
        rintro e w4 ⟨a4, rfl, R4, B4⟩
        rw [HR'.out.1]
        have HR4 := Lib.hid R4
        have HS4 := Lib.hid (HS'.out.kept B4)
        have HW4 := Lib.hid (HR'.out.below B4)
        clear R4 B4 HR' HS'
        go_wp2_with fail
        go_loopw [171] (fun i wi => ∃ m : Nat, m ≤ l9 ∧ i = .int .i64 m ∧ Below w4.heap.size w4 wi) (fun i _ => l9 - (intOf i).toNat)
        case atStart => exact ⟨0, Nat.zero_le _, rfl, Below.refl _ _⟩
        case round =>
          obtain ⟨m, hm, rfl, B⟩ := hrel
          have HB := Lib.hid B
          clear B
          by_cases hmr : m < l9
          · have hmr' : m < row'.length := by rw [HW4.out.1]; exact hmr
            obtain ⟨ad5, e5, c5⟩ := (HR4.out.kept HB.out).at_ hmr'
            injection e5 with e5
            subst e5
            obtain ⟨ad6, e6, c6⟩ := (HW4.out.below HB.out).at_ hmr
            subst e6
            have e7 : row'.getD m 0 = row'[m] := by simp [List.getD, hmr']
            rw [e7] at c6
            generalize row'[m] = y at c5 c6
            have m0 : (0 : Int) ≤ (m : Int) := by omega
            have m1 : (m : Int) < (l9 : Int) := by omega
            have HBD := Lib.hid (below_drewN wr)
            go_wp2_with fail
            go_quiet (fail)
            go_wp2
            exact ⟨⟨m + 1, by omega, by go_num, on HB.out HB.out.size (HBD.out _)⟩, by simp [intOf]; omega⟩
          · have : m = l9 := by omega
            subst this
            go_wp2
            exact ⟨⟨j + 1, t', tag', nx', row', by omega, by go_num, (HW4.out.below HB.out).2, rfl, rfl, by omega, by omega, (HS4.out.kept HB.out).more (by omega)⟩, by simp [intOf]; omega⟩
    · have hj' : j = xs.length := by omega
      subst hj'
      go_wp2
      go_ret
      exact ⟨rfl, HS.out.below⟩

theorem alone_walk (room : Int) (hm : 0 ≤ room ∧ room ≤ 255) (A : Option Addr) (len cap : Nat) (w : World) (h : ∃ xs, Came .u8 w A len xs) : Calls Try.prog 3 #[.int .u8 room, .slice A len cap] w fun e w' => e = .returned (.bool true) ∧ Below w.heap.size w w' := by
  obtain ⟨xs, rfl, hr, hz⟩ := h
  by_cases hl : 80 < xs.length
  · exact alone_far room hm.1 hm.2 A cap _ w hl
  · exact alone_near room A cap xs w hm.1 hm.2 (by omega) hr hz
end Go.Proofs.Yteaffpkmidaghaa
