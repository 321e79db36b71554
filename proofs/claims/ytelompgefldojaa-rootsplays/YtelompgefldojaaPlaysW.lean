/- RootsPlays. -/
import Derived.Test.YtelompgefldojaaPlM
namespace Go.Proofs.Ytelompgefldojaa
open Go.RowKit
set_option linter.unusedVariables false
set_option linter.unusedSimpArgs false

set_option maxRecDepth 100000 in
set_option maxHeartbeats 1000000 in
theorem plays_far (A : Option Addr) (c : Nat) (l : Nat) (w : World) (hl : 60 < l) : Calls Try.prog 3 #[.slice A l c] w fun e w' => e = .returned (.bool true) ∧ Below w.heap.size w w' := by
  have d1 : decide ((60 : Int) < (l : Int)) = true := by simp; omega
  go_enter Try.func3, Try.ntmps3
  go_wp2_with fail
  refine (awake_any _).mono ?_
  rintro e w1 ⟨rfl, B1⟩
  go_wp2_with fail
  refine (awake_any _).mono ?_
  rintro e w2 ⟨rfl, B2⟩
  have HB := Lib.hid (on B1 B1.size B2)
  clear B1 B2
  go_wp2
  go_ret
  exact ⟨rfl, HB.out⟩

/-- What stands behind an act. -/
def Acted (w wx : World) (r j : Nat) (v4 : Value) : Prop := ∃ (B : Option Addr) (l cap : Nat) (row : List Int), v4 = .slice B l cap ∧ l ≤ j + 1 ∧ Pz w wx r row B l cap row

set_option maxRecDepth 100000 in
set_option maxHeartbeats 8000000 in
theorem plays_near (A : Option Addr) (c : Nat) (ds : List Deed) (w : World) (hl : ds.length ≤ 60) (hr : Deeds w A ds) (hz : ∀ d ∈ ds, d.fit) :
    Calls Try.prog 3 #[.slice A ds.length c] w fun e w' => e = .returned (.bool true) ∧ Below w.heap.size w w' := by
  have d1 : decide ((60 : Int) < (ds.length : Int)) = false := by simp; omega
  have HR := Lib.hid hr
  have HZ := Lib.hid hz
  clear hr hz
  go_enter Try.func3, Try.ntmps3
  go_wp2_with fail
  refine (awake_any _).mono ?_
  rintro e w1 ⟨rfl, B1⟩
  have HB1 := Lib.hid B1
  clear B1
  go_wp2_with fail
  refine (ro_new 3 w w1 HB1.out).mono ?_
  rintro e w2 ⟨r, rfl, H2⟩
  have HH2 : Hid (Pz w w2 r [] none 0 0 []) := Lib.hid (by
    obtain ⟨⟨S, h1⟩, h2⟩ := H2
    exact ⟨rfl, S, h1, Rv.nil _ _, (fun k hk => by cases hk), h2⟩)
  clear H2 HB1
  go_wp2_with fail
  go_loopw [27, 4] (fun i v4 wr => ∃ (j : Nat) (B : Option Addr) (l cap : Nat) (row : List Int), j ≤ ds.length ∧ i = .int .i64 j ∧ v4 = .slice B l cap ∧ l ≤ j ∧ Pz w wr r row B l cap row) (fun i _ _ => ds.length - (intOf i).toNat)
  case atStart => exact ⟨0, none, 0, 0, [], Nat.zero_le _, rfl, rfl, Nat.le_refl _, HH2.out⟩
  case round =>
    obtain ⟨j, B, l, cap, row, hj, rfl, rfl, hlj, H⟩ := hrel
    have HH := Lib.hid H
    have HL := Lib.hid H.1
    clear H HH2
    by_cases hjd : j < ds.length
    · obtain ⟨ad, rfl, c0, c1, c2⟩ := HR.out.at_ hjd wr HH.out.low
      have hfit := HZ.out ds[j] (List.getElem_mem hjd)
      obtain ⟨⟨hk0, hk1⟩, ⟨ha0, ha1⟩, ⟨hb0, hb1⟩⟩ := hfit
      generalize ds[j].what = kd at *
      generalize ds[j].at_ = a at *
      generalize ds[j].word = y at *
      have j0 : (0 : Int) ≤ (j : Int) := by omega
      have j1 : (j : Int) < (ds.length : Int) := by omega
      obtain ⟨X, hX⟩ : ∃ X : Obj, X = .cells #[.int .u8 kd, .int .i64 a, .int .i64 y] 28 := ⟨_, rfl⟩
      have LX : Lies (wr.alloc X) wr.heap.size 28 [.int .u8 kd, .int .i64 a, .int .i64 y] := by rw [hX]; exact Lies.new wr 28 [_, _, _]
      go_upto_region 8 with fail
      rw [← hX]
      have B3 := below_one wr X
      have HH3 := Lib.hid (HH.out.kept B3)
      have m0 : (wr.alloc X).cell? ⟨wr.heap.size, 0, none⟩ = some (.int .u8 kd) := LX.cell 0
      have m1 : (wr.alloc X).cell? ⟨wr.heap.size, 1, none⟩ = some (.int .i64 a) := LX.cell 1
      have m2 : (wr.alloc X).cell? ⟨wr.heap.size, 2, none⟩ = some (.int .i64 y) := LX.cell 2
      have HLX := Lib.hid LX
      clear LX hX B3 HH c0 c1 c2
      generalize wr.heap.size = bx at *
      generalize wr.alloc X = w3 at *
      obtain ⟨th, hth⟩ : ∃ th, decide (0 ≤ a ∧ a < (l : Int)) = th := ⟨_, rfl⟩
      have HTH := Lib.hid hth
      clear hth
      go_cut [7] from 31 to 40 (fun v7 wx => v7 = .bool th ∧ wx = w3)
      case first =>
        by_cases h0 : 0 ≤ a
        · by_cases h1 : a < (l : Int)
          · have e : decide (a < (l : Int)) = true := by simp; omega
            go_wp2
            go_meet
            exact ⟨by rw [← HTH.out, decide_eq_true (p := 0 ≤ a ∧ a < (l : Int)) ⟨h0, h1⟩], rfl⟩
          · have e : decide (a < (l : Int)) = false := by simp; omega
            go_wp2
            go_meet
            exact ⟨by rw [← HTH.out, decide_eq_false (p := 0 ≤ a ∧ a < (l : Int)) (by omega)], rfl⟩
        · have e : decide (0 ≤ a) = false := by simp; omega
          go_wp2
          go_meet
          exact ⟨by rw [← HTH.out, decide_eq_false (p := 0 ≤ a ∧ a < (l : Int)) (by omega)], rfl⟩
      case rest =>
      obtain ⟨rfl, rfl⟩ := hcut
      go_upto_block 2 with fail
      go_cut [4, 8, 9, 10, 11, 12, 13] from 43 to 154 (fun v4 v8 v9 v10 v11 v12 v13 wx => Acted w wx r j v4)
      case first =>
        have hcase : kd % 4 = 0 ∨ kd % 4 = 1 ∨ kd % 4 = 2 ∨ kd % 4 = 3 := by omega
        rcases hcase with h4 | h4 | h4 | h4
        · by_cases hy : 0 ≤ y
          · have dy : decide (y < 0) = false := by simp; omega
            go_wp2_with fail
            refine (pz_push HH3.out y hy (by rw [HL.out]; omega)).mono ?_
            rintro e w4 ⟨rfl, P4, K4⟩
            have HP4 := Lib.hid P4
            have n2 : w4.cell? ⟨bx, 2, none⟩ = some (.int .i64 y) := (K4 _ _ HLX.out).cell 2
            clear P4 K4 HH3 HLX m0 m1 m2
            have HB5 := Lib.hid (below_one w4 (.cells #[.int .i64 y] 3))
            have HP5 := Lib.hid (HP4.out.kept HB5.out)
            have c5 := cell_one_new w4 (.int .i64 y) 3 0 _ rfl
            rw [Addr.add_zero'] at c5
            have HC5 := Lib.hid c5
            clear c5
            go_wp2_with (at_builtin; refine wpList_append_rl rfl (.tmp 90) (.tmp 93) rfl rfl HL.out HP5.out.rv HP5.out.low.size (by omega) ⟨w4.heap.size, 0, none⟩ y rfl HC5.out ?_; intro B6 cap6 w6 R6 G6 M6)
            go_meet
            exact ⟨B6, l + 1, cap6, row ++ [y], rfl, by omega, HP5.out.append R6 G6 M6⟩
          · have dy : decide (y < 0) = true := by simp; omega
            go_wp2_with fail
            refine (pz_push_bad HH3.out y (by omega)).mono ?_
            rintro e w4 ⟨rfl, rfl⟩
            go_wp2
            go_meet
            exact ⟨B, l, cap, row, rfl, by omega, HH3.out⟩
        · by_cases hl0 : l = 0
          · have hnil : row = [] := List.length_eq_zero_iff.1 (by rw [HL.out]; exact hl0)
            subst hnil
            subst hl0
            go_wp2_with fail
            refine (pz_pop_empty HH3.out).mono ?_
            rintro e w4 ⟨rfl, rfl⟩
            go_wp2
            go_meet
            exact ⟨B, 0, cap, [], rfl, by omega, HH3.out⟩
          · obtain ⟨l9, hl9⟩ : ∃ l9, l = l9 + 1 := ⟨l - 1, by omega⟩
            obtain ⟨r', y', hr'⟩ : ∃ r' y', row = r' ++ [y'] := by
              rcases List.eq_nil_or_concat row with h | ⟨r', y', h⟩
              · rw [h] at HL; have := HL.out; simp at this; omega
              · exact ⟨r', y', by rw [h, List.concat_eq_append]⟩
            subst hr'
            have hrl9 : Hid (r'.length = l9) := Lib.hid (by have := HL.out; simp at this; omega)
            have hd2 : ((l : Int) == 0) = false := by simp; omega
            have hs9 : (l : Int) - 1 = (l9 : Int) := by omega
            have q0 : (0 : Int) ≤ (l9 : Int) := by omega
            have q1 : (l9 : Int) < (l : Int) := by omega
            have HL9 := Lib.hid hl9
            clear hl9 hl0
            go_wp2_with fail
            refine (pz_pop HH3.out (by rw [hrl9.out]; have := HL9.out; omega)).mono ?_
            rintro e w4 ⟨rfl, P4, K4⟩
            have HP4 := Lib.hid P4
            obtain ⟨ad8, q8, e8, -, c8, -⟩ := P4.rv.at_ (i := l9) (by simp [hrl9.out])
            subst e8
            have c9 : w4.cell? (ad8.add l9) = some (.int .i64 y') := by rw [c8, ← hrl9.out]; simp [List.getD]
            obtain ⟨rs, P5⟩ := P4.cut HL9.out
            have HP5 := Lib.hid P5
            clear c8 P5 P4 K4 HH3
            go_wp2
            go_meet
            exact ⟨_, l9, cap, r', rfl, by have := HL9.out; omega, HP5.out⟩
        · by_cases ht : 0 ≤ a ∧ a < (l : Int)
          · have et : th = true := HTH.out.symm.trans (decide_eq_true ht)
            subst et
            obtain ⟨m, rfl⟩ : ∃ m : Nat, a = m := ⟨a.toNat, by omega⟩
            have hml : m < row.length := by rw [HL.out]; omega
            obtain ⟨t0, t1⟩ := ht
            by_cases hy : 0 ≤ y
            · have dy : decide (y < 0) = false := by simp; omega
              go_wp2_with fail
              refine (pz_set HH3.out (m : Int) y m rfl hml hy).mono ?_
              rintro e w4 ⟨rfl, P4, K4⟩
              have n1 : w4.cell? ⟨bx, 1, none⟩ = some (.int .i64 (m : Int)) := (K4 _ _ HLX.out).cell 1
              have n2 : w4.cell? ⟨bx, 2, none⟩ = some (.int .i64 y) := (K4 _ _ HLX.out).cell 2
              obtain ⟨ad8, q8, e8, had, c8, f8⟩ := P4.rv.at_ hml
              subst e8
              have HP5 : Hid (Pz w (w4.setCell (ad8.add m) (.int .i64 y)) r (row.set m y) (some ad8) l cap (row.set m y)) := Lib.hid (by
                subst had
                rw [add_at]
                exact P4.turn m y)
              clear P4 K4 HH3 had HLX m0 m1 m2
              go_wp2
              go_meet
              exact ⟨_, l, cap, _, rfl, by omega, HP5.out⟩
            · have dy : decide (y < 0) = true := by simp; omega
              go_wp2_with fail
              refine (pz_set_bad HH3.out (m : Int) y m rfl hml (by omega)).mono ?_
              rintro e w4 ⟨rfl, rfl⟩
              go_wp2
              go_meet
              exact ⟨B, l, cap, row, rfl, by omega, HH3.out⟩
          · have et : th = false := HTH.out.symm.trans (decide_eq_false ht)
            subst et
            go_wp2_with fail
            refine (pz_set_no HH3.out a y (by rw [HL.out]; omega)).mono ?_
            rintro e w4 ⟨rfl, rfl⟩
            go_wp2
            go_meet
            exact ⟨B, l, cap, row, rfl, by omega, HH3.out⟩
        · by_cases ht : 0 ≤ a ∧ a < (l : Int)
          · have et : th = true := HTH.out.symm.trans (decide_eq_true ht)
            subst et
            obtain ⟨m, rfl⟩ : ∃ m : Nat, a = m := ⟨a.toNat, by omega⟩
            have hml : m < row.length := by rw [HL.out]; omega
            obtain ⟨t0, t1⟩ := ht
            obtain ⟨ad8, q8, e8, had, c8, f8⟩ := HH3.out.rv.at_ hml
            subst e8
            generalize hv : row.getD m 0 = v at c8
            have HV := Lib.hid hv
            clear had hv
            go_wp2_with fail
            refine (pz_get HH3.out (m : Int) m rfl hml v HV.out).mono ?_
            rintro e w4 ⟨rfl, rfl⟩
            go_wp2
            go_meet
            exact ⟨_, l, cap, row, rfl, by omega, HH3.out⟩
          · have et : th = false := HTH.out.symm.trans (decide_eq_false ht)
            subst et
            go_wp2_with fail
            refine (pz_get_no HH3.out a (by rw [HL.out]; omega)).mono ?_
            rintro e w4 ⟨rfl, rfl⟩
            go_wp2
            go_meet
            exact ⟨B, l, cap, row, rfl, by omega, HH3.out⟩
      case rest =>
        obtain ⟨B4, l4, cap4, row4, rfl, hl4, P4⟩ := hcut
        have HP4 := Lib.hid P4
        have HL4 := Lib.hid P4.1
        clear P4 HH3 HLX m0 m1 m2
        go_wp2_with fail
        refine (pz_all HP4.out (by omega)).mono ?_
        rintro e w5 ⟨ad5, q5, rfl, had5, T5⟩
        have HT5 := Lib.hid T5
        have HA5 := Lib.hid had5
        clear T5 had5 HP4
        go_wp2_with fail
        refine (pz_len HT5.out.pz l4 HL4.out).mono ?_
        rintro e w6 ⟨rfl, rfl⟩
        go_wp2_with fail
        go_loopw [171] (fun i wi => ∃ m : Nat, m ≤ l4 ∧ i = .int .i64 m ∧ Told w wi r B4 l4 cap4 row4 q5 m) (fun i _ => l4 - (intOf i).toNat)
        case atStart => exact ⟨0, Nat.zero_le _, rfl, HT5.out⟩
        case round =>
          obtain ⟨m, hm, rfl, T⟩ := hrel
          have HT := Lib.hid T
          clear T HT5
          by_cases hml : m < l4
          · obtain ⟨y9, c8, f8, ad9, e9, c9⟩ := HT.out.at_ hml HA5.out
            subst e9
            have m0 : (0 : Int) ≤ (m : Int) := by omega
            have m1 : (m : Int) < (l4 : Int) := by omega
            have HQ : Hid (∀ n, Told w (wr.drewN n) r (some ad9) l4 cap4 row4 q5 m ∧ (wr.drewN n).cell? (ad5.add m) = some (.int .i64 y9) ∧ (wr.drewN n).frozen? (ad5.add m) = false) := Lib.hid (fun n => ⟨HT.out.kept (below_drewN wr n), c8, f8⟩)
            go_wp2_with fail
            go_quiet (fail)
            obtain ⟨T7, c7, f7⟩ := HQ.out nq
            have HT7 := Lib.hid T7
            clear T7 c8 f8 c9 HQ HT
            generalize wr.drewN nq = w7 at *
            go_wp2
            exact ⟨⟨m + 1, by omega, by go_num, HT7.out.next HA5.out (-3)⟩, by simp [intOf]; omega⟩
          · have : m = l4 := by omega
            subst this
            go_wp2
            exact ⟨⟨j + 1, _, m, cap4, row4, by omega, by go_num, rfl, by omega, HT.out.pz⟩, by simp [intOf]; omega⟩
    · have hj' : j = ds.length := by omega
      subst hj'
      go_wp2
      go_ret
      exact ⟨rfl, HH.out.low⟩

theorem plays_walk (A : Option Addr) (len cap : Nat) (w : World) (h : ∃ ds, CameD w A len ds) : Calls Try.prog 3 #[.slice A len cap] w fun e w' => e = .returned (.bool true) ∧ Below w.heap.size w w' := by
  obtain ⟨ds, rfl, hr, hz⟩ := h
  by_cases hl : 60 < ds.length
  · exact plays_far A cap _ w hl
  · exact plays_near A cap ds w (by omega) hr hz
end Go.Proofs.Ytelompgefldojaa
