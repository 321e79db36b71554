/- OfferPlays. -/
import Derived.Test.YtpifnhfdbcckjaaPlM
namespace Go.Proofs.Ytpifnhfdbcckjaa
open Go.RowKit
set_option linter.unusedVariables false
set_option linter.unusedSimpArgs false

set_option maxRecDepth 100000 in
set_option maxHeartbeats 1000000 in
theorem plays_far (a0 : Int) (A : Option Addr) (c : Nat) (l : Nat) (w : World) (hl : 100 < l) : Calls Try.prog 3 #[.int .u8 a0, .slice A l c] w fun e w' => e = .returned (.bool true) ∧ Below w.heap.size w w' := by
  have d1 : decide ((100 : Int) < (l : Int)) = true := by simp; omega
  go_enter Try.func3, Try.ntmps3
  go_wp2_with fail
  refine (awake_any _).mono ?_
  rintro e w1 ⟨rfl, B1⟩
  go_wp2_with fail
  refine (awake_any _).mono ?_
  rintro e w2 ⟨rfl, B2⟩
  have HB := Lib.hid (on B1 B1.size B2)
  clear B1 B2
  go_wp2
  go_ret
  exact ⟨rfl, HB.out⟩

/-- What stands behind an act. -/
def Acted (w wx : World) (o qi bx n j : Nat) (k0 kd a s : Int) (v9 v10 : Value) : Prop :=
  ∃ (ids : List Bool) (k : Int) (l : Nat), v9 = .int .i64 k ∧ v10 = .int .i64 l ∧ l ≤ j + 1 ∧ (k0 = n → k = n) ∧ Lies wx bx 30 [.int .u8 kd, .int .i64 a, .int .i64 s] ∧ Pz w wx o qi ids ids k l n

set_option maxRecDepth 100000 in
set_option maxHeartbeats 8000000 in
theorem plays_near (n : Nat) (a0 : Int) (A : Option Addr) (c : Nat) (ds : List Deed) (w : World) (b0 : 0 ≤ a0) (b1 : a0 ≤ 255) (hn : Hid (1 + a0 % 64 = (n : Int))) (n1 : 1 ≤ n) (n64 : n ≤ 64) (hl : ds.length ≤ 100) (hr : Deeds w A ds) (hz : ∀ d ∈ ds, d.fit) :
    Calls Try.prog 3 #[.int .u8 a0, .slice A ds.length c] w fun e w' => e = .returned (.bool true) ∧ Below w.heap.size w w' := by
  have d1 : decide ((100 : Int) < (ds.length : Int)) = false := by simp; omega
  have hnil := nil24
  have hmk := makeB n n64
  obtain ⟨X0, hX0⟩ : ∃ X : Obj, X = .cells ((List.replicate n false).map Value.bool).toArray 4 := ⟨_, rfl⟩
  rw [← hX0] at hmk
  have HX0 := Lib.hid hX0
  have HR := Lib.hid hr
  have HZ := Lib.hid hz
  clear hr hz hX0
  go_enter Try.func3, Try.ntmps3
  go_wp2_with fail
  refine (awake_any _).mono ?_
  rintro e w1 ⟨rfl, B1⟩
  have HB1 := Lib.hid B1
  clear B1
  go_wp2_with fail
  rw [hn.out]
  refine (oo_new n w w1 HB1.out n1 n64).mono ?_
  rintro e w2 ⟨o, rfl, H2⟩
  have HH2 := Lib.hid (pz_new n w w2 X0 HX0.out H2)
  clear H2 HB1 b0 b1
  go_wp2_with fail
  clear hmk
  generalize w2.heap.size = qi at *
  generalize w2.alloc X0 = w3 at *
  clear HX0
  go_loopw [48, 9, 10, 11] (fun i v9 v10 v11 wr => ∃ (j : Nat) (ids : List Bool) (k : Int) (l : Nat), j ≤ ds.length ∧ i = .int .i64 j ∧ v9 = .int .i64 k ∧ v10 = .int .i64 l ∧ v11 = .bool (k == (n : Int)) ∧ l ≤ j ∧ Pz w wr o qi ids ids k l n) (fun i _ _ _ _ => ds.length - (intOf i).toNat)
  case atStart => exact ⟨0, _, 0, 0, Nat.zero_le _, rfl, rfl, rfl, by congr 1; symm; simp; omega, Nat.le_refl _, HH2.out⟩
  case round =>
    obtain ⟨j, ids, k, l, hj, rfl, rfl, rfl, rfl, hlj, H⟩ := hrel
    have HH := Lib.hid H
    clear H HH2
    by_cases hjd : j < ds.length
    · obtain ⟨ad, rfl, c0, c1, c2⟩ := HR.out.at_ hjd wr HH.out.low
      have hfit := HZ.out ds[j] (List.getElem_mem hjd)
      obtain ⟨⟨hk0, hk1⟩, ⟨ha0, ha1⟩, ⟨hs0, hs1⟩⟩ := hfit
      generalize ds[j].what = kd at *
      generalize ds[j].who = a at *
      generalize ds[j].seen = s at *
      have j0 : (0 : Int) ≤ (j : Int) := by omega
      have j1 : (j : Int) < (ds.length : Int) := by omega
      obtain ⟨X, hX⟩ : ∃ X : Obj, X = .cells #[.int .u8 kd, .int .i64 a, .int .i64 s] 30 := ⟨_, rfl⟩
      have LX : Lies (wr.alloc X) wr.heap.size 30 [.int .u8 kd, .int .i64 a, .int .i64 s] := by rw [hX]; exact Lies.new wr 30 [_, _, _]
      go_upto_region 13 with fail
      rw [← hX]
      have HH3 := Lib.hid (HH.out.kept (below_one wr X))
      have m0 : (wr.alloc X).cell? ⟨wr.heap.size, 0, none⟩ = some (.int .u8 kd) := LX.cell 0
      have m1 : (wr.alloc X).cell? ⟨wr.heap.size, 1, none⟩ = some (.int .i64 a) := LX.cell 1
      have m2 : (wr.alloc X).cell? ⟨wr.heap.size, 2, none⟩ = some (.int .i64 s) := LX.cell 2
      have HLX := Lib.hid LX
      clear LX hX HH c0 c1 c2
      generalize wr.heap.size = bx at *
      generalize wr.alloc X = w4 at *
      obtain ⟨th, hth⟩ : ∃ th, decide (0 ≤ a ∧ a < (n : Int)) = th := ⟨_, rfl⟩
      have HTH := Lib.hid hth
      clear hth
      go_cut [14] from 52 to 60 (fun v14 wx => v14 = .bool th ∧ wx = w4)
      case first =>
        by_cases h0 : 0 ≤ a
        · by_cases h1 : a < (n : Int)
          · have e : decide (a < (n : Int)) = true := by simp; omega
            go_wp2
            go_meet
            exact ⟨by rw [← HTH.out, decide_eq_true (p := 0 ≤ a ∧ a < (n : Int)) ⟨h0, h1⟩], rfl⟩
          · have e : decide (a < (n : Int)) = false := by simp; omega
            go_wp2
            go_meet
            exact ⟨by rw [← HTH.out, decide_eq_false (p := 0 ≤ a ∧ a < (n : Int)) (by omega)], rfl⟩
        · have e : decide (0 ≤ a) = false := by simp; omega
          go_wp2
          go_meet
          exact ⟨by rw [← HTH.out, decide_eq_false (p := 0 ≤ a ∧ a < (n : Int)) (by omega)], rfl⟩
      case rest =>
      obtain ⟨rfl, rfl⟩ := hcut
      go_upto_block 2 with fail
      go_cut [9, 10, 15, 16, 17, 18, 19, 20] from 63 to 168 (fun v9 v10 v15 v16 v17 v18 v19 v20 wx => Acted w wx o qi bx n j k kd a s v9 v10)
      case first =>
        have hcase : kd % 3 = 0 ∨ kd % 3 = 1 ∨ kd % 3 = 2 := by omega
        rcases hcase with h4 | h4 | h4
        · by_cases ht : 0 ≤ a ∧ a < (n : Int)
          · have et : th = true := HTH.out.symm.trans (decide_eq_true ht)
            subst et
            obtain ⟨m, rfl⟩ : ∃ m : Nat, a = m := ⟨a.toNat, by omega⟩
            have hml : m < n := by omega
            obtain ⟨t0, t1⟩ := ht
            cases hid : ids.getD m false with
            | true =>
              have cq := HH3.out.cell m hml true hid
              have HI := Lib.hid hid
              clear hid
              go_wp2_with fail
              refine (pz_offer_twice HH3.out m hml HI.out).mono ?_
              rintro e w5 ⟨rfl, rfl⟩
              go_wp2
              go_meet
              exact ⟨ids, k, l, rfl, rfl, by omega, id, HLX.out, HH3.out⟩
            | false =>
              have hfree := Lib.hid (HH3.out.fit.free hml hid)
              have hk0 := Lib.hid HH3.out.fit.lo
              have HI := Lib.hid hid
              have s1 : IntKind.i64.wrap (k + 1) = k + 1 := IntWalk.i64_in _ (by have := hfree.out; have := hk0.out; omega)
              have s2 : IntKind.i64.wrap ((l : Int) + 1) = (l : Int) + 1 := IntWalk.i64_in _ (by omega)
              obtain ⟨b, hb⟩ : ∃ b, (k + 1 == (n : Int)) = b := ⟨_, rfl⟩
              have hbb : (b != b) = false := by simp
              clear hid
              go_wp2_with fail
              refine (pz_offer HH3.out m hml n64 HI.out (by omega) b hb).mono ?_
              rintro e w5 ⟨rfl, P5, K5⟩
              have HP6 := Lib.hid (P5.turn m true)
              have L5 := K5 _ _ HLX.out
              have m1' : w5.cell? ⟨bx, 1, none⟩ = some (.int .i64 (m : Int)) := L5.cell 1
              have cq := P5.cell m hml false HI.out
              have fq := P5.frozen m
              have HL6 := Lib.hid (L5.far (p := ⟨qi, m, none⟩) (L5.apart P5.mine (by decide)) (.bool true))
              have x1 : (w5.setCell ⟨qi, m, none⟩ (.bool true)).cell? ⟨bx, 1, none⟩ = some (.int .i64 (m : Int)) := HL6.out.cell 1
              clear P5 K5 L5 HH3 HLX m0 m1 m2
              go_wp2
              go_meet
              exact ⟨ids.set m true, k + 1, l + 1, rfl, by go_num, by omega, fun e => by have := hfree.out; omega, HL6.out, HP6.out⟩
          · have et : th = false := HTH.out.symm.trans (decide_eq_false ht)
            subst et
            go_wp2_with fail
            refine (pz_offer_none HH3.out a (by omega)).mono ?_
            rintro e w5 ⟨rfl, rfl⟩
            go_wp2
            go_meet
            exact ⟨ids, k, l, rfl, rfl, by omega, id, HLX.out, HH3.out⟩
        · by_cases ht : 0 ≤ a ∧ a < (n : Int)
          · have et : th = true := HTH.out.symm.trans (decide_eq_true ht)
            subst et
            obtain ⟨m, rfl⟩ : ∃ m : Nat, a = m := ⟨a.toNat, by omega⟩
            have hml : m < n := by omega
            obtain ⟨t0, t1⟩ := ht
            have s2 : IntKind.i64.wrap ((l : Int) + 1) = (l : Int) + 1 := IntWalk.i64_in _ (by omega)
            go_wp2_with fail
            refine (pz_look HH3.out m hml n64 (by omega)).mono ?_
            rintro e w5 ⟨rfl, P5, K5⟩
            have HP5 := Lib.hid P5
            have HL5 := Lib.hid (K5 _ _ HLX.out)
            clear P5 K5 HH3 HLX m0 m1 m2
            go_wp2
            go_meet
            exact ⟨ids, k, l + 1, rfl, by go_num, by omega, id, HL5.out, HP5.out⟩
          · have et : th = false := HTH.out.symm.trans (decide_eq_false ht)
            subst et
            go_wp2_with fail
            refine (pz_look_none HH3.out a (by omega)).mono ?_
            rintro e w5 ⟨rfl, rfl⟩
            go_wp2
            go_meet
            exact ⟨ids, k, l, rfl, rfl, by omega, id, HLX.out, HH3.out⟩
        · by_cases ht : 0 ≤ a ∧ a < (n : Int)
          · have et : th = true := HTH.out.symm.trans (decide_eq_true ht)
            subst et
            obtain ⟨m, rfl⟩ : ∃ m : Nat, a = m := ⟨a.toNat, by omega⟩
            have hml : m < n := by omega
            obtain ⟨t0, t1⟩ := ht
            cases hid : ids.getD m false with
            | false =>
              have cq := HH3.out.cell m hml false hid
              have HI := Lib.hid hid
              clear hid
              go_wp2_with fail
              refine (pz_back_order HH3.out m hml HI.out s).mono ?_
              rintro e w5 ⟨rfl, rfl⟩
              go_wp2
              go_meet
              exact ⟨ids, k, l, rfl, rfl, by omega, id, HLX.out, HH3.out⟩
            | true =>
              have cq := HH3.out.cell m hml true hid
              have HI := Lib.hid hid
              clear hid
              by_cases hsn : s = (n : Int)
              · have e1 : (s == (n : Int)) = true := by simp [hsn]
                have HSN := Lib.hid hsn
                clear hsn
                go_wp2_with fail
                refine (pz_back_end HH3.out m hml HI.out s HSN.out).mono ?_
                rintro e w5 ⟨rfl, rfl⟩
                go_wp2
                go_meet
                exact ⟨ids, k, l, rfl, rfl, by omega, id, HLX.out, HH3.out⟩
              · have e1 : (s == (n : Int)) = false := by simp [hsn]
                have HSN := Lib.hid hsn
                have s2 : IntKind.i64.wrap ((l : Int) + 1) = (l : Int) + 1 := IntWalk.i64_in _ (by omega)
                clear hsn
                by_cases hks : k = s
                · have e2 : (s != k) = false := by simp [hks]
                  have hk1 := Lib.hid (HH3.out.fit.taken hml HI.out)
                  have hkn := Lib.hid HH3.out.fit.hi
                  have s1 : IntKind.i64.wrap (k - 1) = k - 1 := IntWalk.i64_in _ (by have := hk1.out; have := hkn.out; omega)
                  have HKS := Lib.hid hks
                  clear hks
                  go_wp2_with fail
                  refine (pz_back HH3.out m hml n64 HI.out (by omega) s HSN.out HKS.out).mono ?_
                  rintro e w5 ⟨rfl, P5, K5⟩
                  have HP6 := Lib.hid (P5.turn m false)
                  have L5 := K5 _ _ HLX.out
                  have y1 : w5.cell? ⟨bx, 1, none⟩ = some (.int .i64 (m : Int)) := L5.cell 1
                  have y2 : w5.cell? ⟨bx, 2, none⟩ = some (.int .i64 s) := L5.cell 2
                  have cq2 := P5.cell m hml true HI.out
                  have fq := P5.frozen m
                  have HL6 := Lib.hid (L5.far (p := ⟨qi, m, none⟩) (L5.apart P5.mine (by decide)) (.bool false))
                  have x1 : (w5.setCell ⟨qi, m, none⟩ (.bool false)).cell? ⟨bx, 1, none⟩ = some (.int .i64 (m : Int)) := HL6.out.cell 1
                  clear P5 K5 L5 HH3 HLX m0 m1 m2 cq
                  go_wp2
                  go_meet
                  exact ⟨ids.set m false, k - 1, l + 1, rfl, by go_num, by omega, fun e => absurd (HKS.out.symm.trans e) HSN.out, HL6.out, HP6.out⟩
                · have e2 : (s != k) = true := by simp; omega
                  have HKS := Lib.hid hks
                  clear hks
                  go_wp2_with fail
                  refine (pz_back_lost HH3.out m hml n64 HI.out (by omega) s HSN.out HKS.out).mono ?_
                  rintro e w5 ⟨rfl, P5, K5⟩
                  have HP5 := Lib.hid P5
                  have L5 := K5 _ _ HLX.out
                  have HL5 := Lib.hid L5
                  have y1 : w5.cell? ⟨bx, 1, none⟩ = some (.int .i64 (m : Int)) := L5.cell 1
                  have y2 : w5.cell? ⟨bx, 2, none⟩ = some (.int .i64 s) := L5.cell 2
                  have cq2 := P5.cell m hml true HI.out
                  clear P5 K5 L5 HH3 HLX m0 m1 m2 cq
                  go_wp2
                  go_meet
                  exact ⟨ids, k, l + 1, rfl, by go_num, by omega, id, HL5.out, HP5.out⟩
          · have et : th = false := HTH.out.symm.trans (decide_eq_false ht)
            subst et
            go_wp2_with fail
            refine (pz_back_none HH3.out a (by omega) s).mono ?_
            rintro e w5 ⟨rfl, rfl⟩
            go_wp2
            go_meet
            exact ⟨ids, k, l, rfl, rfl, by omega, id, HLX.out, HH3.out⟩
      case rest =>
        obtain ⟨ids', k', l', rfl, rfl, hl', hkk, L', P'⟩ := hcut
        have HKK := Lib.hid hkk
        have HL := Lib.hid L'
        have HP := Lib.hid P'
        clear hkk L' P' HH3 HLX m0 m1 m2
        go_upto_region 50 with fail
        go_cut [11] from 169 to 174 (fun v11 wx => v11 = .bool (k' == (n : Int)) ∧ Lies wx bx 30 [.int .u8 kd, .int .i64 a, .int .i64 s] ∧ Pz w wx o qi ids' ids' k' l' n)
        case first =>
          by_cases hkn : k = (n : Int)
          · have e1 : (k == (n : Int)) = true := by simp [hkn]
            have e2 : Hid ((k' == (n : Int)) = true) := Lib.hid (by simp [HKK.out hkn])
            clear hkn
            go_wp2
            go_meet
            exact ⟨by rw [e2.out], HL.out, HP.out⟩
          · have e1 : (k == (n : Int)) = false := by simp [hkn]
            clear hkn
            go_wp2
            go_meet
            exact ⟨rfl, HL.out, HP.out⟩
        case rest =>
        obtain ⟨rfl, L2, P2⟩ := hcut
        have HL := Lib.hid L2
        have HP := Lib.hid P2
        clear L2 P2
        obtain ⟨b', hb'⟩ : ∃ b', (k' == (n : Int)) = b' := ⟨_, rfl⟩
        have HB := Lib.hid hb'
        have hbb : (b' != b') = false := by simp
        rw [hb']
        by_cases ht : 0 ≤ a ∧ a < (n : Int)
        · have et : th = true := HTH.out.symm.trans (decide_eq_true ht)
          subst et
          obtain ⟨m, rfl⟩ : ∃ m : Nat, a = m := ⟨a.toNat, by omega⟩
          have hml : m < n := by omega
          obtain ⟨t0, t1⟩ := ht
          obtain ⟨d, hd⟩ : ∃ d, ids'.getD m false = d := ⟨_, rfl⟩
          have HD := Lib.hid hd
          have hdd : (d != d) = false := by simp
          clear hd
          go_wp2_with fail
          refine (pz_over HP.out b' HB.out).mono ?_
          rintro e w6 ⟨rfl, P6, K6⟩
          have HP6 := Lib.hid P6
          have HL6 := Lib.hid (K6 _ _ HL.out)
          clear P6 K6 HP HL
          go_wp2_with fail
          refine (pz_over HP6.out b' HB.out).mono ?_
          rintro e w7 ⟨rfl, P7, K7⟩
          have HP7 := Lib.hid P7
          have L7 := K7 _ _ HL6.out
          have x1 : w7.cell? ⟨bx, 1, none⟩ = some (.int .i64 (m : Int)) := L7.cell 1
          have cq := P7.cell m hml d HD.out
          clear P7 K7 HP6 HL6 L7
          go_wp2_with fail
          refine (pz_idle HP7.out m hml d HD.out).mono ?_
          rintro e w8 ⟨rfl, rfl⟩
          go_wp2_with fail
          refine (pz_log HP7.out (by omega)).mono ?_
          rintro e w9 ⟨A9, rfl, P9⟩
          have HP9 := Lib.hid P9
          clear P9 HP7
          go_wp2
          exact ⟨⟨j + 1, ids', k', l', by omega, by go_num, rfl, rfl, by rw [HB.out], by omega, HP9.out⟩, by simp [intOf]; omega⟩
        · have et : th = false := HTH.out.symm.trans (decide_eq_false ht)
          subst et
          go_wp2_with fail
          refine (pz_over HP.out b' HB.out).mono ?_
          rintro e w6 ⟨rfl, P6, K6⟩
          have HP6 := Lib.hid P6
          have HL6 := Lib.hid (K6 _ _ HL.out)
          clear P6 K6 HP HL
          go_wp2_with fail
          refine (pz_over HP6.out b' HB.out).mono ?_
          rintro e w7 ⟨rfl, P7, K7⟩
          have HP7 := Lib.hid P7
          have L7 := K7 _ _ HL6.out
          have x1 : w7.cell? ⟨bx, 1, none⟩ = some (.int .i64 a) := L7.cell 1
          clear P7 K7 HP6 HL6 L7
          go_wp2_with fail
          refine (pz_idle_none HP7.out a (by omega)).mono ?_
          rintro e w8 ⟨rfl, rfl⟩
          go_wp2_with fail
          refine (pz_log HP7.out (by omega)).mono ?_
          rintro e w9 ⟨A9, rfl, P9⟩
          have HP9 := Lib.hid P9
          clear P9 HP7
          go_wp2
          exact ⟨⟨j + 1, ids', k', l', by omega, by go_num, rfl, rfl, by rw [HB.out], by omega, HP9.out⟩, by simp [intOf]; omega⟩
    · have hj' : j = ds.length := by omega
      subst hj'
      go_wp2
      go_ret
      exact ⟨rfl, HH.out.low⟩

theorem plays_walk (a0 : Int) (A : Option Addr) (len cap : Nat) (w : World) (b0 : 0 ≤ a0) (b1 : a0 ≤ 255) (h : ∃ ds, CameD w A len ds) : Calls Try.prog 3 #[.int .u8 a0, .slice A len cap] w fun e w' => e = .returned (.bool true) ∧ Below w.heap.size w w' := by
  obtain ⟨ds, rfl, hr, hz⟩ := h
  by_cases hl : 100 < ds.length
  · exact plays_far a0 A cap _ w hl
  · obtain ⟨n, hn⟩ : ∃ n : Nat, 1 + a0 % 64 = (n : Int) := ⟨(1 + a0 % 64).toNat, by omega⟩
    exact plays_near n a0 A cap ds w b0 b1 (Lib.hid hn) (by omega) (by omega) (by omega) hr hz
end Go.Proofs.Ytpifnhfdbcckjaa
