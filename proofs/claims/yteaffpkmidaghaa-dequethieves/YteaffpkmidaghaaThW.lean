/- DequeThieves. -/
import Derived.Test.YteaffpkmidaghaaThM
import Derived.Deep.CutBlock
namespace Go.Proofs.Yteaffpkmidaghaa
open Go.RowKit
set_option linter.unusedVariables false
set_option linter.unusedSimpArgs false

set_option maxHeartbeats 1000000 in
theorem thieves_far (many : Int) (A : Option Addr) (c : Nat) (l : Nat) (w : World) (hl : 300 < l) : Calls Try.prog 7 #[.int .u8 many, .slice A l c] w fun e w' => e = .returned (.bool true) ∧ Below w.heap.size w w' := by
  have d1 : decide ((300 : Int) < (l : Int)) = true := by simp; omega
  go_enter Try.func7, Try.ntmps7
  go_wp2_with fail
  refine (awake_any _).mono ?_
  rintro e w1 ⟨rfl, B1⟩
  go_wp2_with fail
  refine (awake_any _).mono ?_
  rintro e w2 ⟨rfl, B2⟩
  have HB := Lib.hid (on B1 B1.size B2)
  clear B1 B2
  go_wp2
  go_ret
  exact ⟨rfl, HB.out⟩

set_option maxRecDepth 100000 in
set_option maxHeartbeats 1000000 in
theorem thieves_near (many : Int) (A : Option Addr) (c : Nat) (xs : List Int) (w : World) (hm0 : 0 ≤ many) (hm1 : many ≤ 255) (hl : xs.length ≤ 300) (hr : Row .u8 w A xs) (hz : ∀ z ∈ xs, 0 ≤ z ∧ z ≤ 255) :
    Calls Try.prog 7 #[.int .u8 many, .slice A xs.length c] w fun e w' => e = .returned (.bool true) ∧ Below w.heap.size w w' := by
  have d1 : decide ((300 : Int) < (xs.length : Int)) = false := by simp; omega
  obtain ⟨N, hN⟩ : ∃ N : Nat, many % 12 = N := ⟨(many % 12).toNat, by omega⟩
  have hN2 : N ≤ 11 := by omega
  have HN := Lib.hid hN
  have hmk := make29 N (by omega)
  have n1 := nil31
  have n2 := nil24
  have HR := Lib.hid hr
  have HZ := Lib.hid hz
  clear hr hz hN
  go_enter Try.func7, Try.ntmps7
  go_wp2_with fail
  refine (awake_any _).mono ?_
  rintro e w1 ⟨rfl, B1⟩
  have HB1 := Lib.hid B1
  clear B1
  go_wp2_with fail
  refine (sq_new 40 40 rfl w w1 HB1.out (by omega) (by omega)).mono ?_
  rintro e w2 ⟨gd, g, gw, rfl, S2⟩
  have HS2 := Lib.hid S2
  clear S2
  go_wp2_with fail
  rw [HN.out]
  clear hm0 hm1 HN
  go_loopw [44] (fun i wr => ∃ (j : Nat), j ≤ N ∧ i = .int .i64 j ∧ Sq w wr gd g gw 40 0 0 (rowT j) (3 * j)) (fun i _ => N - (intOf i).toNat)
  case atStart => exact ⟨0, Nat.zero_le _, rfl, HS2.out⟩
  case round =>
    obtain ⟨j, hj, rfl, S⟩ := hrel
    have HS := Lib.hid S
    clear S HS2
    by_cases hjN : j < N
    · have hjN' : (j : Int) < (N : Int) := by omega
      go_wp2_with fail
      refine (sq_push HS.out _).mono ?_
      rintro e w3 ⟨gc, rfl, b3⟩
      have HB3 := Lib.hid b3
      clear b3
      go_wp2_with fail
      refine (done_push HB3.out (by rw [rowT_len]; omega) (by omega)).mono ?_
      rintro e w4 ⟨y, rfl, S4⟩
      have HS4 := Lib.hid S4
      clear S4
      go_wp2
      exact ⟨⟨j + 1, by omega, by go_num, by rw [rowT_succ]; exact HS4.out.more (by omega)⟩, by simp [intOf]; omega⟩
    · have : j = N := by omega
      subst this
      go_wp2_with fail
      obtain ⟨X, hX⟩ : ∃ X : Obj, X = .cells #[.pointer none, .pointer none, .pointer none, .pointer none, .pointer none, .pointer none] 50 := ⟨_, rfl⟩
      obtain ⟨Y, hY⟩ : ∃ Y : Obj, Y = .cells (noughts j).toArray 3 := ⟨_, rfl⟩
      rw [← hX, ← hY]
      have LX : Lies ((wr.alloc X).alloc Y) wr.heap.size 50 ((List.replicate 6 (none : Option (Nat × Cl))).map cellOf) := by rw [hX]; exact (Lies.new wr 50 [_, _, _, _, _, _]).alloc Y
      have LY : Lies ((wr.alloc X).alloc Y) (wr.heap.size + 1) 3 (noughts j) := by
        have : (wr.alloc X).heap.size = wr.heap.size + 1 := by simp
        rw [hY, ← this]; exact Lies.new (wr.alloc X) 3 (noughts j)
      have hb : Below wr.heap.size wr ((wr.alloc X).alloc Y) := on (below_one wr X) (below_one wr X).size (below_one _ Y)
      have hlo := HS.out.below.size
      have hgw : Hid (wr.heap.size + 1 ≠ gw) := Lib.hid (by obtain ⟨_, _, _, _, H, _⟩ := HS.out; have := H.at_.words.lt; omega)
      have T0 : Hid (Th w ((wr.alloc X).alloc Y) gd g gw wr.heap.size (wr.heap.size + 1) j 0 (3 * j) (List.replicate 6 none)) := Lib.hid
        ⟨by have := (HS.out.kept hb).conc (own := 0) LX (fun i x e => by rw [List.getElem?_replicate] at e; split at e <;> simp_all) hlo (Or.inl rfl)
            rw [rowT_len, Nat.zero_add] at this
            exact this, by simp, fun i gc cl e => by rw [List.getElem?_replicate] at e; split at e <;> simp_all, by rw [gots_zero]; exact LY, hgw.out, by omega⟩
      clear LX LY hb hX hY hlo hgw HS
      generalize wr.heap.size + 1 = bg at *
      generalize wr.heap.size = ba at *
      generalize (wr.alloc X).alloc Y = w3 at *
      clear hmk
      have hN2' := hN2
      generalize hNN : j = N at *
      clear hNN
      go_loopw [62] (fun i wr => ∃ (j2 t : Nat) (cs : List (Option (Nat × Cl))), j2 ≤ xs.length ∧ i = .int .i64 j2 ∧ t ≤ N ∧ Th w wr gd g gw ba bg N t (3 * N + j2) cs) (fun i _ => xs.length - (intOf i).toNat)
      case atStart => exact ⟨0, 0, _, Nat.zero_le _, rfl, Nat.zero_le _, T0.out⟩
      case round =>
        obtain ⟨j2, t, cs, hj2, rfl, htN, T⟩ := hrel
        have HT := Lib.hid T
        clear T T0
        by_cases hjl : j2 < xs.length
        · obtain ⟨ad, rfl, c0⟩ := (HR.out.kept HT.out.conc.below).at_ hjl
          have hb := HZ.out xs[j2] (List.getElem_mem hjl)
          generalize xs[j2] = p at c0 hb
          obtain ⟨hb0, hb1⟩ := hb
          have j0 : (0 : Int) ≤ (j2 : Int) := by omega
          have j1 : (j2 : Int) < (xs.length : Int) := by omega
          obtain ⟨kk, hkp⟩ : ∃ kk : Nat, p % 6 = kk := ⟨(p % 6).toNat, by omega⟩
          have hkk : kk < 6 := by omega
          have HKP := Lib.hid hkp
          clear hkp
          have hk6 : (kk : Int) < 6 := by omega
          have hk0 : (0 : Int) ≤ (kk : Int) := by omega
          have HLv := Lib.hid HT.out.live
          go_upto_region 20 with fail
          rw [HKP.out]
          clear HKP hb0 hb1
          obtain ⟨o, ho⟩ : ∃ o, cs[kk]? = some o := ⟨cs[kk]'(by rw [HT.out.clen]; exact hkk), List.getElem?_eq_getElem _⟩
          cases o with
          | none =>
            have a0 := HT.out.conc.cell ho
            simp only [cellOf, Option.map] at a0
            have q31 : ∀ W : World, (binOp .eql 31 (.pointer none) (.pointer none)).run Try.prog W = .ok (.bool true) W := fun _ => by kernel_rfl
            go_wp2_with fail
            refine (steal_yes HT.out.conc.own_ (1 + (kk : Int)) (by omega) (by omega)).mono ?_
            rintro e w4 ⟨rfl, L4, B4⟩
            have HT4 := Lib.hid (HT.out.begin hkk rfl L4 B4)
            have f4 := (HT.out.conc.arr_.kept B4).frozen kk
            have a4 : w4.cell? ⟨ba, kk, none⟩ = some (.pointer none) := (HT.out.kept B4).conc.cell ho
            have hck : (cs.set kk (some (wr.heap.size, (⟨1 + (kk : Int), 27, 0, 0, 0, 0⟩ : Cl))))[kk]? = some (some (wr.heap.size, ⟨1 + (kk : Int), 27, 0, 0, 0, 0⟩)) := by rw [List.getElem?_set_self (by rw [HT.out.clen]; exact hkk)]
            have HLv := Lib.hid HT4.out.live
            clear L4 B4 a0
            go_upto_region 22 with fail
            generalize wr.heap.size = gc at *
            generalize hcs2 : cs.set kk (some (gc, (⟨1 + (kk : Int), 27, 0, 0, 0, 0⟩ : Cl))) = cs2 at *
            generalize w4.setCell ⟨ba, kk, none⟩ (.pointer (some ⟨gc, 0, none⟩)) = w4' at *
            clear a4 f4 hcs2
            have a0 := HT4.out.conc.cell hck
            simp only [cellOf, Option.map] at a0
            go_wp2_with fail
            refine (th_step HT4.out hck (by omega) htN).mono ?_
            rintro e w5 ⟨cl5, ⟨rfl, T5⟩ | ⟨rfl, h5, ⟨he, hw5, ht5, M5⟩ | ⟨he, M5⟩⟩⟩
            · have HT5 := Lib.hid T5
              clear T5 a0
              go_wp2
              exact ⟨⟨j2 + 1, t, _, by omega, by go_num, htN, HT5.out.more (by omega)⟩, by simp [intOf]; omega⟩
            · have hc5 : (cs2.set kk (some (gc, cl5)))[kk]? = some (some (gc, cl5)) := by rw [List.getElem?_set_self (by rw [HT4.out.clen]; exact hkk)]
              have a5 := M5.conc.cell hc5
              simp only [cellOf, Option.map] at a5
              have HM5 := Lib.hid M5
              clear M5 a0
              go_wp2_with fail
              refine (result_yes (HM5.out.conc.lies hc5) h5).mono ?_
              rintro e w6 ⟨rfl, B6⟩
              have HM6 := Lib.hid (HM5.out.kept B6)
              have a6 := HM6.out.conc.cell hc5
              simp only [cellOf, Option.map] at a6
              have f6 := HM6.out.conc.arr_.frozen kk
              have HM7 := Lib.hid (HM6.out.drop hkk)
              have g7 : (w6.setCell ⟨ba, kk, none⟩ (.pointer none)).cell? ⟨bg, t, none⟩ = some (.int .i64 0) := by
                rw [HM7.out.got.cell]; simp [gots_at t N t ht5]
              have g8 := HM7.out.got.frozen t
              rw [he, hw5]
              have hd1 : decide (10 + (t : Int) < 10) = false := by simp; omega
              have hd2 : decide (10 + (N : Int) ≤ 10 + (t : Int)) = false := by simp; omega
              have e10 : 10 + (t : Int) - 10 = (t : Int) := by omega
              have t0 : (0 : Int) ≤ (t : Int) := by omega
              have t1 : (t : Int) < (N : Int) := by omega
              clear B6 a5
              go_wp2_with fail
              obtain ⟨w7, hw7⟩ : ∃ w7, w6.setCell ⟨ba, kk, none⟩ (.pointer none) = w7 := ⟨_, rfl⟩
              rw [hw7] at g7 g8 HM7 ⊢
              clear a6 f6 HM6 hw7
              go_wp2
              exact ⟨⟨j2 + 1, t + 1, _, by omega, by go_num, by omega, (HM7.out.count ht5 HLv.out).more (by omega)⟩, by simp [intOf]; omega⟩
            · have hc5 : (cs2.set kk (some (gc, cl5)))[kk]? = some (some (gc, cl5)) := by rw [List.getElem?_set_self (by rw [HT4.out.clen]; exact hkk)]
              have a5 := M5.conc.cell hc5
              simp only [cellOf, Option.map] at a5
              have HM5 := Lib.hid M5
              clear M5 a0
              go_wp2_with fail
              refine (result_yes (HM5.out.conc.lies hc5) h5).mono ?_
              rintro e w6 ⟨rfl, B6⟩
              have HM6 := Lib.hid (HM5.out.kept B6)
              have a6 := HM6.out.conc.cell hc5
              simp only [cellOf, Option.map] at a6
              have f6 := HM6.out.conc.arr_.frozen kk
              have HM7 := Lib.hid (HM6.out.drop hkk)
              clear B6 a5
              rcases he with he | he <;> rw [he]
              · go_wp2
                exact ⟨⟨j2 + 1, t, _, by omega, by go_num, htN, (HM7.out.over HLv.out).more (by omega)⟩, by simp [intOf]; omega⟩
              · go_wp2
                exact ⟨⟨j2 + 1, t, _, by omega, by go_num, htN, (HM7.out.over HLv.out).more (by omega)⟩, by simp [intOf]; omega⟩
          | some x =>
            obtain ⟨gc, cl⟩ := x
            have hck := ho
            have a0 := HT.out.conc.cell hck
            simp only [cellOf, Option.map] at a0
            go_wp2_with fail
            refine (th_step HT.out hck (by omega) htN).mono ?_
            rintro e w5 ⟨cl5, ⟨rfl, T5⟩ | ⟨rfl, h5, ⟨he, hw5, ht5, M5⟩ | ⟨he, M5⟩⟩⟩
            · have HT5 := Lib.hid T5
              clear T5 a0
              go_wp2
              exact ⟨⟨j2 + 1, t, _, by omega, by go_num, htN, HT5.out.more (by omega)⟩, by simp [intOf]; omega⟩
            · have hc5 : (cs.set kk (some (gc, cl5)))[kk]? = some (some (gc, cl5)) := by rw [List.getElem?_set_self (by rw [HT.out.clen]; exact hkk)]
              have a5 := M5.conc.cell hc5
              simp only [cellOf, Option.map] at a5
              have HM5 := Lib.hid M5
              clear M5 a0
              go_wp2_with fail
              refine (result_yes (HM5.out.conc.lies hc5) h5).mono ?_
              rintro e w6 ⟨rfl, B6⟩
              have HM6 := Lib.hid (HM5.out.kept B6)
              have a6 := HM6.out.conc.cell hc5
              simp only [cellOf, Option.map] at a6
              have f6 := HM6.out.conc.arr_.frozen kk
              have HM7 := Lib.hid (HM6.out.drop hkk)
              have g7 : (w6.setCell ⟨ba, kk, none⟩ (.pointer none)).cell? ⟨bg, t, none⟩ = some (.int .i64 0) := by
                rw [HM7.out.got.cell]; simp [gots_at t N t ht5]
              have g8 := HM7.out.got.frozen t
              rw [he, hw5]
              have hd1 : decide (10 + (t : Int) < 10) = false := by simp; omega
              have hd2 : decide (10 + (N : Int) ≤ 10 + (t : Int)) = false := by simp; omega
              have e10 : 10 + (t : Int) - 10 = (t : Int) := by omega
              have t0 : (0 : Int) ≤ (t : Int) := by omega
              have t1 : (t : Int) < (N : Int) := by omega
              clear B6 a5
              go_wp2_with fail
              obtain ⟨w7, hw7⟩ : ∃ w7, w6.setCell ⟨ba, kk, none⟩ (.pointer none) = w7 := ⟨_, rfl⟩
              rw [hw7] at g7 g8 HM7 ⊢
              clear a6 f6 HM6 hw7
              go_wp2
              exact ⟨⟨j2 + 1, t + 1, _, by omega, by go_num, by omega, (HM7.out.count ht5 HLv.out).more (by omega)⟩, by simp [intOf]; omega⟩
            · have hc5 : (cs.set kk (some (gc, cl5)))[kk]? = some (some (gc, cl5)) := by rw [List.getElem?_set_self (by rw [HT.out.clen]; exact hkk)]
              have a5 := M5.conc.cell hc5
              simp only [cellOf, Option.map] at a5
              have HM5 := Lib.hid M5
              clear M5 a0
              go_wp2_with fail
              refine (result_yes (HM5.out.conc.lies hc5) h5).mono ?_
              rintro e w6 ⟨rfl, B6⟩
              have HM6 := Lib.hid (HM5.out.kept B6)
              have a6 := HM6.out.conc.cell hc5
              simp only [cellOf, Option.map] at a6
              have f6 := HM6.out.conc.arr_.frozen kk
              have HM7 := Lib.hid (HM6.out.drop hkk)
              clear B6 a5
              rcases he with he | he <;> rw [he]
              · go_wp2
                exact ⟨⟨j2 + 1, t, _, by omega, by go_num, htN, (HM7.out.over HLv.out).more (by omega)⟩, by simp [intOf]; omega⟩
              · go_wp2
                exact ⟨⟨j2 + 1, t, _, by omega, by go_num, htN, (HM7.out.over HLv.out).more (by omega)⟩, by simp [intOf]; omega⟩
        · have : j2 = xs.length := by omega
          subst this
          clear hjl hj2
          go_wp2_with fail
          refine (conc_words HT.out.conc).mono ?_
          rintro e w4 ⟨a, rfl, R4, hab, B4⟩
          have HR4 := Lib.hid R4
          have hne : Hid (a.block ≠ bg) := Lib.hid (by have := HT.out.got.lt; omega)
          have HL4 := Lib.hid (HT.out.got.kept B4)
          have HB4 := Lib.hid (on HT.out.conc.below HT.out.conc.below.size B4)
          have hlo := Lib.hid HT.out.lo
          clear R4 hab B4 HT
          rw [rest_len]
          go_wp2_with fail
          go_loopw [123] (fun i wi => ∃ m : Nat, m ≤ N - t ∧ i = .int .i64 m ∧ Lies wi bg 3 ((gots (t + m) N).map (Value.int .i64)) ∧ Row .i64 wi (some a) (rest t N) ∧ Below w.heap.size w wi) (fun i _ => (N - t) - (intOf i).toNat)
          case atStart => exact ⟨0, Nat.zero_le _, rfl, HL4.out, HR4.out, HB4.out⟩
          case round =>
            obtain ⟨m, hm, rfl, L, R, B⟩ := hrel
            by_cases hmN : m < N - t
            · obtain ⟨ad, e1, c1⟩ := R.at_ (i := m) (by rw [rest_len]; exact hmN)
              injection e1 with e1
              subst e1
              rw [rest_at t N m hmN] at c1
              have m0 : (0 : Int) ≤ (m : Int) := by omega
              have m1 : (m : Int) < ((N - t : Nat) : Int) := by omega
              have c2 : wr.cell? ⟨bg, t + m, none⟩ = some (.int .i64 0) := by rw [L.cell]; simp [gots_at (t + m) N (t + m) (by omega)]
              have f2 := L.frozen (t + m)
              have HL := Lib.hid L
              have HRR := Lib.hid R
              have HB := Lib.hid B
              clear L R B HL4 HR4 HB4
              obtain ⟨tm, htm⟩ : ∃ tm, t + m = tm := ⟨_, rfl⟩
              rw [htm] at c1 c2 f2 HL
              have htm' : tm < N := by omega
              have t0 : (0 : Int) ≤ (tm : Int) := by omega
              have t1 : (tm : Int) < (N : Int) := by omega
              have e10 : 10 + (tm : Int) - 10 = (tm : Int) := by omega
              have HTM := Lib.hid htm
              clear htm
              go_wp2
              refine ⟨⟨m + 1, by omega, by go_num, ?_, HRR.out.far hne.out _ _, HB.out.trans ⟨rfl, rfl, rfl, by simp, fun k hk => Below.heap_setCell wr _ _ k (by have := hlo.out; show k ≠ bg; omega)⟩⟩, by simp [intOf]; omega⟩
              have e2 : t + (m + 1) = tm + 1 := by have := HTM.out; omega
              rw [e2, ← gots_set tm N htm', ← set_map]
              exact HL.out.set tm (.int .i64 1)
            · have hm' : m = N - t := by omega
              subst hm'
              have e2 : t + (N - t) = N := by omega
              rw [e2] at L
              have HL := Lib.hid L
              have HB := Lib.hid B
              clear L R B HL4 HR4 HB4
              go_wp2_with fail
              go_loopw [137] (fun i wi => ∃ m : Nat, m ≤ N ∧ i = .int .i64 m ∧ wi = wr) (fun i _ => N - (intOf i).toNat)
              case atStart => exact ⟨0, Nat.zero_le _, rfl, rfl⟩
              case round =>
                obtain ⟨m, hm, rfl, rfl⟩ := hrel
                by_cases hmN2 : m < N
                · have m0 : (0 : Int) ≤ (m : Int) := by omega
                  have m1 : (m : Int) < (N : Int) := by omega
                  have c2 : wr.cell? ⟨bg, m, none⟩ = some (.int .i64 1) := by rw [HL.out.cell]; simp [gots_at N N m hmN2, hmN2]
                  go_wp2
                  exact ⟨⟨m + 1, by omega, by go_num, trivial⟩, by simp [intOf]; omega⟩
                · have : m = N := by omega
                  subst this
                  go_wp2
                  go_ret
                  exact ⟨rfl, HB.out⟩

theorem thieves_walk (many : Int) (hm : 0 ≤ many ∧ many ≤ 255) (A : Option Addr) (len cap : Nat) (w : World) (h : ∃ xs, Came .u8 w A len xs) : Calls Try.prog 7 #[.int .u8 many, .slice A len cap] w fun e w' => e = .returned (.bool true) ∧ Below w.heap.size w w' := by
  obtain ⟨xs, rfl, hr, hz⟩ := h
  by_cases hl : 300 < xs.length
  · exact thieves_far many A cap _ w hl
  · exact thieves_near many A cap xs w hm.1 hm.2 (by omega) hr hz
end Go.Proofs.Yteaffpkmidaghaa
