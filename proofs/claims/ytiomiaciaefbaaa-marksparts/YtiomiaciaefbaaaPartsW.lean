/- MarksParts. -/
import Derived.Test.YtiomiaciaefbaaaOnceW
import Derived.Lib.SmallJoins
namespace Go.Proofs.Ytiomiaciaefbaaa
open Go.ChangeShapes Go.WideShapes Go.ChangeAt Go.RowKit Go.Joins
set_option linter.unusedVariables false
set_option linter.unusedSimpArgs false

theorem cells23 : Try.prog.cellsOf 23 = 3 := by kernel_rfl
theorem cells5 : Try.prog.cellsOf 5 = 1 := by kernel_rfl
theorem okWide_arr {P : Program} {w : World} {r : Reach} {base : Nat} {t e : TypeId} {n : Nat} {v : Value} (ht : P.underlying t = some (.array n e)) (h : Value.okWide P w r base t v) : ∃ cs, v = .agg cs ∧ cs.size = P.cellsOf t := by
  simp only [Value.okWide, ht] at h
  cases v <;> simp_all
theorem reads_arr3 {H : Type} {enc : TypeId × Value → H} {W : World} {base : Nat} {v : Value} {d : DataW H} {p : List MemPlace} (hv : Value.okWide Try.prog W .any base 23 v) (h : DataW.Trod enc Try.prog W 0 (fun _ => true) true 23 v d p) :
    ∃ z0 z1 z2 : Int, v = .agg #[.int .u8 z0, .int .u8 z1, .int .u8 z2] ∧ ((0 ≤ z0 ∧ z0 ≤ 255) ∧ (0 ≤ z1 ∧ z1 ≤ 255) ∧ (0 ≤ z2 ∧ z2 ≤ 255)) := by
  obtain ⟨cs, rfl, hsz⟩ := okWide_arr Try.underlying23 hv
  obtain ⟨c0, c1, c2, rfl⟩ := array3 (hsz.trans cells23)
  obtain ⟨fuel, hf⟩ := h
  obtain ⟨xs, m, _, _, _, hlen, hi⟩ := DataW.trod_array Try.underlying23 hf
  rw [cells5] at hi
  match xs, hlen with
  | [y0, y1, y2], _ =>
    have h0 := hi 0 (by omega)
    have h1 := hi 1 (by omega)
    have h2 := hi 2 (by omega)
    simp [Value.cells] at h0 h1 h2
    obtain ⟨z0, e0, -, w0⟩ := DataW.trod_int Try.underlying5 h0
    obtain ⟨z1, e1, -, w1⟩ := DataW.trod_int Try.underlying5 h1
    obtain ⟨z2, e2, -, w2⟩ := DataW.trod_int Try.underlying5 h2
    simp at e0 e1 e2
    subst e0 e1 e2
    exact ⟨z0, z1, z2, rfl, bounds_u8 w0, bounds_u8 w1, bounds_u8 w2⟩

set_option maxRecDepth 100000 in
set_option maxHeartbeats 1000000 in
theorem parts_far (s : Int) (A : Option Addr) (c l : Nat) (z0 z1 z2 : Int) (w : World) (hs : 0 ≤ s ∧ s ≤ 255) (hl : 100 < l ∨ s = 0) : Calls Try.prog 3 #[.int .u8 s, .slice A l c, .agg #[.int .u8 z0, .int .u8 z1, .int .u8 z2]] w fun e w' => e = .returned (.bool true) ∧ Below w.heap.size w w' := by
  obtain ⟨s0, s1⟩ := hs
  by_cases h1 : 100 < l
  · have d1 : decide ((100 : Int) < (l : Int)) = true := by simp; omega
    go_enter Try.func3, Try.ntmps3
    go_wp2_with fail
    refine (awake_any _).mono ?_
    rintro e w1 ⟨rfl, B1⟩
    go_wp2_with fail
    refine (awake_any _).mono ?_
    rintro e w2 ⟨rfl, B2⟩
    have HB := Lib.hid (on (on (below_one _ _) (by simp) B1) (by have := B1.size; simp at this; omega) B2)
    clear B1 B2
    go_wp2
    go_ret
    exact ⟨rfl, HB.out⟩
  · have d1 : decide ((100 : Int) < (l : Int)) = false := by simp; omega
    obtain rfl : s = 0 := by omega
    go_enter Try.func3, Try.ntmps3
    go_wp2_with fail
    refine (awake_any _).mono ?_
    rintro e w1 ⟨rfl, B1⟩
    go_wp2_with fail
    refine (awake_any _).mono ?_
    rintro e w2 ⟨rfl, B2⟩
    have HB := Lib.hid (on (on (below_one _ _) (by simp) B1) (by have := B1.size; simp at this; omega) B2)
    clear B1 B2
    go_wp2
    go_ret
    exact ⟨rfl, HB.out⟩

theorem count_int {w : World} {g gw n : Nat} {ws : List Nat} (h : At w g gw n ws) (x y : Int) (a b r : Nat) (hx : x = a) (hy : y = b) (hab : a ≤ b) (hb : b ≤ n) (hr : span (bit ws) a b = r) :
    Calls Try.prog 9 #[.pointer (some ⟨g, 0, none⟩), .int .i64 x, .int .i64 y] w fun e w' => e = .returned (.tuple #[.int .i64 r, .int .i64 0]) ∧ w = w' := by
  subst hx hy hr
  exact count_yes h a b hab hb

set_option maxRecDepth 100000 in
set_option maxHeartbeats 2000000 in
theorem parts_near (n : Nat) (A : Option Addr) (c : Nat) (zs : List Int) (z0 z1 z2 : Int) (w : World) (h1 : 1 ≤ n) (h2 : n ≤ 255) (hl : zs.length ≤ 100) (hr : Row .u8 w A zs) (hz : ∀ z ∈ zs, 0 ≤ z ∧ z ≤ 255)
    (b0 : 0 ≤ z0 ∧ z0 ≤ 255) (b1 : 0 ≤ z1 ∧ z1 ≤ 255) (b2 : 0 ≤ z2 ∧ z2 ≤ 255) :
    Calls Try.prog 3 #[.int .u8 (n : Int), .slice A zs.length c, .agg #[.int .u8 z0, .int .u8 z1, .int .u8 z2]] w fun e w' => e = .returned (.bool true) ∧ Below w.heap.size w w' := by
  have d1 : decide ((100 : Int) < (zs.length : Int)) = false := by simp; omega
  have d2 : ((n : Int) == 0) = false := by simp; omega
  obtain ⟨b00, b01⟩ := b0
  obtain ⟨b10, b11⟩ := b1
  obtain ⟨b20, b21⟩ := b2
  have HR := Lib.hid hr
  have HZ := Lib.hid hz
  clear hr hz
  go_enter Try.func3, Try.ntmps3
  go_wp2_with fail
  refine (awake_any _).mono ?_
  rintro e w1 ⟨rfl, B1⟩
  have HX1 := Lib.hid ((Lies.new w 23 [.int .u8 z0, .int .u8 z1, .int .u8 z2]).kept B1)
  have HB1 := Lib.hid (on (below_one w (.cells [.int .u8 z0, .int .u8 z1, .int .u8 z2].toArray 23)) (by simp) B1)
  clear B1
  have q0 := HX1.out.lt
  go_wp2_with fail
  refine (new_yes _ n rfl w1 (by omega) (by omega)).mono ?_
  rintro e w2 ⟨g, gw, rfl, B2, q1, q2, H2⟩
  have HX2 := Lib.hid (HX1.out.kept B2)
  have B3 := Lib.hid (on HB1.out HB1.out.size B2)
  have HH3 := Lib.hid H2
  clear B2 H2 HB1 HX1
  go_wp2
  go_loopw [46] (fun i wr => ∃ (j : Nat) (ws : List Nat), j ≤ zs.length ∧ i = .int .i64 j ∧ At wr g gw n ws ∧ Below w.heap.size w wr ∧ Lies wr w.heap.size 23 [.int .u8 z0, .int .u8 z1, .int .u8 z2]) (fun i _ => zs.length - (intOf i).toNat)
  case atStart => exact ⟨0, _, Nat.zero_le _, rfl, HH3.out, B3.out, HX2.out⟩
  case round =>
    obtain ⟨j, ws, hj, rfl, H, B, X⟩ := hrel
    have HH := Lib.hid H
    have HB := Lib.hid B
    have HX := Lib.hid X
    clear H B X HH3 B3 HX2
    by_cases hjl : j < zs.length
    · obtain ⟨ad, rfl, c0⟩ := (HR.out.kept HB.out).at_ hjl
      have hb := HZ.out zs[j] (List.getElem_mem hjl)
      generalize zs[j] = z at c0 hb
      obtain ⟨hb0, hb1⟩ := hb
      obtain ⟨p, hzp, hpn⟩ := rem_place z n hb0 h1
      go_wp2_with fail
      refine (set_yes HH.out p hpn).mono ?_
      rintro e w5 ⟨rfl, H5, E5⟩
      have B5 := Lib.hid (HB.out.trans (HH.out.low E5 (by omega) (by omega)))
      have HX5 := Lib.hid (E5.lies HX.out (by omega) (by omega))
      have HH5 := Lib.hid H5
      clear H5 E5 c0 HH HB HX
      go_wp2
      exact ⟨⟨j + 1, _, by omega, by go_num, HH5.out, B5.out, HX5.out⟩, by simp [intOf]; omega⟩
    · have hj' : j = zs.length := by omega
      subst hj'
      have x0 : wr.cell? ⟨w.heap.size, 0, none⟩ = some (.int .u8 z0) := HX.out.cell 0
      have x1 : wr.cell? ⟨w.heap.size, 1, none⟩ = some (.int .u8 z1) := HX.out.cell 1
      have x2 : wr.cell? ⟨w.heap.size, 2, none⟩ = some (.int .u8 z2) := HX.out.cell 2
      obtain ⟨a, ha, ha2⟩ := rem_place z0 (n + 1) b00 (by omega)
      have ha' : z0 % ((n : Int) + 1) = (a : Int) := by rw [← ha]; congr 1
      obtain ⟨b, hb, hb2⟩ := rem_place z1 (n - a + 1) b10 (by omega)
      have hb' : z1 % ((n : Int) - (a : Int) + 1) = (b : Int) := by rw [← hb]; congr 1; omega
      obtain ⟨d, hd, hd2⟩ := rem_place z2 (n - (a + b) + 1) b20 (by omega)
      have hd' : z2 % ((n : Int) - ((a : Int) + (b : Int)) + 1) = (d : Int) := by rw [← hd]; congr 1; omega
      clear ha hb hd
      obtain ⟨P, hP⟩ : ∃ P, span (bit ws) a (a + b) = P := ⟨_, rfl⟩
      obtain ⟨Q, hQ⟩ : ∃ Q, span (bit ws) (a + b) (a + b + d) = Q := ⟨_, rfl⟩
      have hR := span_add (bit ws) a (a + b) (a + b + d) (by omega) (by omega)
      have hle := span_le (bit ws) a (a + b + d)
      have hle1 := span_le (bit ws) a (a + b)
      have hle2 := span_le (bit ws) (a + b) (a + b + d)
      rw [hP, hQ] at hR
      rw [hR] at hle
      rw [hP] at hle1
      rw [hQ] at hle2
      have HP := Lib.hid hP
      have HQ := Lib.hid hQ
      have HRR := Lib.hid hR
      clear hP hQ hR
      go_wp2_with fail
      refine (count_int HH.out _ _ a (a + b) P rfl (by omega) (by omega) (by omega) HP.out).mono ?_
      rintro e w6 ⟨rfl, rfl⟩
      go_wp2_with fail
      refine (count_int HH.out _ _ (a + b) (a + b + d) Q (by omega) (by omega) (by omega) (by omega) HQ.out).mono ?_
      rintro e w6 ⟨rfl, rfl⟩
      go_wp2_with fail
      refine (count_int HH.out _ _ a (a + b + d) (P + Q) rfl (by omega) (by omega) (by omega) HRR.out).mono ?_
      rintro e w6 ⟨rfl, rfl⟩
      have f1 : (((P : Int) + (Q : Int)) == (((P + Q : Nat)) : Int)) = true := by simp
      have f2 : decide ((((P + Q : Nat)) : Int) ≤ (a : Int) + (b : Int) + (d : Int) - (a : Int)) = true := by simp; omega
      go_wp2
      go_ret
      exact ⟨ret_bool (decide_eq_true (by omega)), HB.out⟩

theorem parts_walk (s : Int) (hs : 0 ≤ s ∧ s ≤ 255) (A : Option Addr) (l c : Nat) (z0 z1 z2 : Int) (hb : (0 ≤ z0 ∧ z0 ≤ 255) ∧ (0 ≤ z1 ∧ z1 ≤ 255) ∧ (0 ≤ z2 ∧ z2 ≤ 255)) (w : World) (hr : ∃ zs, Came .u8 w A l zs) :
    Calls Try.prog 3 #[.int .u8 s, .slice A l c, .agg #[.int .u8 z0, .int .u8 z1, .int .u8 z2]] w fun e w' => e = .returned (.bool true) ∧ Below w.heap.size w w' := by
  obtain ⟨zs, rfl, h1, h2⟩ := hr
  by_cases h : 100 < zs.length ∨ s = 0
  · exact parts_far s A c _ z0 z1 z2 w hs h
  · obtain ⟨n, rfl⟩ := Int.eq_ofNat_of_zero_le hs.1
    exact parts_near n A c zs z0 z1 z2 w (by omega) (by omega) (by omega) h1 h2 hb.1 hb.2.1 hb.2.2
end Go.Proofs.Ytiomiaciaefbaaa
