/- CellRound. -/
import Derived.Test.YtcabgnfeeimeiaaNewsW
import Derived.Test.YtcabgnfeeimeiaaReads
namespace Go.Proofs.Ytcabgnfeeimeiaa
open Go.RowKit
set_option linter.unusedVariables false
set_option linter.unusedSimpArgs false

theorem wrap_back (a n : Int) (ha : InR a) : wrap64 (wrap64 (a + n) + wrap64 (-n)) = a := by
  unfold InR at ha
  unfold wrap64
  omega

theorem add_int {w : World} {base g gw : Nat} {zs : List Int} {A : Option Addr} {c : Nat} {ts : List Tc} (h : At w base g gw zs A c ts) (hn : ts.length ≤ 1000) (who m n : Int) (p : Nat) (e : m = p) (h0 : 0 ≤ who) (h1 : who < 64) (h3 : p < zs.length) (was is : Int) (hwas : zs.getD p 0 = was) (his : wrap64 (was + n) = is) :
    Calls Try.prog 16 #[.pointer (some ⟨g, 0, none⟩), .int .i64 who, .int .i64 m, .int .i64 n] w fun e w' => e = .returned (.tuple #[.int .i64 was, .int .i64 0]) ∧ Did w w' base g gw A (zs.set p is) (ts ++ [⟨who, m, 4, was, is⟩]) := by
  subst e; subst his; exact add_yes h hn who p n h0 h1 h3 was hwas

set_option maxHeartbeats 1000000 in
theorem round_far (a : Int) (A : Option Addr) (c : Nat) (l : Nat) (w : World) (hl : 60 < l) : Calls Try.prog 8 #[.int .i64 a, .slice A l c] w fun e w' => e = .returned (.bool true) ∧ Below w.heap.size w w' := by
  have d1 : decide ((60 : Int) < (l : Int)) = true := by simp; omega
  go_enter Try.func8, Try.ntmps8
  go_wp2_with fail
  refine (awake_any _).mono ?_
  rintro e w1 ⟨rfl, B1⟩
  go_wp2_with fail
  refine (awake_any _).mono ?_
  rintro e w2 ⟨rfl, B2⟩
  have HB := Lib.hid (on B1 B1.size B2)
  clear B1 B2
  go_wp2
  go_ret
  exact ⟨rfl, HB.out⟩

set_option maxHeartbeats 1000000 in
theorem round_near (a : Int) (A : Option Addr) (c : Nat) (zs : List Int) (w : World) (hl : zs.length ≤ 60) (hr : Row .i64 w A zs) (ha : InR a) :
    Calls Try.prog 8 #[.int .i64 a, .slice A zs.length c] w fun e w' => e = .returned (.bool true) ∧ Below w.heap.size w w' := by
  have d1 : decide ((60 : Int) < (zs.length : Int)) = false := by simp; omega
  have hnil := fun W g => nil_ne W g
  have HR := Lib.hid hr
  have HA := Lib.hid ha
  clear hr ha
  go_enter Try.func8, Try.ntmps8
  go_wp2_with fail
  refine (awake_any _).mono ?_
  rintro e w1 ⟨rfl, B1⟩
  have HB1 := Lib.hid B1
  clear B1
  go_wp2_with fail
  refine (new_int 1 1 rfl w1 w.heap.size HB1.out.size (by omega) (by omega)).mono ?_
  rintro e w2 ⟨g, gw, rfl, B2, q1, q2, H2⟩
  have HB2 := Lib.hid (on HB1.out HB1.out.size B2)
  have HH2 := Lib.hid H2
  clear B2 H2 HB1
  go_wp2_with fail
  refine (store_yes HH2.out (by simp) 1 0 a (by omega) (by omega) (by simp)).mono ?_
  rintro e w3 ⟨rfl, D3⟩
  have B3 := Lib.hid (HB2.out.trans (D3.low HH2.out))
  obtain ⟨A3, c3, H3, _, _⟩ := D3
  have HH3 : Hid (At w3 w.heap.size g gw [a] A3 c3 [⟨1, 0, 2, 0, a⟩]) := Lib.hid H3
  clear H3 HB2 HH2
  go_wp2
  go_loopw [41] (fun i wr => ∃ (j : Nat) (A' : Option Addr) (c' : Nat) (ts : List Tc), j ≤ zs.length ∧ i = .int .i64 j ∧ ts.length = 1 + 3 * j ∧ At wr w.heap.size g gw [a] A' c' ts ∧ Below w.heap.size w wr) (fun i _ => zs.length - (intOf i).toNat)
  case atStart => exact ⟨0, _, _, _, Nat.zero_le _, rfl, rfl, HH3.out, B3.out⟩
  case round =>
    obtain ⟨j, A', c', ts, hj, rfl, hts, H, B⟩ := hrel
    have HT := Lib.hid hts
    have HH := Lib.hid H
    have HB := Lib.hid B
    clear hts H B HH3 B3
    by_cases hjl : j < zs.length
    · obtain ⟨ad, rfl, c0⟩ := (HR.out.kept HB.out).at_ hjl
      generalize zs[j] = n at c0
      have j0 : (0 : Int) ≤ (j : Int) := by omega
      have j1 : (j : Int) < (zs.length : Int) := by omega
      go_wp2_with fail
      refine (add_int HH.out (by have := HT.out; omega) 2 0 n 0 rfl (by omega) (by omega) (by simp) a _ rfl rfl).mono ?_
      rintro e w4 ⟨rfl, D4⟩
      have B4 := Lib.hid (HB.out.trans (D4.low HH.out))
      obtain ⟨A4, c4, H4, _, _⟩ := D4
      have HH4 := Lib.hid H4
      clear H4 HB HH c0
      go_wp2_with fail
      refine (add_int HH4.out (by have := HT.out; simp; omega) 3 0 _ 0 rfl (by omega) (by omega) (by simp) (wrap64 (a + n)) a rfl (wrap_back a n HA.out)).mono ?_
      rintro e w5 ⟨rfl, D5⟩
      have B5 := Lib.hid (B4.out.trans (D5.low HH4.out))
      obtain ⟨A5, c5, H5, _, _⟩ := D5
      have HH5 := Lib.hid H5
      clear H5 B4 HH4
      go_wp2_with fail
      refine (load_int HH5.out (by have := HT.out; simp; omega) 4 0 0 rfl (by omega) (by omega) (by simp) a rfl).mono ?_
      rintro e w6 ⟨rfl, D6⟩
      have B6 := Lib.hid (B5.out.trans (D6.low HH5.out))
      obtain ⟨A6, c6, H6, _, _⟩ := D6
      have HH6 := Lib.hid H6
      clear H6 B5 HH5
      go_wp2
      exact ⟨⟨j + 1, _, _, _, by omega, by go_num, by have := HT.out; simp; omega, HH6.out, B6.out⟩, by simp [intOf]; omega⟩
    · have hj' : j = zs.length := by omega
      subst hj'
      have e3 : ((ts.length : Nat) : Int) = 1 + 3 * (zs.length : Int) := by have := HT.out; omega
      go_wp2_with fail
      refine (log_any HH.out (by have := HT.out; omega)).mono ?_
      rintro e w7 ⟨rfl, _, D7⟩
      have B7 := Lib.hid (on HB.out HB.out.size D7)
      clear D7
      go_wp2
      go_ret
      exact ⟨rfl, B7.out⟩

theorem round_walk (a : Int) (A : Option Addr) (l c : Nat) (w : World) (hr : ∃ zs, Came .i64 w A l zs) (ha : InR a) :
    Calls Try.prog 8 #[.int .i64 a, .slice A l c] w fun e w' => e = .returned (.bool true) ∧ Below w.heap.size w w' := by
  obtain ⟨zs, rfl, h1, _⟩ := hr
  by_cases h : 60 < zs.length
  · exact round_far a A c _ w h
  · exact round_near a A c zs w (by omega) h1 ha
end Go.Proofs.Ytcabgnfeeimeiaa
