/- CellRaces. -/
import Derived.Test.YtcabgnfeeimeiaaSumsW
namespace Go.Proofs.Ytcabgnfeeimeiaa
open Go.RowKit
set_option linter.unusedVariables false
set_option linter.unusedSimpArgs false

set_option maxHeartbeats 1000000 in
theorem races_far (a : Int) (A : Option Addr) (c : Nat) (l : Nat) (w : World) (hl : 60 < l) : Calls Try.prog 6 #[.int .i64 a, .slice A l c] w fun e w' => e = .returned (.bool true) ∧ Below w.heap.size w w' := by
  have d1 : decide ((60 : Int) < (l : Int)) = true := by simp; omega
  go_enter Try.func6, Try.ntmps6
  go_wp2_with fail
  refine (awake_any _).mono ?_
  rintro e w1 ⟨rfl, B1⟩
  go_wp2_with fail
  refine (awake_any _).mono ?_
  rintro e w2 ⟨rfl, B2⟩
  have HB := Lib.hid (on B1 B1.size B2)
  clear B1 B2
  go_wp2
  go_ret
  exact ⟨rfl, HB.out⟩

set_option maxHeartbeats 1000000 in
theorem races_near (a : Int) (A : Option Addr) (c : Nat) (zs : List Int) (w : World) (hl : zs.length ≤ 60) (hr : Row .i64 w A zs) :
    Calls Try.prog 6 #[.int .i64 a, .slice A zs.length c] w fun e w' => e = .returned (.bool true) ∧ Below w.heap.size w w' := by
  have d1 : decide ((60 : Int) < (zs.length : Int)) = false := by simp; omega
  have hnil := fun W g => nil_ne W g
  have HR := Lib.hid hr
  clear hr
  go_enter Try.func6, Try.ntmps6
  go_wp2_with fail
  refine (awake_any _).mono ?_
  rintro e w1 ⟨rfl, B1⟩
  have HB1 := Lib.hid B1
  clear B1
  go_wp2_with fail
  refine (new_int 2 2 rfl w1 w.heap.size HB1.out.size (by omega) (by omega)).mono ?_
  rintro e w2 ⟨g, gw, rfl, B2, q1, q2, H2⟩
  have HB2 := Lib.hid (on HB1.out HB1.out.size B2)
  have HH2 := Lib.hid H2
  clear B2 H2 HB1
  go_wp2_with fail
  refine (store_yes HH2.out (by simp) 0 1 a (by omega) (by omega) (by simp)).mono ?_
  rintro e w3 ⟨rfl, D3⟩
  have B3 := Lib.hid (HB2.out.trans (D3.low HH2.out))
  obtain ⟨A3, c3, H3, _, _⟩ := D3
  have HH3 : Hid (At w3 w.heap.size g gw [0, a] A3 c3 [⟨0, 1, 2, 0, a⟩]) := Lib.hid H3
  clear H3 HB2 HH2
  go_wp2
  go_loopw [7, 40] (fun nw i wr => ∃ (j : Nat) (m : Int) (A' : Option Addr) (c' : Nat) (ts : List Tc), j ≤ zs.length ∧ i = .int .i64 j ∧ nw = .int .i64 m ∧ ts.length = 1 + j ∧ At wr w.heap.size g gw [0, m] A' c' ts ∧ Below w.heap.size w wr) (fun _ i _ => zs.length - (intOf i).toNat)
  case atStart => exact ⟨0, a, _, _, _, Nat.zero_le _, rfl, rfl, rfl, HH3.out, B3.out⟩
  case round =>
    obtain ⟨j, m, A', c', ts, hj, rfl, rfl, hts, H, B⟩ := hrel
    have HT := Lib.hid hts
    have HH := Lib.hid H
    have HB := Lib.hid B
    clear hts H B HH3 B3
    by_cases hjl : j < zs.length
    · obtain ⟨ad, rfl, c0⟩ := (HR.out.kept HB.out).at_ hjl
      generalize zs[j] = n at c0
      have j0 : (0 : Int) ≤ (j : Int) := by omega
      have j1 : (j : Int) < (zs.length : Int) := by omega
      by_cases hma : m = a
      · have hma' : (m == a) = true := by simp [hma]
        go_wp2_with fail
        refine (swap_hit HH.out (by have := HT.out; omega) j 1 a n (by omega) (by omega) (by simp) m rfl hma).mono ?_
        rintro e w4 ⟨rfl, D4⟩
        have B4 := Lib.hid (HB.out.trans (D4.low HH.out))
        obtain ⟨A4, c4, H4, _, _⟩ := D4
        have HH4 := Lib.hid H4
        clear H4 HB HH c0 hma
        go_wp2
        exact ⟨⟨j + 1, _, _, _, _, by omega, by go_num, rfl, by have := HT.out; simp; omega, HH4.out, B4.out⟩, by simp [intOf]; omega⟩
      · have hma' : (m == a) = false := by simp [hma]
        go_wp2_with fail
        refine (swap_miss HH.out (by have := HT.out; omega) j 1 a n (by omega) (by omega) (by simp) m rfl hma).mono ?_
        rintro e w4 ⟨rfl, D4⟩
        have B4 := Lib.hid (HB.out.trans (D4.low HH.out))
        obtain ⟨A4, c4, H4, _, _⟩ := D4
        have HH4 := Lib.hid H4
        clear H4 HB HH c0 hma
        go_wp2
        exact ⟨⟨j + 1, _, _, _, _, by omega, by go_num, rfl, by have := HT.out; simp; omega, HH4.out, B4.out⟩, by simp [intOf]; omega⟩
    · go_wp2_with fail
      refine (load_int HH.out (by have := HT.out; omega) 0 1 1 rfl (by omega) (by omega) (by simp) m rfl).mono ?_
      rintro e w6 ⟨rfl, D6⟩
      have B6 := Lib.hid (HB.out.trans (D6.low HH.out))
      obtain ⟨A6, c6, H6, _, _⟩ := D6
      have HH6 := Lib.hid H6
      clear H6
      go_wp2_with fail
      refine (words_any HH6.out).mono ?_
      rintro e w7 ⟨rfl, _, D7⟩
      have B7 := Lib.hid (on B6.out B6.out.size D7)
      have HH7 := Lib.hid (HH6.out.kept D7)
      clear D7
      go_wp2_with fail
      refine (words_any HH7.out).mono ?_
      rintro e w8 ⟨rfl, L8, D8⟩
      have B8 := Lib.hid (on B7.out B7.out.size D8)
      have k8 : w8.cell? ⟨w7.heap.size, 1, none⟩ = some (.int .i64 m) := L8.cell 1
      clear D8 L8
      go_wp2
      go_ret
      exact ⟨rfl, B8.out⟩

theorem races_walk (a : Int) (A : Option Addr) (l c : Nat) (w : World) (hr : ∃ zs, Came .i64 w A l zs) :
    Calls Try.prog 6 #[.int .i64 a, .slice A l c] w fun e w' => e = .returned (.bool true) ∧ Below w.heap.size w w' := by
  obtain ⟨zs, rfl, h1, h2⟩ := hr
  by_cases h : 60 < zs.length
  · exact races_far a A c _ w h
  · exact races_near a A c zs w (by omega) h1
end Go.Proofs.Ytcabgnfeeimeiaa
