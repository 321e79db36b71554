/- CellNews. -/
import Derived.Test.YtcabgnfeeimeiaaAwake
namespace Go.Proofs.Ytcabgnfeeimeiaa
open Go.RowKit
set_option linter.unusedVariables false
set_option linter.unusedSimpArgs false

theorem nil_nil (w : World) : (binOp .eql 24 (.pointer none) (.pointer none)).run Try.prog w = .ok (.bool true) w := by kernel_rfl

set_option maxRecDepth 100000 in
set_option maxHeartbeats 1000000 in
theorem news_far (n : Int) (w : World) (h : 70000 < n) : Calls Try.prog 4 #[.int .i64 n] w fun e w' => e = .returned (.bool true) ∧ Below w.heap.size w w' := by
  have d1 : decide (70000 < n) = true := by simp; omega
  go_enter Try.func4, Try.ntmps4
  go_wp2_with fail
  refine (awake_any _).mono ?_
  rintro e w1 ⟨rfl, B1⟩
  go_wp2_with fail
  refine (awake_any _).mono ?_
  rintro e w2 ⟨rfl, B2⟩
  have HB := Lib.hid (on B1 B1.size B2)
  clear B1 B2
  go_wp2
  go_ret
  exact ⟨rfl, HB.out⟩

set_option maxRecDepth 100000 in
set_option maxHeartbeats 1000000 in
theorem news_bad (n : Int) (w : World) (h0 : n ≤ 70000) (h : n < 1 ∨ 65536 < n) : Calls Try.prog 4 #[.int .i64 n] w fun e w' => e = .returned (.bool true) ∧ Below w.heap.size w w' := by
  have d1 : decide (70000 < n) = false := by simp; omega
  have hnil := nil_nil
  have HH := Lib.hid h
  by_cases h1 : n < 1
  · have d2 : decide (n < 1) = true := by simp; omega
    clear h
    go_enter Try.func4, Try.ntmps4
    go_wp2_with fail
    refine (awake_any _).mono ?_
    rintro e w1 ⟨rfl, B1⟩
    go_wp2_with fail
    refine (new_no n _ HH.out).mono ?_
    rintro e w2 ⟨rfl, B2⟩
    have HB := Lib.hid (on B1 B1.size B2)
    clear B1 B2
    go_wp2
    go_ret
    exact ⟨rfl, HB.out⟩
  · have d2 : decide (n < 1) = false := by simp; omega
    have d3 : decide (65536 < n) = true := by simp; omega
    clear h
    go_enter Try.func4, Try.ntmps4
    go_wp2_with fail
    refine (awake_any _).mono ?_
    rintro e w1 ⟨rfl, B1⟩
    go_wp2_with fail
    refine (new_no n _ HH.out).mono ?_
    rintro e w2 ⟨rfl, B2⟩
    have HB := Lib.hid (on B1 B1.size B2)
    clear B1 B2
    go_wp2
    go_ret
    exact ⟨rfl, HB.out⟩

theorem new_int (n : Int) (k : Nat) (e : n = k) (w : World) (base : Nat) (hb : base ≤ w.heap.size) (h1 : 1 ≤ k) (h2 : k ≤ 65536) :
    Calls Try.prog 10 #[.int .i64 n] w fun e w' => ∃ g gw, e = .returned (.tuple #[.pointer (some ⟨g, 0, none⟩), .int .i64 0]) ∧ Below w.heap.size w w' ∧ w.heap.size ≤ g ∧ w.heap.size ≤ gw ∧ At w' base g gw (List.replicate k 0) none 0 [] := by
  subst e; exact new_yes k w base hb h1 h2
theorem len_int {w : World} {base g gw : Nat} {zs : List Int} {A : Option Addr} {c : Nat} {ts : List Tc} (h : At w base g gw zs A c ts) (n : Int) (e : (zs.length : Int) = n) : Calls Try.prog 11 #[.pointer (some ⟨g, 0, none⟩)] w fun e w' => e = .returned (.int .i64 n) ∧ w = w' := by
  subst e; exact len_any h
theorem load_int {w : World} {base g gw : Nat} {zs : List Int} {A : Option Addr} {c : Nat} {ts : List Tc} (h : At w base g gw zs A c ts) (hn : ts.length ≤ 1000) (who n : Int) (p : Nat) (e : n = p) (h0 : 0 ≤ who) (h1 : who < 64) (h3 : p < zs.length) (was : Int) (hwas : zs.getD p 0 = was) :
    Calls Try.prog 13 #[.pointer (some ⟨g, 0, none⟩), .int .i64 who, .int .i64 n] w fun e w' => e = .returned (.tuple #[.int .i64 was, .int .i64 0]) ∧ Did w w' base g gw A zs (ts ++ [⟨who, n, 1, was, was⟩]) := by
  subst e; exact load_yes h hn who p h0 h1 h3 was hwas
theorem rep_at (n p : Nat) : (List.replicate n (0 : Int)).getD p 0 = 0 := by
  simp [List.getD, List.getElem?_replicate]
  split <;> rfl

set_option maxRecDepth 100000 in
set_option maxHeartbeats 1000000 in
theorem news_yes (n : Int) (k : Nat) (hk : n = k) (w : World) (h1 : 1 ≤ n) (h2 : n ≤ 65536) : Calls Try.prog 4 #[.int .i64 n] w fun e w' => e = .returned (.bool true) ∧ Below w.heap.size w w' := by
  have d1 : decide (70000 < n) = false := by simp; omega
  have d2 : decide (n < 1) = false := by simp; omega
  have d3 : decide (65536 < n) = false := by simp; omega
  have k1 : 1 ≤ k := by omega
  have k2 : k ≤ 65536 := by omega
  have HK := Lib.hid hk
  clear hk
  have hnil := fun W g => nil_ne W g
  go_enter Try.func4, Try.ntmps4
  go_wp2_with fail
  refine (awake_any _).mono ?_
  rintro e w1 ⟨rfl, B1⟩
  have HB1 := Lib.hid B1
  clear B1
  go_wp2_with fail
  refine (new_int n k HK.out w1 w.heap.size HB1.out.size k1 k2).mono ?_
  rintro e w2 ⟨g, gw, rfl, B2, q1, q2, H2⟩
  have HB2 := Lib.hid (on HB1.out HB1.out.size B2)
  have HH2 := Lib.hid H2
  have L2 := Lib.hid (len_int H2 n (by rw [List.length_replicate]; exact HK.out.symm))
  clear B2 H2 HB1
  go_wp2_with fail
  refine L2.out.mono ?_
  rintro e w2' ⟨rfl, rfl⟩
  clear L2
  go_wp2_with fail
  refine (load_int HH2.out (by simp) 63 0 0 rfl (by omega) (by omega) (by simp; omega) 0 (rep_at k 0)).mono ?_
  rintro e w3 ⟨rfl, D3⟩
  have B3 := Lib.hid (HB2.out.trans (D3.low HH2.out))
  obtain ⟨A3, c3, H3, _, _⟩ := D3
  have HH3 := Lib.hid H3
  clear H3 HB2 HH2
  go_wp2_with fail
  refine (load_int HH3.out (by simp) 0 (n - 1) (k - 1) (by have := HK.out; omega) (by omega) (by omega) (by simp; omega) 0 (rep_at k _)).mono ?_
  rintro e w4 ⟨rfl, D4⟩
  have B4 := Lib.hid (B3.out.trans (D4.low HH3.out))
  obtain ⟨A4, c4, H4, _, _⟩ := D4
  have HH4 := Lib.hid H4
  clear H4 B3 HH3
  go_wp2_with fail
  refine (load_no HH4.out 64 0 (by omega)).mono ?_
  rintro e w5 ⟨rfl, D5⟩
  have HH5 := Lib.hid (HH4.out.kept D5)
  have B5 := Lib.hid (on B4.out B4.out.size D5)
  clear D5 HH4 B4
  go_wp2_with fail
  refine (load_no HH5.out 0 n (by simp; have := HK.out; omega)).mono ?_
  rintro e w6 ⟨rfl, D6⟩
  have HH6 := Lib.hid (HH5.out.kept D6)
  have B6 := Lib.hid (on B5.out B5.out.size D6)
  clear D6 HH5 B5
  go_wp2_with fail
  refine (log_any HH6.out (by simp)).mono ?_
  rintro e w7 ⟨rfl, _, D7⟩
  have B7 := Lib.hid (on B6.out B6.out.size D7)
  clear D7 HH6 B6
  go_wp2
  go_ret
  exact ⟨rfl, B7.out⟩

theorem news_walk (n : Int) (w : World) : Calls Try.prog 4 #[.int .i64 n] w fun e w' => e = .returned (.bool true) ∧ Below w.heap.size w w' := by
  by_cases h1 : 70000 < n
  · exact news_far n w h1
  by_cases h2 : n < 1 ∨ 65536 < n
  · exact news_bad n w (by omega) h2
  · exact news_yes n n.toNat (by omega) w (by omega) (by omega)
end Go.Proofs.Ytcabgnfeeimeiaa
