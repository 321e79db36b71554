/- SpillNews. -/
import Derived.Test.YtcnpbdboeaaajaaAw
import Derived.Deep.CutBlock
namespace Go.Proofs.Ytcnpbdboeaaajaa
open Go.RowKit
set_option linter.unusedVariables false
set_option linter.unusedSimpArgs false

set_option maxRecDepth 100000 in
set_option maxHeartbeats 1000000 in
theorem news_bad (room who : Int) (h0 : 0 ≤ room) (h1 : room < 4294967296) (w : World) (h : room % 70000 < 1 ∨ 65534 < room % 70000) : Calls Try.prog 5 #[.int .u32 room, .int .i64 who] w fun e w' => e = .returned (.bool true) ∧ Below w.heap.size w w' := by
  have hn : ∀ W : World, (binOp .eql 24 (.pointer none) (.pointer none)).run Try.prog W = .ok (.bool true) W := fun _ => by kernel_rfl
  have T := Lib.hid (fun W => dnew_no (room % 70000) W h)
  have H := Lib.hid h
  clear h
  go_enter Try.func5, Try.ntmps5
  go_wp2_with fail
  refine (awake_any _).mono ?_
  rintro e w1 ⟨rfl, B1⟩
  have HB1 := Lib.hid B1
  clear B1
  go_upto_region 4 with fail
  have HR : Hid (0 ≤ room % 70000 ∧ room % 70000 < 70000) := Lib.hid (by omega)
  clear h0 h1
  generalize room % 70000 = z at *
  obtain ⟨z0, z1⟩ := HR.out
  have h := H.out
  go_wp2_with fail
  refine (T.out w1).mono ?_
  rintro e w2 ⟨rfl, B2⟩
  have HB2 := Lib.hid (on HB1.out HB1.out.size B2)
  clear B2
  by_cases h1 : z < 1
  · have d1 : decide (z < 1) = true := by simp; omega
    clear h h1 z0 z1
    go_wp2
    go_ret
    exact ⟨rfl, HB2.out⟩
  · have d1 : decide (z < 1) = false := by simp; omega
    have d2 : decide (65534 < z) = true := by simp; omega
    clear h h1 z0 z1
    go_wp2
    go_ret
    exact ⟨rfl, HB2.out⟩

set_option maxRecDepth 100000 in
set_option maxHeartbeats 2000000 in
theorem news_good (room who : Int) (h0 : 0 ≤ room) (h1 : room < 4294967296) (w : World) (h2 : 1 ≤ room % 70000) (h3 : room % 70000 ≤ 65534) : Calls Try.prog 5 #[.int .u32 room, .int .i64 who] w fun e w' => e = .returned (.bool true) ∧ Below w.heap.size w w' := by
  obtain ⟨n, hn⟩ : ∃ n : Nat, room % 70000 = n := ⟨(room % 70000).toNat, by omega⟩
  have T := Lib.hid (fun W B => conc_new (room % 70000) n hn w W B (by omega) (by omega))
  have hnil : ∀ W : World, (binOp .eql 28 (.pointer none) (.pointer none)).run Try.prog W = .ok (.bool true) W := fun _ => by kernel_rfl
  have n1 := nil28
  have n2 := nil24
  have HN := Lib.hid hn
  have H2 := Lib.hid h2
  have H3 := Lib.hid h3
  clear hn h2 h3
  go_enter Try.func5, Try.ntmps5
  go_wp2_with fail
  refine (awake_any _).mono ?_
  rintro e w1 ⟨rfl, B1⟩
  have HB1 := Lib.hid B1
  clear B1
  go_upto_region 4 with fail
  clear h0 h1
  generalize room % 70000 = z at *
  have z2 := H2.out
  have z3 := H3.out
  have d1 : decide (z < 1) = false := by simp; omega
  have d2 : decide (65534 < z) = false := by simp; omega
  go_wp2_with fail
  refine (T.out w1 HB1.out).mono ?_
  rintro e w2 ⟨gd, g, gw, rfl, C2, B2⟩
  have HC2 := Lib.hid C2
  have LA : Hid (Calls Try.prog 19 #[.pointer (some ⟨g, 0, none⟩)] w2 fun e w' => e = .returned (.int .i64 (z + 2)) ∧ w2 = w') := Lib.hid (by
    obtain ⟨zs, A, c, ts, H, _⟩ := C2
    have hl := (H.sh.pl free_nil).2.len
    have := len_any H.dq.at_
    rw [hl, show ((n + 2 : Nat) : Int) = z + 2 by have := HN.out; omega] at this
    exact this)
  clear C2 B2 T
  go_wp2_with fail
  refine (cells_any HC2.out.own).mono ?_
  rintro e w3 ⟨rfl, rfl⟩
  go_wp2_with fail
  refine LA.out.mono ?_
  rintro e w3 ⟨rfl, rfl⟩
  go_wp2_with fail
  refine (conc_words HC2.out free_nil).mono ?_
  rintro e w3 ⟨a3, rfl, _, _, B3⟩
  have HC3 := Lib.hid (HC2.out.kept B3)
  clear B3 LA HC2
  by_cases h4 : who < 0 ∨ 64 ≤ who
  · go_wp2_with fail
    refine (take_no gd who h4 _).mono ?_
    rintro e w4 ⟨rfl, rfl⟩
    go_wp2_with fail
    refine (put_no gd who 3 h4 _).mono ?_
    rintro e w4 ⟨rfl, rfl⟩
    by_cases h5 : who < 0
    · have d3 : decide (who < 0) = true := by simp; omega
      go_wp2
      go_ret
      exact ⟨rfl, HC3.out.below⟩
    · have d3 : decide (who < 0) = false := by simp; omega
      have d4 : decide (63 < who) = true := by simp; omega
      go_wp2
      go_ret
      exact ⟨rfl, HC3.out.below⟩
  · have d3 : decide (who < 0) = false := by simp; omega
    have d4 : decide (63 < who) = false := by simp; omega
    go_wp2_with fail
    refine (take_yes HC3.out.own who (by omega) (by omega)).mono ?_
    rintro e w4 ⟨rfl, L4, B4⟩
    have HC4 := Lib.hid (HC3.out.kept B4)
    have HL4 := Lib.hid L4
    clear B4 L4
    go_wp2_with fail
    refine (put_yes HC4.out.own who 3 (by omega) (by omega)).mono ?_
    rintro e w5 ⟨rfl, L5, B5⟩
    have HC5 := Lib.hid (HC4.out.kept B5)
    have HL5 := Lib.hid (HL4.out.kept B5)
    have HP5 := Lib.hid L5
    clear B5 L5 HC4 HL4
    go_wp2_with fail
    refine (result_no HL5.out (by simp)).mono ?_
    rintro e w6 ⟨rfl, B6⟩
    have HC6 := Lib.hid (HC5.out.kept B6)
    have HL6 := Lib.hid (HL5.out.kept B6)
    have HP6 := Lib.hid (HP5.out.kept B6)
    clear B6 HC5 HL5 HP5
    go_wp2_with fail
    refine (done_no HL6.out (by simp)).mono ?_
    rintro e w7 ⟨rfl, rfl⟩
    go_wp2_with fail
    refine (done_no HP6.out (by simp)).mono ?_
    rintro e w7 ⟨rfl, rfl⟩
    go_wp2
    go_ret
    exact ⟨rfl, HC6.out.below⟩
theorem news_any (room who : Int) (h0 : 0 ≤ room) (h1 : room < 4294967296) (w : World) : Calls Try.prog 5 #[.int .u32 room, .int .i64 who] w fun e w' => e = .returned (.bool true) ∧ Below w.heap.size w w' := by
  by_cases h : room % 70000 < 1 ∨ 65534 < room % 70000
  · exact news_bad room who h0 h1 w h
  · exact news_good room who h0 h1 w (by omega) (by omega)
end Go.Proofs.Ytcnpbdboeaaajaa
