/- DequeNews. -/
import Derived.Test.YteaffpkmidaghaaAw
namespace Go.Proofs.Yteaffpkmidaghaa
open Go.RowKit
set_option linter.unusedVariables false
set_option linter.unusedSimpArgs false

set_option maxHeartbeats 1000000 in
theorem news_bad (room who : Int) (w : World) (h : room < 2 ∨ 1024 < room) : Calls Try.prog 5 #[.int .i64 room, .int .i64 who] w fun e w' => e = .returned (.bool true) ∧ Below w.heap.size w w' := by
  have T := Lib.hid (fun W => dnew_no room W h)
  have hn : ∀ W : World, (binOp .eql 24 (.pointer none) (.pointer none)).run Try.prog W = .ok (.bool true) W := fun _ => by kernel_rfl
  by_cases h1 : room < 2
  · have d1 : decide (room < 2) = true := by simp; omega
    clear h h1
    go_enter Try.func5, Try.ntmps5
    go_wp2_with fail
    refine (awake_any _).mono ?_
    rintro e w1 ⟨rfl, B1⟩
    have HB1 := Lib.hid B1
    clear B1
    go_wp2_with fail
    refine (T.out w1).mono ?_
    rintro e w2 ⟨rfl, B2⟩
    have HB2 := Lib.hid (on HB1.out HB1.out.size B2)
    clear B2
    go_wp2
    go_ret
    exact ⟨rfl, HB2.out⟩
  · have d1 : decide (room < 2) = false := by simp; omega
    have d2 : decide (1024 < room) = true := by simp; omega
    clear h h1
    go_enter Try.func5, Try.ntmps5
    go_wp2_with fail
    refine (awake_any _).mono ?_
    rintro e w1 ⟨rfl, B1⟩
    have HB1 := Lib.hid B1
    clear B1
    go_wp2_with fail
    refine (T.out w1).mono ?_
    rintro e w2 ⟨rfl, B2⟩
    have HB2 := Lib.hid (on HB1.out HB1.out.size B2)
    clear B2
    go_wp2
    go_ret
    exact ⟨rfl, HB2.out⟩

set_option maxHeartbeats 1000000 in
theorem news_good (room who : Int) (w : World) (h1 : 2 ≤ room) (h2 : room ≤ 1024) : Calls Try.prog 5 #[.int .i64 room, .int .i64 who] w fun e w' => e = .returned (.bool true) ∧ Below w.heap.size w w' := by
  obtain ⟨n, hn⟩ : ∃ n : Nat, room = n := ⟨room.toNat, by omega⟩
  have d1 : decide (room < 2) = false := by simp; omega
  have d2 : decide (1024 < room) = false := by simp; omega
  have T := Lib.hid (fun W => dnew_yes room n hn W W.heap.size (Nat.le_refl _) (by omega) (by omega))
  have hnil : ∀ W : World, (binOp .eql 31 (.pointer none) (.pointer none)).run Try.prog W = .ok (.bool true) W := fun _ => by kernel_rfl
  have n1 := nil31
  have n2 := nil24
  have HN := Lib.hid hn
  clear hn
  go_enter Try.func5, Try.ntmps5
  go_wp2_with fail
  refine (awake_any _).mono ?_
  rintro e w1 ⟨rfl, B1⟩
  have HB1 := Lib.hid B1
  clear B1
  go_wp2_with fail
  refine (T.out w1).mono ?_
  rintro e w2 ⟨gd, g, gw, rfl, B2, H2⟩
  have HB2 := Lib.hid (on HB1.out HB1.out.size B2)
  have HH := Lib.hid H2
  have LA := Lib.hid (len_any H2.at_)
  have hl : (((List.replicate (n + 2) (0 : Int)).length : Nat) : Int) = room + 2 := by simp; have := HN.out; omega
  rw [hl] at LA
  clear B2 H2 hl
  go_wp2_with fail
  refine (cells_any HH.out.own).mono ?_
  rintro e w3 ⟨rfl, rfl⟩
  go_wp2_with fail
  refine LA.out.mono ?_
  rintro e w3 ⟨rfl, rfl⟩
  by_cases h3 : who < 1 ∨ 64 ≤ who
  · go_wp2_with fail
    refine (steal_no gd who h3 _).mono ?_
    rintro e w3 ⟨rfl, B3⟩
    have HB3 := Lib.hid (on HB2.out HB2.out.size B3)
    clear B3
    by_cases h4 : who < 1
    · have d3 : decide (who < 1) = true := by simp; omega
      go_wp2
      go_ret
      exact ⟨rfl, HB3.out⟩
    · have d3 : decide (who < 1) = false := by simp; omega
      have d4 : decide (63 < who) = true := by simp; omega
      go_wp2
      go_ret
      exact ⟨rfl, HB3.out⟩
  · have d3 : decide (who < 1) = false := by simp; omega
    have d4 : decide (63 < who) = false := by simp; omega
    go_wp2_with fail
    refine (steal_yes HH.out.own who (by omega) (by omega)).mono ?_
    rintro e w3 ⟨rfl, L3, B3⟩
    have HB3 := Lib.hid (on HB2.out HB2.out.size B3)
    have HL3 := Lib.hid L3
    clear B3 L3
    go_wp2_with fail
    refine (result_no HL3.out (by simp)).mono ?_
    rintro e w4 ⟨rfl, B4⟩
    have HB4 := Lib.hid (on HB3.out HB3.out.size B4)
    have HL4 := Lib.hid (HL3.out.kept B4)
    clear B4
    go_wp2_with fail
    refine (done_no HL4.out (by simp)).mono ?_
    rintro e w5 ⟨rfl, rfl⟩
    go_wp2
    go_ret
    exact ⟨rfl, HB4.out⟩
theorem news_any (room who : Int) (w : World) : Calls Try.prog 5 #[.int .i64 room, .int .i64 who] w fun e w' => e = .returned (.bool true) ∧ Below w.heap.size w w' := by
  by_cases h : room < 2 ∨ 1024 < room
  · exact news_bad room who w h
  · exact news_good room who w (by omega) (by omega)
end Go.Proofs.Yteaffpkmidaghaa
