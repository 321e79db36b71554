/- Whether some of a list's words lead astray: the library's look through a list, with a method value. -/
import Derived.Test.YtibfhpbklnpknaaSeq
namespace Go.Proofs.Ytibfhpbklnpknaa
open Go.RowKit
set_option linter.unusedVariables false
set_option linter.unusedSimpArgs false

theorem enter47 (args : Array Value) (W : World) : (callFunc 44 args).run Try.prog W = .ok (.enter 44 args) W := by
  simp [callFunc, go_sem, Try.func44]
  kernel_rfl

def InR (v : Int) : Prop := -9223372036854775808 ≤ v ∧ v ≤ 9223372036854775807

theorem astray_st {w : World} {g gw gb : Nat} {obs : List Ob} {tail : List Int} (S : St w g gw gb obs tail) (v : Int) (hv : InR v) :
    Calls Try.prog 44 #[.pointer (some ⟨g, 0, none⟩), .int .i64 v] w fun e w' => e = .returned (.bool (astrayO obs v)) ∧ Below w.heap.size w w' := by
  have := astray_any S.lies S.sound v hv.1 hv.2
  rw [astray_eq] at this
  exact this

set_option maxHeartbeats 1000000 in
theorem index_any {w : World} {g gw gb : Nat} {obs : List Ob} {tail : List Int} (S : St w g gw gb obs tail) (A : Option Addr) (c : Nat) (ys : List Int) (hr : Row w A ys) (hn : ys.length ≤ 65536) (hw : ∀ v ∈ ys, InR v) :
    Calls Try.prog 55 #[.slice A ys.length c, .func (.func 44) #[.pointer (some ⟨g, 0, none⟩)] #[]] w fun e w' => (∃ i : Int, e = .returned (.int .i64 i) ∧ (ys.any (astrayO obs) = true ↔ 0 ≤ i)) ∧ Below w.heap.size w w' := by
  have HW := Lib.hid hw
  have HR := Lib.hid hr
  have HA : Hid (∃ B : Bool, ys.any (astrayO obs) = B) := ⟨_, rfl⟩
  clear hw hr
  go_enter Try.func55, Try.ntmps55
  go_wp2
  go_loopw [8] (fun i wr => ∃ k : Nat, k ≤ ys.length ∧ i = .int .i64 k ∧ (ys.take k).any (astrayO obs) = false ∧ Below w.heap.size w wr) (fun i _ => ys.length - (intOf i).toNat)
  case atStart => exact ⟨0, Nat.zero_le _, rfl, rfl, Below.refl _ _⟩
  case round =>
    obtain ⟨k, hk, rfl, hall, BB⟩ := hrel
    have HL := Lib.hid hall
    clear hall
    by_cases hlt : k < ys.length
    · obtain ⟨ad, rfl, hcx⟩ := (HR.out.kept BB).at_ hlt
      have e0 : ys.getD k 0 = ys[k] := by simp [List.getD, hlt]
      rw [e0] at hcx
      have hin := HW.out ys[k] (List.getElem_mem hlt)
      have hk0 : (0 : Int) ≤ (k : Int) := by omega
      have hk1 : (k : Int) < (ys.length : Int) := by omega
      have hnx : (ys.take (k + 1)).any (astrayO obs) = astrayO obs ys[k] := by
        rw [List.take_succ_eq_append_getElem hlt, List.any_append, HL.out]; simp
      have HNx := Lib.hid hnx
      have Sr := S.kept BB
      have hyes : astrayO obs ys[k] = true → ys.any (astrayO obs) = true := fun h => List.any_eq_true.2 ⟨ys[k], List.getElem_mem hlt, h⟩
      have HYs := Lib.hid hyes
      clear hnx hyes e0
      generalize ys[k] = v at *
      have hent := enter47
      go_wp2_with fail
      refine (astray_st Sr v hin).mono ?_
      rintro e w2 ⟨rfl, hb2⟩
      have B2 := on BB BB.size hb2
      cases hb : astrayO obs v with
      | false =>
        rw [hb] at HNx
        go_wp2
        exact ⟨⟨k + 1, by omega, by go_num, HNx.out, B2⟩, by simp [intOf]; omega⟩
      | true =>
        go_wp2
        go_ret
        exact ⟨⟨k, rfl, ⟨fun _ => hk0, fun _ => HYs.out hb⟩⟩, B2⟩
    · have hall : ys.any (astrayO obs) = false := by
        have := HL.out
        rwa [List.take_of_length_le (by omega)] at this
      have HAll := Lib.hid hall
      clear hall
      go_wp2
      go_ret
      exact ⟨⟨-1, rfl, ⟨(fun h => by rw [HAll.out] at h; exact Bool.noConfusion h), (fun h => by omega)⟩⟩, BB⟩

set_option maxHeartbeats 1000000 in
theorem contains_any {w : World} {g gw gb : Nat} {obs : List Ob} {tail : List Int} (S : St w g gw gb obs tail) (A : Option Addr) (c : Nat) (ys : List Int) (hr : Row w A ys) (hn : ys.length ≤ 65536) (hw : ∀ v ∈ ys, InR v) :
    Calls Try.prog 45 #[.slice A ys.length c, .func (.func 44) #[.pointer (some ⟨g, 0, none⟩)] #[]] w fun e w' => e = .returned (.bool (ys.any (astrayO obs))) ∧ Below w.heap.size w w' := by
  go_enter Try.func45, Try.ntmps45
  go_wp2_with fail
  refine (index_any S A c ys hr hn hw).mono ?_
  rintro e w2 ⟨⟨i, rfl, hi⟩, hb2⟩
  have HI := Lib.hid hi
  clear hi
  by_cases h0 : 0 ≤ i
  · go_wp2
    go_ret
    exact ⟨ret_bool (by rw [HI.out.2 h0]), hb2⟩
  · have h1 : decide (0 ≤ i) = false := decide_eq_false h0
    go_wp2
    go_ret
    exact ⟨ret_bool (by cases hb : ys.any (astrayO obs) with | false => rfl | true => exact absurd (HI.out.1 hb) (by omega)), hb2⟩
end Go.Proofs.Ytibfhpbklnpknaa
