/- An array of two numbers that came in. AllocPlays, whatever comes in. -/
import Derived.Test.YtibfhpbklnpknaaAlRead
import Derived.ProofKit
import Derived.OpenShut
import Derived.Lib.SmallJoins
import Derived.Test.YtibfhpbklnpknaaPlMain
namespace Go.Proofs.Ytibfhpbklnpknaa
open Go.ChangeShapes Go.WideShapes Go.ChangeAt Go.RowKit Go.Joins
set_option linter.unusedVariables false

theorem cells23a : Try.prog.cellsOf 23 = 2 := by kernel_rfl
theorem okWide_arr {P : Program} {w : World} {r : Reach} {base : Nat} {t e : TypeId} {n : Nat} {v : Value} (ht : P.underlying t = some (.array n e)) (h : Value.okWide P w r base t v) : ∃ cs, v = .agg cs ∧ cs.size = P.cellsOf t := by
  simp only [Value.okWide, ht] at h
  cases v <;> simp_all
theorem array_two {α : Type} {a : Array α} (h : a.size = 2) : ∃ x y, a = #[x, y] := by
  match a, h with
  | ⟨[x, y]⟩, _ => exact ⟨x, y, rfl⟩
theorem reads_pair {H : Type} {enc : TypeId × Value → H} {W : World} {base : Nat} {v : Value} {d : DataW H} {p : List MemPlace} (hv : Value.okWide Try.prog W .any base 23 v) (h : DataW.Trod enc Try.prog W 0 (fun _ => true) true 23 v d p) :
    ∃ z0 z1 : Int, v = .agg #[.int .i64 z0, .int .i64 z1] ∧ ((-9223372036854775808 ≤ z0 ∧ z0 ≤ 9223372036854775807) ∧ (-9223372036854775808 ≤ z1 ∧ z1 ≤ 9223372036854775807)) := by
  obtain ⟨cs, rfl, hsz⟩ := okWide_arr Try.underlying23 hv
  obtain ⟨c0, c1, rfl⟩ := array_two (hsz.trans cells23a)
  obtain ⟨fuel, hf⟩ := h
  obtain ⟨xs, m, _, _, _, hlen, hi⟩ := DataW.trod_array Try.underlying23 hf
  rw [cells3'] at hi
  match xs, hlen with
  | [y0, y1], _ =>
    have h0 := hi 0 (by omega)
    have h1 := hi 1 (by omega)
    simp [Value.cells] at h0 h1
    obtain ⟨z0, e0, -, w0⟩ := DataW.trod_int Try.underlying3 h0
    obtain ⟨z1, e1, -, w1⟩ := DataW.trod_int Try.underlying3 h1
    simp at e0 e1
    subst e0 e1
    exact ⟨z0, z1, rfl, bd_i64 w0, bd_i64 w1⟩
end Go.Proofs.Ytibfhpbklnpknaa

namespace Go.Proofs.Ytibfhpbklnpknaa
open Go.RowKit
set_option linter.unusedVariables false
set_option linter.unusedSimpArgs false

set_option maxRecDepth 1000000 in
theorem plays_out (x0 x y : Int) (B : Option Addr) (n c : Nat) (w : World) (h2 : 40 < n) :
    Calls Try.prog 3 #[.int .u16 x0, .agg #[.int .i64 x, .int .i64 y], .slice B n c] w fun e w' => e = .returned (.bool true) ∧ Below w.heap.size w w' := by
  have d1 : decide ((40 : Int) < (n : Int)) = true := by simp; omega
  have bX := below_one w (.cells #[.int .i64 x, .int .i64 y] 23)
  go_enter Try.func3, Try.ntmps3
  go_wp2_with fail
  refine (awake_any _).mono ?_
  rintro e w1 ⟨rfl, hb1⟩
  go_wp2_with fail
  refine (awake_any _).mono ?_
  rintro e w2 ⟨rfl, hb2⟩
  have B1 := on bX bX.size hb1
  go_wp2
  go_ret
  exact ⟨rfl, on B1 B1.size hb2⟩

set_option maxRecDepth 1000000 in
set_option maxHeartbeats 1000000 in
theorem plays_bad (x0 x y : Int) (B : Option Addr) (n c : Nat) (w : World) (hx : 0 ≤ x0) (hx' : x0 ≤ 65535) (h2 : n ≤ 40) (hn : ¬ (1 ≤ x ∧ x ≤ 64)) :
    Calls Try.prog 3 #[.int .u16 x0, .agg #[.int .i64 x, .int .i64 y], .slice B n c] w fun e w' => e = .returned (.bool true) ∧ Below w.heap.size w w' := by
  have d1 : decide ((40 : Int) < (n : Int)) = false := by simp; omega
  have hnil : ∀ W, (binOp .eql 30 (.pointer none) (.pointer none)).run Try.prog W = .ok (.bool true) W := fun W => by kernel_rfl
  obtain ⟨Z, hZ⟩ : ∃ Z : Nat, 1 + x0 % 300 = (Z : Int) := ⟨(1 + x0 % 300).toNat, by omega⟩
  have z1 : 1 ≤ Z := by omega
  have z2 : Z ≤ 300 := by omega
  have HN := Lib.hid hZ
  have HX := Lib.hid hn
  have bX := below_one w (.cells #[.int .i64 x, .int .i64 y] 23)
  clear hZ hn
  go_enter Try.func3, Try.ntmps3
  go_wp2_with fail
  refine (awake_any _).mono ?_
  rintro e w1 ⟨rfl, hb1⟩
  have LX := (Lies.new w 23 [.int .i64 x, .int .i64 y]).below hb1 (by simp)
  have HB1 := Lib.hid (on bX bX.size hb1)
  have HLX1 := Lib.hid LX
  clear hb1 LX bX
  go_wp2_with fail
  rw [HN.out]
  refine (new_st Z _ z1 (by omega)).mono ?_
  rintro e w2 ⟨g, gw, gb, rfl, hb2, q1, q2, q3, S2⟩
  have LX2 := HLX1.out.below hb2 HLX1.out.lt
  have a0 : w2.cell? ⟨w.heap.size, 0, none⟩ = some (.int .i64 x) := LX2.cell 0
  have a1 : w2.cell? ⟨w.heap.size, 1, none⟩ = some (.int .i64 y) := LX2.cell 1
  have HB2 := Lib.hid (on HB1.out HB1.out.size hb2)
  clear hb2 S2 LX2 HLX1
  go_wp2_with fail
  refine (anew_no (.pointer (some ⟨g, 0, none⟩)) x y _ HX.out).mono ?_
  rintro e w3 ⟨rfl, rfl⟩
  by_cases h1 : x < 1
  · have t1 : decide (x < 1) = true := decide_eq_true h1
    go_wp2
    go_ret
    exact ⟨rfl, HB2.out⟩
  · have t1 : decide (x < 1) = false := decide_eq_false h1
    have t2 : decide (64 < x) = true := decide_eq_true (by have := HX.out; omega)
    go_wp2
    go_ret
    exact ⟨rfl, HB2.out⟩

theorem plays_walk (x0 x y : Int) (B : Option Addr) (n c : Nat) (ds : List Deal) (w : World) (hx : 0 ≤ x0 ∧ x0 ≤ 65535) (hc : CameD w B n ds) :
    Calls Try.prog 3 #[.int .u16 x0, .agg #[.int .i64 x, .int .i64 y], .slice B n c] w fun e w' => e = .returned (.bool true) ∧ Below w.heap.size w w' := by
  obtain ⟨rfl, h1, h2⟩ := hc
  by_cases h : ds.length ≤ 40
  · by_cases hn : 1 ≤ x ∧ x ≤ 64
    · obtain ⟨nt, rfl⟩ := Int.eq_ofNat_of_zero_le (show 0 ≤ x by omega)
      exact plays_yes x0 y nt B c ds w hx.1 hx.2 h h1 h2 (by omega) (by omega)
    · exact plays_bad x0 x y B _ c w hx.1 hx.2 h hn
  · exact plays_out x0 x y B _ c w (by omega)
end Go.Proofs.Ytibfhpbklnpknaa
