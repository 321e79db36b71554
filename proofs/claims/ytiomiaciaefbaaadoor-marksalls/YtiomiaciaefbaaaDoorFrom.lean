/- How the iterator goes through the places that are set, whatever is done with each, if that leaves the map. -/
import Derived.Test.YtiomiaciaefbaaaDoorTz
import Derived.Deep.LoopGhost
namespace Go.Proofs.YtiomiaciaefbaaaDoor
open Go.RowKit
set_option linter.unusedVariables false
set_option linter.unusedSimpArgs false

/-- What the iterator leans on. -/
structure Src (W : World) (g gw n : Nat) (ws : List Nat) (bf bm fr : Nat) : Prop where
  map : At W g gw n ws
  mb : Lies W bm 25 [.pointer (some ⟨g, 0, none⟩)]
  fb : Lies W bf 3 [.int .i64 fr]
  tab : Tab W

theorem from_any {w : World} {g : Nat} (z : Int) (fr B : Nat) (hz : z = fr) (hB : w.heap.size = B) :
    Calls Tryd.prog 20 #[.pointer (some ⟨g, 0, none⟩), .int .i64 z] w fun e w' => e = .returned (.func (.func 21) #[] #[.pointer (some ⟨B + 1, 0, none⟩), .pointer (some ⟨B, 0, none⟩)]) ∧ w' = (w.alloc (.cells #[.pointer (some ⟨g, 0, none⟩)] 25)).alloc (.cells #[.int .i64 (fr : Nat)] 3) := by
  subst hz hB
  go_enter Tryd.func20, Tryd.ntmps20
  go_wp2
  go_ret
  exact ⟨rfl, rfl⟩

set_option maxRecDepth 100000 in
set_option maxHeartbeats 1000000 in
theorem from1 (F : Nat) (caps : Array Value) (g gw n bf bm fr : Nat) (ws L : List Nat) (hL : sets ws fr (64 * ws.length) = L) (hfr : fr ≤ n) (J Jx : List Nat → World → Prop)
    (hSt : ∀ pre W, J pre W → Src W g gw n ws bf bm fr)
    (hY : ∀ pre (p : Nat) W, pre ++ [p] <+: L → J pre W → Calls Tryd.prog F (#[.int .i64 p] ++ caps) W fun e W' =>
      (e = .returned (.bool true) ∧ J (pre ++ [p]) W') ∨ (e = .returned (.bool false) ∧ Jx (pre ++ [p]) W'))
    (hcf : ∀ args W, (callFunc F args).run Tryd.prog W = .ok (.enter F args) W) (w : World) (h0 : J [] w) :
    Calls Tryd.prog 21 #[.func (.func F) #[] caps, .pointer (some ⟨bf, 0, none⟩), .pointer (some ⟨bm, 0, none⟩)] w fun e w' => e = .returned (.tuple #[]) ∧ (J L w' ∨ ∃ pre p, pre ++ [p] <+: L ∧ Jx (pre ++ [p]) w') := by
  have HSt := Lib.hid hSt
  have HY := Lib.hid hY
  have HL := Lib.hid hL
  have S0 := hSt [] w h0
  have x0 : w.cell? ⟨bf, 0, none⟩ = some (.int .i64 fr) := S0.fb.cell 0
  have hn := S0.map.most
  obtain ⟨Z, hZ⟩ : ∃ Z, ws.length = Z := ⟨_, rfl⟩
  have hZ2 : Z ≤ 1024 := by have := S0.map.many; omega
  have HZ := Lib.hid hZ
  have hfZ : fr ≤ 64 * Z := by have := S0.map.many; omega
  clear hSt hY hL S0 hZ
  go_enter Tryd.func21, Tryd.ntmps21
  go_wp2
  go_step3
  go_wp2
  go_step3
  go_wp2
  go_loopg [4] (Z - fr / 64) (fun gk s4 wr => ∃ k : Nat, k + gk = Z ∧ fr / 64 ≤ k ∧ s4 = .int .i64 k ∧ J (sets ws fr (max fr (64 * k))) wr)
  case atStart => exact ⟨fr / 64, by omega, Nat.le_refl _, by go_num, by rw [show max fr (64 * (fr / 64)) = fr from by omega, sets_self]; exact h0⟩
  case round =>
    obtain ⟨k, hkg, hk1, rfl, hj⟩ := hrel
    obtain ⟨S, mb, fb, tb⟩ := HSt.out _ _ hj
    have y0 : wr.cell? ⟨bm, 0, none⟩ = some (.pointer (some ⟨g, 0, none⟩)) := mb.cell 0
    have y1 : wr.cell? ⟨bf, 0, none⟩ = some (.int .i64 fr) := fb.cell 0
    have y2 := S.c1
    rw [HZ.out] at y2
    clear x0
    cases gk with
    | zero =>
      have hkz : k = Z := by omega
      subst hkz
      have HJ := Lib.hid hj
      clear hj S mb fb tb
      go_wp2
      rw [Exit.noGoto_normal]
      go_end0
      refine ⟨rfl, .inl ?_⟩
      have := HJ.out
      rw [show max fr (64 * k) = 64 * k from by omega] at this
      rw [← HL.out, HZ.out]
      exact this
    | succ g1 =>
      have hkz : (k : Int) < (Z : Int) := by omega
      have hk2 : k < Z := by omega
      have hk3 : fr < 64 * (k + 1) := by omega
      have HJ := Lib.hid hj
      clear hj S mb fb tb
      by_cases hc : fr ≤ 64 * k
      all_goals
        go_wp2
        go_loopg [5] (64 - (fr - 64 * k)) (fun g2 s5 wr => ∃ i : Nat, i + g2 = 64 ∧ fr ≤ 64 * k + i ∧ s5 = .int .i64 i ∧ J (sets ws fr (64 * k + i)) wr)
        case atStart =>
          have := HJ.out
          rw [show max fr (64 * k) = 64 * k + (fr - 64 * k) from by omega] at this
          exact ⟨fr - 64 * k, by omega, by omega, congrArg (Value.int .i64) (by omega), this⟩
        case round =>
          obtain ⟨i, hig, hi1, rfl, hj⟩ := hrel
          obtain ⟨S, mb, fb, tb⟩ := HSt.out _ _ hj
          have y0 : wr.cell? ⟨bm, 0, none⟩ = some (.pointer (some ⟨g, 0, none⟩)) := mb.cell 0
          have y2 := S.c1
          have y3 := S.word (i := k) (by rw [HZ.out]; exact hk2)
          have hxl := S.lt k
          rw [HZ.out] at y2
          have HJ2 := Lib.hid hj
          have HT := Lib.hid tb
          clear HJ y1 hj S mb fb tb
          obtain ⟨x, hx⟩ : ∃ x, ws.getD k 0 = x := ⟨_, rfl⟩
          have HX := Lib.hid hx
          rw [hx] at y3 hxl
          clear hx
          obtain ⟨r, hr⟩ : ∃ r, x / 2 ^ i = r := ⟨_, rfl⟩
          have hr' : (x : Int) / 2 ^ i = (r : Int) := by rw [← hr]; simp
          have HRr := Lib.hid hr
          have hrl : r < 18446744073709551616 := by rw [← hr]; exact part_lt x i hxl
          clear hr
          by_cases hr0 : r = 0
          · have d1 : ((r : Int) == 0) = true := by simp [hr0]
            clear HT
            go_wp2
            go_roundg g1
            case measure => omega
            case rel =>
              refine ⟨k + 1, by omega, by omega, by go_num, ?_⟩
              have e := sets_skip ws fr (64 * k + i) (64 * (k + 1)) hi1 (by omega) (part_zero ws k i (by rw [HX.out, HRr.out, hr0]))
              rw [show max fr (64 * (k + 1)) = 64 * (k + 1) from by omega, e]
              exact HJ2.out
          · have d1 : ((r : Int) == 0) = false := by simp [hr0]
            have hin : i + Lib.ctz 64 r < 64 := by rw [← HRr.out]; exact part_in x i hxl (by rw [HRr.out]; exact hr0)
            obtain ⟨q1, q2, q3⟩ := first_bit r hr0 hrl
            obtain ⟨t, ht⟩ : ∃ t, Lib.ctz 64 r = t := ⟨_, rfl⟩
            rw [ht] at hin q1 q2 q3
            have hnx : sets ws fr (64 * k + i + t + 1) = sets ws fr (64 * k + i) ++ [64 * k + i + t] := by
              refine sets_next ws fr (64 * k + i) (64 * k + i + t) hi1 (by omega) (fun q hq1 hq2 => ?_) ?_
              · have e := bit_part ws k i (q - (64 * k + i)) (by omega)
                rw [show 64 * k + i + (q - (64 * k + i)) = q from by omega, HX.out, HRr.out, q3 _ (by omega)] at e
                exact e
              · rw [bit_part ws k i t hin, HX.out, HRr.out]; exact q2
            have hpre : sets ws fr (64 * k + i) ++ [64 * k + i + t] <+: L := by
              rw [← hnx, ← HL.out, HZ.out]
              exact sets_pre ws fr _ _ (by omega) (by omega)
            have HC0 := HY.out _ _ wr hpre HJ2.out
            have epl : ((64 * k + i + t : Nat) : Int) = (k : Int) * 64 + ((i : Int) + (t : Int)) := by omega
            rw [epl] at HC0
            have HC := Lib.hid HC0
            have HNx := Lib.hid hnx
            have HPre := Lib.hid hpre
            have HTt := Lib.hid ht
            clear HC0 hnx hpre ht q2 q3 HJ2 epl
            go_wp2_with fail
            refine (tz_any _ r rfl hrl hr0 _ HT.out).mono ?_
            rintro e w1 ⟨rfl, rfl⟩
            rw [HTt.out]
            clear HT
            go_wp2_with fail
            refine HC.out.mono ?_
            rintro e w3 (⟨rfl, hj3⟩ | ⟨rfl, hx3⟩)
            · clear HC y0 y2 y3
              go_wp2
              go_roundg (64 - (i + t + 1))
              case measure => omega
              case rel =>
                refine ⟨i + t + 1, by omega, by omega, by go_num, ?_⟩
                rw [show 64 * k + (i + t + 1) = 64 * k + i + t + 1 from by omega, HNx.out]
                exact hj3
            · clear HC y0 y2 y3
              go_wp2
              rw [Exit.noGoto_normal]
              go_end0
              exact ⟨rfl, .inr ⟨_, _, HPre.out, hx3⟩⟩
end Go.Proofs.YtiomiaciaefbaaaDoor
