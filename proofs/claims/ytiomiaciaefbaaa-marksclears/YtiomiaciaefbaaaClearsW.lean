/- MarksClears. -/
import Derived.Test.YtiomiaciaefbaaaOnceW
namespace Go.Proofs.Ytiomiaciaefbaaa
open Go.RowKit
set_option linter.unusedVariables false
set_option linter.unusedSimpArgs false

set_option maxRecDepth 100000 in
set_option maxHeartbeats 1000000 in
theorem clears_far (s : Int) (A A' : Option Addr) (c l c' l' : Nat) (w : World) (hs : 0 ≤ s ∧ s ≤ 255) (hl : 100 < l ∨ 100 < l' ∨ s = 0) : Calls Try.prog 5 #[.int .u8 s, .slice A l c, .slice A' l' c'] w fun e w' => e = .returned (.bool true) ∧ Below w.heap.size w w' := by
  obtain ⟨s0, s1⟩ := hs
  by_cases h1 : 100 < l
  · have d1 : decide ((100 : Int) < (l : Int)) = true := by simp; omega
    go_enter Try.func5, Try.ntmps5
    go_wp2_with fail
    refine (awake_any _).mono ?_
    rintro e w1 ⟨rfl, B1⟩
    go_wp2_with fail
    refine (awake_any _).mono ?_
    rintro e w2 ⟨rfl, B2⟩
    have HB := Lib.hid (on B1 B1.size B2)
    clear B1 B2
    go_wp2
    go_ret
    exact ⟨rfl, HB.out⟩
  have d1 : decide ((100 : Int) < (l : Int)) = false := by simp; omega
  by_cases h2 : 100 < l'
  · have d2 : decide ((100 : Int) < (l' : Int)) = true := by simp; omega
    go_enter Try.func5, Try.ntmps5
    go_wp2_with fail
    refine (awake_any _).mono ?_
    rintro e w1 ⟨rfl, B1⟩
    go_wp2_with fail
    refine (awake_any _).mono ?_
    rintro e w2 ⟨rfl, B2⟩
    have HB := Lib.hid (on B1 B1.size B2)
    clear B1 B2
    go_wp2
    go_ret
    exact ⟨rfl, HB.out⟩
  · have d2 : decide ((100 : Int) < (l' : Int)) = false := by simp; omega
    obtain rfl : s = 0 := by omega
    go_enter Try.func5, Try.ntmps5
    go_wp2_with fail
    refine (awake_any _).mono ?_
    rintro e w1 ⟨rfl, B1⟩
    go_wp2_with fail
    refine (awake_any _).mono ?_
    rintro e w2 ⟨rfl, B2⟩
    have HB := Lib.hid (on B1 B1.size B2)
    clear B1 B2
    go_wp2
    go_ret
    exact ⟨rfl, HB.out⟩

/-- Two maps, apart from each other. -/
structure Two (w wr : World) (g gw g' gw' n : Nat) (ws ws' : List Nat) : Prop where
  a : At wr g gw n ws
  b : At wr g' gw' n ws'
  n1 : g ≠ g'
  n2 : g ≠ gw'
  n3 : gw ≠ g'
  n4 : gw ≠ gw'
  l1 : w.heap.size ≤ g
  l2 : w.heap.size ≤ gw
  l3 : w.heap.size ≤ g'
  l4 : w.heap.size ≤ gw'
  old : Below w.heap.size w wr
theorem Two.left {w wr wr' : World} {g gw g' gw' n : Nat} {ws ws' ws2 : List Nat} (h : Two w wr g gw g' gw' n ws ws') (k : At wr' g gw n ws2) (e : Else g gw wr wr') : Two w wr' g gw g' gw' n ws2 ws' :=
  ⟨k, h.b.far e h.n1.symm h.n3.symm h.n2.symm h.n4.symm, h.n1, h.n2, h.n3, h.n4, h.l1, h.l2, h.l3, h.l4, h.old.trans (h.a.low e h.l1 h.l2)⟩
theorem Two.right {w wr wr' : World} {g gw g' gw' n : Nat} {ws ws' ws2 : List Nat} (h : Two w wr g gw g' gw' n ws ws') (k : At wr' g' gw' n ws2) (e : Else g' gw' wr wr') : Two w wr' g gw g' gw' n ws ws2 :=
  ⟨h.a.far e h.n1 h.n2 h.n3 h.n4, k, h.n1, h.n2, h.n3, h.n4, h.l1, h.l2, h.l3, h.l4, h.old.trans (h.b.low e h.l3 h.l4)⟩
theorem Two.drewN {w wr : World} {g gw g' gw' n : Nat} {ws ws' : List Nat} (h : Two w wr g gw g' gw' n ws ws') (k : Nat) : Two w (wr.drewN k) g gw g' gw' n ws ws' :=
  ⟨h.a.drewN k, h.b.drewN k, h.n1, h.n2, h.n3, h.n4, h.l1, h.l2, h.l3, h.l4, on h.old h.old.size (below_drewN wr k)⟩

set_option maxRecDepth 100000 in
set_option maxHeartbeats 2000000 in
theorem clears_near (n : Nat) (A A' : Option Addr) (c c' : Nat) (zs ys : List Int) (w : World) (h1 : 1 ≤ n) (h2 : n ≤ 255) (hl : zs.length ≤ 100) (hl' : ys.length ≤ 100) (hr : Row .u8 w A zs) (hz : ∀ z ∈ zs, 0 ≤ z ∧ z ≤ 255) (hr' : Row .u8 w A' ys) (hz' : ∀ z ∈ ys, 0 ≤ z ∧ z ≤ 255) :
    Calls Try.prog 5 #[.int .u8 (n : Int), .slice A zs.length c, .slice A' ys.length c'] w fun e w' => e = .returned (.bool true) ∧ Below w.heap.size w w' := by
  have d1 : decide ((100 : Int) < (zs.length : Int)) = false := by simp; omega
  have d1' : decide ((100 : Int) < (ys.length : Int)) = false := by simp; omega
  have d2 : ((n : Int) == 0) = false := by simp; omega
  have HR := Lib.hid hr
  have HZ := Lib.hid hz
  have HR' := Lib.hid hr'
  have HZ' := Lib.hid hz'
  clear hr hz hr' hz'
  go_enter Try.func5, Try.ntmps5
  go_wp2_with fail
  refine (awake_any _).mono ?_
  rintro e w1 ⟨rfl, B1⟩
  have HB1 := Lib.hid B1
  clear B1
  go_wp2_with fail
  refine (new_yes _ n rfl w1 (by omega) (by omega)).mono ?_
  rintro e w2 ⟨g, gw, rfl, B2, q1, q2, H2⟩
  have HB2 := Lib.hid B2
  have HH2 := Lib.hid H2
  clear B2 H2
  go_wp2_with fail
  refine (new_yes _ n rfl w2 (by omega) (by omega)).mono ?_
  rintro e w3 ⟨g', gw', rfl, B3, q3, q4, H3⟩
  have HT : Hid (Two w w3 g gw g' gw' n (List.replicate ((n + 63) / 64) 0) (List.replicate ((n + 63) / 64) 0)) := Lib.hid (by
    have := HH2.out.own.lt
    have := HH2.out.words.lt
    have := HB1.out.size
    have := HB2.out.size
    exact ⟨HH2.out.kept B3, H3, by omega, by omega, by omega, by omega, by omega, by omega, by omega, by omega, on (on HB1.out HB1.out.size HB2.out) (by omega) B3⟩)
  clear B3 H3 HB1 HB2 HH2
  go_wp2
  go_loopw [65] (fun i wr => ∃ (j : Nat) (ws : List Nat), j ≤ zs.length ∧ i = .int .i64 j ∧ Two w wr g gw g' gw' n ws (List.replicate ((n + 63) / 64) 0)) (fun i _ => zs.length - (intOf i).toNat)
  case atStart => exact ⟨0, _, Nat.zero_le _, rfl, HT.out⟩
  case round =>
    obtain ⟨j, ws, hj, rfl, H⟩ := hrel
    have HH := Lib.hid H
    clear H HT
    by_cases hjl : j < zs.length
    · obtain ⟨ad, rfl, c0⟩ := (HR.out.kept HH.out.old).at_ hjl
      have hb := HZ.out zs[j] (List.getElem_mem hjl)
      generalize zs[j] = z at c0 hb
      obtain ⟨hb0, hb1⟩ := hb
      obtain ⟨p, hzp, hpn⟩ := rem_place z n hb0 h1
      go_wp2_with fail
      refine (set_yes HH.out.a p hpn).mono ?_
      rintro e w5 ⟨rfl, H5, E5⟩
      have HH5 := Lib.hid (HH.out.left H5 E5)
      clear H5 E5 c0 HH
      go_wp2
      exact ⟨⟨j + 1, _, by omega, by go_num, HH5.out⟩, by simp [intOf]; omega⟩
    · have hj' : j = zs.length := by omega
      subst hj'
      go_wp2_with fail
      refine (clear_any HH.out.a).mono ?_
      rintro e w5 ⟨rfl, H5, E5⟩
      have HH5 := Lib.hid (HH.out.left H5 E5)
      clear H5 E5 HH
      go_wp2
      go_loopw [81] (fun i wr => ∃ (j : Nat) (ws : List Nat), j ≤ ys.length ∧ i = .int .i64 j ∧ Two w wr g gw g' gw' n ws ws) (fun i _ => ys.length - (intOf i).toNat)
      case atStart => exact ⟨0, _, Nat.zero_le _, rfl, HH5.out⟩
      case round =>
        obtain ⟨j, ws, hj, rfl, H⟩ := hrel
        have HH := Lib.hid H
        clear H HH5
        by_cases hjl : j < ys.length
        · obtain ⟨ad, rfl, c0⟩ := (HR'.out.kept HH.out.old).at_ hjl
          have hb := HZ'.out ys[j] (List.getElem_mem hjl)
          generalize ys[j] = z at c0 hb
          obtain ⟨hb0, hb1⟩ := hb
          obtain ⟨p, hzp, hpn⟩ := rem_place z n hb0 h1
          obtain ⟨b, hbit⟩ : ∃ b, (!bit ws p) = b := ⟨_, rfl⟩
          have HBit := Lib.hid hbit
          clear hbit
          go_wp2_with fail
          refine (set_yes HH.out.a p hpn).mono ?_
          rintro e w6 ⟨rfl, H6, E6⟩
          have HH6 := Lib.hid (HH.out.left H6 E6)
          rw [HBit.out]
          clear H6 E6 c0 HH
          go_wp2_with fail
          refine (set_yes HH6.out.b p hpn).mono ?_
          rintro e w7 ⟨rfl, H7, E7⟩
          have HH7 := Lib.hid (HH6.out.right H7 E7)
          rw [HBit.out]
          clear H7 E7 HH6
          cases b <;>
          · go_wp2
            exact ⟨⟨j + 1, _, by omega, by go_num, HH7.out⟩, by simp [intOf]; omega⟩
        · have hj' : j = ys.length := by omega
          subst hj'
          go_wp2
          go_loopw [111] (fun i wr => ∃ (j : Nat), j ≤ n ∧ i = .int .i64 j ∧ Two w wr g gw g' gw' n ws ws) (fun i _ => n - (intOf i).toNat)
          case atStart => exact ⟨0, Nat.zero_le _, rfl, HH.out⟩
          case round =>
            obtain ⟨j, hj, rfl, H⟩ := hrel
            have HH8 := Lib.hid H
            clear H HH
            by_cases hjl : j < n
            · obtain ⟨b, hbit⟩ : ∃ b, bit ws j = b := ⟨_, rfl⟩
              have HBit := Lib.hid hbit
              clear hbit
              go_wp2_with fail
              refine (has_yes HH8.out.a j hjl).mono ?_
              rintro e w9 ⟨rfl, m9, rfl⟩
              have HH9 := Lib.hid (HH8.out.drewN m9)
              rw [HBit.out]
              clear HH8
              generalize wr.drewN m9 = w9 at HH9 ⊢
              go_wp2_with fail
              refine (has_yes HH9.out.b j hjl).mono ?_
              rintro e w10 ⟨rfl, m10, rfl⟩
              have HH10 := Lib.hid (HH9.out.drewN m10)
              rw [HBit.out]
              clear HH9
              generalize w9.drewN m10 = w10 at HH10 ⊢
              cases b <;>
              · go_wp2
                exact ⟨⟨j + 1, by omega, by go_num, HH10.out⟩, by simp [intOf]; omega⟩
            · have hj' : j = n := by omega
              subst hj'
              go_wp2_with fail
              refine (size_any HH8.out.a).mono ?_
              rintro e w11 ⟨rfl, rfl⟩
              go_wp2
              go_ret
              exact ⟨ret_bool (by simp), HH8.out.old⟩

theorem clears_walk (s : Int) (hs : 0 ≤ s ∧ s ≤ 255) (A A' : Option Addr) (l c l' c' : Nat) (w : World) (hr : ∃ zs, Came .u8 w A l zs) (hr' : ∃ zs, Came .u8 w A' l' zs) :
    Calls Try.prog 5 #[.int .u8 s, .slice A l c, .slice A' l' c'] w fun e w' => e = .returned (.bool true) ∧ Below w.heap.size w w' := by
  obtain ⟨zs, rfl, h1, h2⟩ := hr
  obtain ⟨ys, rfl, h3, h4⟩ := hr'
  by_cases h : 100 < zs.length ∨ 100 < ys.length ∨ s = 0
  · exact clears_far s A A' c _ c' _ w hs h
  · obtain ⟨n, rfl⟩ := Int.eq_ofNat_of_zero_le hs.1
    exact clears_near n A A' c c' zs ys w (by omega) (by omega) (by omega) (by omega) h1 h2 h3 h4
end Go.Proofs.Ytiomiaciaefbaaa
