/- MarksOnce. -/
import Derived.Test.YtiomiaciaefbaaaAwake
namespace Go.Proofs.Ytiomiaciaefbaaa
open Go.RowKit
set_option linter.unusedVariables false
set_option linter.unusedSimpArgs false

theorem cnt_set (f : Nat → Bool) (p : Nat) : ∀ n, cnt (fun q => decide (q = p) || f q) n = if p < n then cnt f n + (!f p).toNat else cnt f n
  | 0 => rfl
  | n + 1 => by
    rw [cnt_succ, cnt_set f p n, cnt_succ]
    by_cases h : p < n
    · rw [if_pos h, if_pos (by omega)]
      have : ¬ n = p := by omega
      simp [this]; omega
    · rw [if_neg h]
      by_cases h2 : n = p
      · subst h2
        rw [if_pos (by omega)]
        cases f n <;> simp
      · rw [if_neg (by omega)]
        simp [h2]
theorem span_set (ws : List Nat) (p n : Nat) (hp : p / 64 < ws.length) (hn : p < n) : span (bit (setW ws p)) 0 n = span (bit ws) 0 n + (!bit ws p).toNat := by
  rw [span_zero, span_zero]
  have : cnt (bit (setW ws p)) n = cnt (fun q => decide (q = p) || bit ws q) n := cnt_congr n fun i _ => bit_set ws p i hp
  rw [this, cnt_set, if_pos hn]
theorem span_new (m n : Nat) : span (bit (List.replicate m 0)) 0 n = 0 := by
  rw [span_zero]; exact cnt_none n fun i _ => bit_new m i
theorem bit_same (ws : List Nat) (p : Nat) (hp : p / 64 < ws.length) : bit (setW ws p) p = true := by rw [bit_set ws p p hp]; simp

set_option maxRecDepth 100000 in
set_option maxHeartbeats 1000000 in
theorem once_far (s : Int) (A : Option Addr) (c l : Nat) (w : World) (hs : 0 ≤ s ∧ s ≤ 255) (hl : 200 < l ∨ s = 0) : Calls Try.prog 4 #[.int .u8 s, .slice A l c] w fun e w' => e = .returned (.bool true) ∧ Below w.heap.size w w' := by
  obtain ⟨s0, s1⟩ := hs
  by_cases h1 : 200 < l
  · have d1 : decide ((200 : Int) < (l : Int)) = true := by simp; omega
    go_enter Try.func4, Try.ntmps4
    go_wp2_with fail
    refine (awake_any _).mono ?_
    rintro e w1 ⟨rfl, B1⟩
    go_wp2_with fail
    refine (awake_any _).mono ?_
    rintro e w2 ⟨rfl, B2⟩
    have HB := Lib.hid (on B1 B1.size B2)
    clear B1 B2
    go_wp2
    go_ret
    exact ⟨rfl, HB.out⟩
  · have d1 : decide ((200 : Int) < (l : Int)) = false := by simp; omega
    obtain rfl : s = 0 := by omega
    go_enter Try.func4, Try.ntmps4
    go_wp2_with fail
    refine (awake_any _).mono ?_
    rintro e w1 ⟨rfl, B1⟩
    go_wp2_with fail
    refine (awake_any _).mono ?_
    rintro e w2 ⟨rfl, B2⟩
    have HB := Lib.hid (on B1 B1.size B2)
    clear B1 B2
    go_wp2
    go_ret
    exact ⟨rfl, HB.out⟩

set_option maxRecDepth 100000 in
set_option maxHeartbeats 2000000 in
theorem once_near (n : Nat) (A : Option Addr) (c : Nat) (zs : List Int) (w : World) (h1 : 1 ≤ n) (h2 : n ≤ 255) (hl : zs.length ≤ 200) (hr : Row .u8 w A zs) (hz : ∀ z ∈ zs, 0 ≤ z ∧ z ≤ 255) :
    Calls Try.prog 4 #[.int .u8 (n : Int), .slice A zs.length c] w fun e w' => e = .returned (.bool true) ∧ Below w.heap.size w w' := by
  have d1 : decide ((200 : Int) < (zs.length : Int)) = false := by simp; omega
  have d2 : ((n : Int) == 0) = false := by simp; omega
  have HR := Lib.hid hr
  have HZ := Lib.hid hz
  clear hr hz
  go_enter Try.func4, Try.ntmps4
  go_wp2_with fail
  refine (awake_any _).mono ?_
  rintro e w1 ⟨rfl, B1⟩
  have HB1 := Lib.hid B1
  clear B1
  go_wp2_with fail
  refine (new_yes _ n rfl w1 (by omega) (by omega)).mono ?_
  rintro e w2 ⟨g, gw, rfl, B2, q1, q2, H2⟩
  have q3 := HB1.out.size
  have B3 := Lib.hid (on HB1.out HB1.out.size B2)
  have HH3 := Lib.hid H2
  clear B2 H2 HB1
  go_wp2
  go_loopw [7, 42] (fun k i wr => ∃ (j c : Nat) (ws : List Nat), j ≤ zs.length ∧ i = .int .i64 j ∧ k = .int .i64 c ∧ c ≤ n ∧ span (bit ws) 0 n = c ∧ At wr g gw n ws ∧ Below w.heap.size w wr) (fun _ i _ => zs.length - (intOf i).toNat)
  case atStart => exact ⟨0, 0, _, Nat.zero_le _, rfl, rfl, Nat.zero_le _, span_new _ _, HH3.out, B3.out⟩
  case round =>
    obtain ⟨j, k, ws, hj, rfl, rfl, hkn, hk, H, B⟩ := hrel
    have HK := Lib.hid hk
    have HH := Lib.hid H
    have HB := Lib.hid B
    clear hk H B HH3 B3
    by_cases hjl : j < zs.length
    · obtain ⟨ad, rfl, c0⟩ := (HR.out.kept HB.out).at_ hjl
      have hb := HZ.out zs[j] (List.getElem_mem hjl)
      generalize zs[j] = z at c0 hb
      obtain ⟨hb0, hb1⟩ := hb
      obtain ⟨p, hzp, hpn⟩ := rem_place z n hb0 h1
      have hpl := HH.out.place hpn
      have HPL := Lib.hid hpl
      clear hpl
      go_wp2_with fail
      refine (has_yes HH.out p hpn).mono ?_
      rintro e w4 ⟨rfl, m4, rfl⟩
      have HH4 := Lib.hid (HH.out.drewN m4)
      have B4 := Lib.hid (on HB.out HB.out.size (below_drewN wr m4))
      obtain ⟨b, hbit⟩ : ∃ b, bit ws p = b := ⟨_, rfl⟩
      have HBit := Lib.hid hbit
      rw [hbit]
      clear hbit HB HH c0
      generalize wr.drewN m4 = w4 at HH4 B4 ⊢
      go_wp2_with fail
      refine (set_yes HH4.out p hpn).mono ?_
      rintro e w5 ⟨rfl, H5, E5⟩
      have B5 := Lib.hid (B4.out.trans (HH4.out.low E5 (by omega) (by omega)))
      have HH5 := Lib.hid H5
      have HS := Lib.hid (span_set ws p n HPL.out hpn)
      rw [HBit.out] at HS ⊢
      rw [HK.out] at HS
      clear H5 E5 B4 HH4
      cases b with
      | true =>
        go_wp2_with fail
        refine (has_yes HH5.out p hpn).mono ?_
        rintro e w6 ⟨rfl, m6, rfl⟩
        rw [bit_same ws p HPL.out]
        have HH6 := Lib.hid (HH5.out.drewN m6)
        have B6 := Lib.hid (on B5.out B5.out.size (below_drewN w5 m6))
        clear B5 HH5
        generalize w5.drewN m6 = w6 at HH6 B6 ⊢
        go_wp2_with fail
        refine (count_yes HH6.out 0 n (by omega) (by omega)).mono ?_
        rintro e w7 ⟨rfl, rfl⟩
        have hs : span (bit (setW ws p)) 0 n = k := by rw [HS.out]; simp
        have HSp := Lib.hid hs
        rw [hs]
        clear hs
        go_wp2
        exact ⟨⟨j + 1, k, _, by omega, by go_num, rfl, hkn, HSp.out, HH6.out, B6.out⟩, by simp [intOf]; omega⟩
      | false =>
        go_wp2_with fail
        refine (has_yes HH5.out p hpn).mono ?_
        rintro e w6 ⟨rfl, m6, rfl⟩
        rw [bit_same ws p HPL.out]
        have HH6 := Lib.hid (HH5.out.drewN m6)
        have B6 := Lib.hid (on B5.out B5.out.size (below_drewN w5 m6))
        clear B5 HH5
        generalize w5.drewN m6 = w6 at HH6 B6 ⊢
        go_wp2_with fail
        refine (count_yes HH6.out 0 n (by omega) (by omega)).mono ?_
        rintro e w7 ⟨rfl, rfl⟩
        have hs : span (bit (setW ws p)) 0 n = k + 1 := by rw [HS.out]; rfl
        have hle := span_le (bit (setW ws p)) 0 n
        have HSp := Lib.hid hs
        rw [hs] at hle ⊢
        clear hs
        go_wp2
        exact ⟨⟨j + 1, k + 1, _, by omega, by go_num, by go_num, by omega, HSp.out, HH6.out, B6.out⟩, by simp [intOf]; omega⟩
    · have hj' : j = zs.length := by omega
      subst hj'
      go_wp2
      go_ret
      exact ⟨rfl, HB.out⟩

theorem once_walk (s : Int) (hs : 0 ≤ s ∧ s ≤ 255) (A : Option Addr) (l c : Nat) (w : World) (hr : ∃ zs, Came .u8 w A l zs) :
    Calls Try.prog 4 #[.int .u8 s, .slice A l c] w fun e w' => e = .returned (.bool true) ∧ Below w.heap.size w w' := by
  obtain ⟨zs, rfl, h1, h2⟩ := hr
  by_cases h : 200 < zs.length ∨ s = 0
  · exact once_far s A c _ w hs h
  · obtain ⟨n, rfl⟩ := Int.eq_ofNat_of_zero_le hs.1
    exact once_near n A c zs w (by omega) (by omega) (by omega) h1 h2
end Go.Proofs.Ytiomiaciaefbaaa
