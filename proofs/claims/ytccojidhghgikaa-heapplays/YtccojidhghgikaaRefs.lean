/- The walk of HeapRefs. -/
import Derived.Test.YtccojidhghgikaaClean
import Derived.Test.YtccojidhghgikaaFulls
namespace Go.Proofs.Ytccojidhghgikaa
open Go.RowKit Go.Sort
set_option linter.unusedVariables false
set_option linter.unusedSimpArgs false

theorem words_z {w : World} {g gw gb : Nat} {obs : List Ob} {tail : List Int} (S : St w g gw gb obs tail) (Z : Nat) (hZ : (flat obs ++ tail).length = Z) :
    Calls Try.prog 31 #[.pointer (some ⟨g, 0, none⟩)] w fun e w' => e = .returned (.slice (some ⟨w.heap.size, 0, none⟩) Z Z) ∧ Lies w' w.heap.size 3 ((flat obs ++ tail).map (Value.int .i64)) ∧ Below w.heap.size w w' := by
  subst hZ
  exact words_any S.lies

theorem of_z {w : World} {obs : List Ob} {tail : List Int} (A : Option Addr) (c Z N : Nat) (hf : Fine obs) (hr : Row w A (flat obs ++ tail)) (hZ : (flat obs ++ tail).length = Z) (hN : (flat obs).length = N) (h1 : 1 ≤ Z) (h2 : Z ≤ 65536) :
    Calls Try.prog 29 #[.slice A Z c, .int .i64 N] w fun e w' => ∃ g gw gb, e = .returned (.tuple #[.pointer (some ⟨g, 0, none⟩), .int .i64 0]) ∧ Below w.heap.size w w' ∧ St w' g gw gb obs tail := by
  subst hZ hN
  have ht : (flat obs ++ tail).take (flat obs).length = flat obs := by simp
  refine (of_yes A c (flat obs).length (flat obs ++ tail) w hr h1 h2 (by simp) (by rw [ht]; exact ⟨obs, hf, rfl⟩)).mono ?_
  rintro e w' ⟨g, gw, gb, obs', he, hb, _, _, _, hf', hfl, H⟩
  rw [ht] at hfl
  obtain rfl := flat_uniq hf' hf hfl
  exact ⟨g, gw, gb, he, hb, hf, by simpa using H⟩

theorem check_0 {w : World} {g gw gb : Nat} {obs : List Ob} {tail : List Int} (S : St w g gw gb obs tail) (hc : Clean obs) :
    Calls Try.prog 38 #[.pointer (some ⟨g, 0, none⟩)] w fun e w' => e = .returned (.int .i64 0) ∧ Below w.heap.size w w' := by
  have h := check_any S hc.within
  rw [hc.check] at h
  exact h

set_option maxHeartbeats 1000000 in
theorem refs_out (s : Int) (B : Option Addr) (m c : Nat) (w : World) (h : 60 < m ∨ s = 0) :
    Calls Try.prog 11 #[.int .u8 s, .slice B m c] w fun e w' => e = .returned (.bool true) ∧ Below w.heap.size w w' := by
  have h1 : decide ((60 : Int) < (m : Int)) = true ∨ (decide ((60 : Int) < (m : Int)) = false ∧ (s == 0) = true) := by
    by_cases h2 : 60 < m
    · left; simp; omega
    · right; refine ⟨by simp; omega, ?_⟩
      rcases h with h | h
      · omega
      · simp [h]
  clear h
  rcases h1 with d1 | ⟨d1, d2⟩
  all_goals
    go_enter Try.func11, Try.ntmps11
    go_wp2_with fail
    refine (awake_any _).mono ?_
    rintro e w1 ⟨rfl, hb1⟩
    go_wp2_with fail
    refine (awake_any _).mono ?_
    rintro e w2 ⟨rfl, hb2⟩
    go_wp2
    go_ret
    exact ⟨rfl, on hb1 hb1.size hb2⟩

set_option maxRecDepth 100000 in
set_option maxHeartbeats 1000000 in
theorem refs_yes (s : Nat) (B : Option Addr) (c : Nat) (ds : List Deed) (w : World) (hs : 1 ≤ s) (hs' : s ≤ 255) (h2 : ds.length ≤ 60) (hd : Deeds w B ds) (hfit : ∀ d ∈ ds, d.fit) :
    Calls Try.prog 11 #[.int .u8 (s : Int), .slice B ds.length c] w fun e w' => e = .returned (.bool true) ∧ Below w.heap.size w w' := by
  have d1 : decide ((60 : Int) < (ds.length : Int)) = false := by simp; omega
  have s0 : ((s : Int) == 0) = false := by rw [beq_eq_false_iff_ne]; omega
  have HD := Lib.hid hd
  have HF := Lib.hid hfit
  clear hd hfit
  have hnil := fun W g => nil_ne W g
  go_enter Try.func11, Try.ntmps11
  go_wp2_with fail
  refine (awake_any _).mono ?_
  rintro e w1 ⟨rfl, hb1⟩
  go_wp2_with fail
  refine (new_st s w1 hs (by omega)).mono ?_
  rintro e w2 ⟨g, gw, gb, rfl, hb2, q1, q2, q3, S2⟩
  have B2 := on hb1 hb1.size hb2
  have q1' : w.heap.size ≤ g := by have := hb1.size; omega
  have q2' : w.heap.size ≤ gw := by have := hb1.size; omega
  have q3' : w.heap.size ≤ gb := by have := hb1.size; omega
  clear hb1 hb2 q1 q2 q3
  go_wp2
  go_loopw [37, 8] (fun i _ wr => ∃ (j : Nat) (obs : List Ob) (tail : List Int), j ≤ ds.length ∧ i = .int .i64 j ∧ St wr g gw gb obs tail ∧ Clean obs ∧ Below w.heap.size w wr) (fun i _ _ => ds.length - (intOf i).toNat)
  case atStart => exact ⟨0, [], List.replicate s 0, Nat.zero_le _, rfl, S2, clean_nil, B2⟩
  case round =>
    obtain ⟨j, obs, tail, hj, rfl, S, HC, BB⟩ := hrel
    by_cases hjl : j < ds.length
    · obtain ⟨ad, rfl, c0, c1, c2, c3, c4, c5, c6⟩ := HD.out.at_ hjl wr BB
      have hft := HF.out ds[j] (List.getElem_mem hjl)
      generalize ds[j] = d at c0 c1 c2 c3 c4 c5 c6 hft
      obtain ⟨kd, k, l, p, a, f, v⟩ := d
      obtain ⟨⟨hk0, hk1⟩, hv0, hv1⟩ := hft
      simp only at c0 c1 c2 c3 c4 c5 c6 hv0 hv1 hk0 hk1
      have j0 : (0 : Int) ≤ (j : Int) := by omega
      have j1 : (j : Int) < (ds.length : Int) := by omega
      have ng : wr.heap.size ≠ g ∧ wr.heap.size ≠ gw ∧ wr.heap.size ≠ gb := by have h1 := S.lies.own.lt; have h2 := S.lies.words.lt; have h3 := S.lies.begins.lt; omega
      have S0 : St (wr.alloc (.cells #[.int .u8 kd, .int .i64 k, .int .i64 l, .int .i64 p, .int .i64 a, .int .i64 f, .int .i64 v] 43)) g gw gb obs tail := ⟨S.fine, S.lies.alloc _⟩
      have B0 : Below w.heap.size w (wr.alloc (.cells #[.int .u8 kd, .int .i64 k, .int .i64 l, .int .i64 p, .int .i64 a, .int .i64 f, .int .i64 v] 43)) := BB.alloc BB.size _
      have hkd : kd % 3 = 0 ∨ kd % 3 = 1 ∨ kd % 3 = 2 := by omega
      rcases hkd with hkd | hkd | hkd
      · go_wp2_with fail
        refine (place_st S0 k l p).mono ?_
        rintro e w3 ⟨rfl, S3, E3⟩
        have C3 := clean_place (tail := tail) (k := k) (l := l) (p := p) HC
        have B3 : Below w.heap.size w w3 := B0.trans (E3.below B0.size q1' q2' q3')
        generalize placeF obs tail k l p = R at *
        obtain ⟨r1, e1, obs2, tail2⟩ := R
        simp only at S3 C3 ⊢
        clear c0 c1 c2 c3 c4 c5 c6 S0 B0 E3 ng S HC BB
        go_wp2_with fail
        refine (check_0 S3 C3).mono ?_
        rintro e w4 ⟨rfl, hb4⟩
        go_wp2
        exact ⟨⟨j + 1, _, _, by omega, by go_num, S3.kept hb4, C3, on B3 B3.size hb4⟩, by simp [intOf]; omega⟩
      · go_wp2_with fail
        refine (split_st S0 a k l p).mono ?_
        rintro e w3 ⟨rfl, S3, E3⟩
        have C3 := clean_split (a := a) (k := k) (l := l) (p := p) S.fine HC
        have B3 : Below w.heap.size w w3 := B0.trans (E3.below B0.size q1' q2' q3')
        generalize splitF obs a k l p = R at *
        obtain ⟨r1, e1, obs2⟩ := R
        simp only at S3 C3 ⊢
        clear c0 c1 c2 c3 c4 c5 c6 S0 B0 E3 ng S HC BB
        go_wp2_with fail
        refine (check_0 S3 C3).mono ?_
        rintro e w4 ⟨rfl, hb4⟩
        go_wp2
        exact ⟨⟨j + 1, _, _, by omega, by go_num, S3.kept hb4, C3, on B3 B3.size hb4⟩, by simp [intOf]; omega⟩
      · go_wp2_with fail
        refine (write_st S0 a f v hv0 hv1).mono ?_
        rintro e w3 ⟨rfl, S3, E3⟩
        have C3 := clean_write (a := a) (f := f) (v := v) HC ⟨hv0, hv1⟩
        have B3 : Below w.heap.size w w3 := B0.trans (E3.below B0.size q1' q2' q3')
        generalize writeF obs a f v = R at *
        obtain ⟨e1, obs2⟩ := R
        simp only at S3 C3 ⊢
        clear c0 c1 c2 c3 c4 c5 c6 S0 B0 E3 ng S HC BB
        go_wp2_with fail
        refine (check_0 S3 C3).mono ?_
        rintro e w4 ⟨rfl, hb4⟩
        go_wp2
        exact ⟨⟨j + 1, _, _, by omega, by go_num, S3.kept hb4, C3, on B3 B3.size hb4⟩, by simp [intOf]; omega⟩
    · obtain ⟨Z, hZ⟩ : ∃ Z, (flat obs ++ tail).length = Z := ⟨_, rfl⟩
      obtain ⟨N, hN⟩ : ∃ N, (flat obs).length = N := ⟨_, rfl⟩
      have hz1 : 1 ≤ Z := by rw [← hZ]; exact S.lies.some_
      have hz2 : Z ≤ 65536 := by rw [← hZ]; exact S.lies.most
      have HZ := Lib.hid hZ
      have HN := Lib.hid hN
      clear hZ hN
      go_wp2_with fail
      refine (words_z S Z HZ.out).mono ?_
      rintro e w3 ⟨rfl, hL3, hb3⟩
      have S3 := S.kept hb3
      go_wp2_with fail
      refine (top_n S3 N HN.out).mono ?_
      rintro e w3' ⟨rfl, rfl⟩
      go_wp2_with fail
      refine (of_z _ _ Z N S.fine (Row.of_lies hL3) HZ.out HN.out hz1 hz2).mono ?_
      rintro e w4 ⟨g2, gw2, gb2, rfl, hb4, S4⟩
      have S4' := S3.kept hb4
      have B4 : Below w.heap.size w w4 := on (on BB BB.size hb3) (by have := BB.size; have := hb3.size; omega) hb4
      go_wp2_with fail
      refine (check_0 S4 HC).mono ?_
      rintro e w5 ⟨rfl, hb5⟩
      have S5 := S4.kept hb5
      have S5' := S4'.kept hb5
      have B5 : Below w.heap.size w w5 := on B4 B4.size hb5
      go_wp2_with fail
      refine (words_z S5 Z HZ.out).mono ?_
      rintro e w6 ⟨rfl, hL6, hb6⟩
      have S6' := S5'.kept hb6
      have B6 : Below w.heap.size w w6 := on B5 B5.size hb6
      go_wp2_with fail
      refine (words_z S6' Z HZ.out).mono ?_
      rintro e w7 ⟨rfl, hL7, hb7⟩
      have B7 : Below w.heap.size w w7 := on B6 B6.size hb7
      go_wp2_with fail
      refine (ints_n _ _ _ _ Z Z (flat obs ++ tail) (flat obs ++ tail) w7 (Row.of_lies (hL6.below hb7 hL6.lt)) (Row.of_lies hL7) HZ.out HZ.out hz2 hz2 true (decide_eq_true rfl)).mono ?_
      rintro e w8 ⟨rfl, hb8⟩
      go_wp2
      go_ret
      exact ⟨rfl, on B7 B7.size hb8⟩

theorem refs_walk (s : Int) (B : Option Addr) (m c : Nat) (ds : List Deed) (w : World) (h0 : 0 ≤ s) (h1 : s ≤ 255) (hm : ds.length = m) (hd : Deeds w B ds) (hfit : ∀ d ∈ ds, d.fit) :
    Calls Try.prog 11 #[.int .u8 s, .slice B m c] w fun e w' => e = .returned (.bool true) ∧ Below w.heap.size w w' := by
  subst hm
  by_cases h : 60 < ds.length ∨ s = 0
  · exact refs_out s B _ c w h
  · obtain ⟨s, rfl⟩ := Int.eq_ofNat_of_zero_le h0
    exact refs_yes s B c ds w (by omega) (by omega) (by omega) hd hfit
end Go.Proofs.Ytccojidhghgikaa
