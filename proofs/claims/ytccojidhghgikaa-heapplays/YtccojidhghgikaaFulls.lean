/- The walk of HeapFulls. -/
import Derived.Test.YtccojidhghgikaaCheck2
import Derived.Lib.QuietBelow
namespace Go.Proofs.Ytccojidhghgikaa
open Go.RowKit Go.Sort
set_option linter.unusedVariables false
set_option linter.unusedSimpArgs false

theorem nil_ne (w : World) (g : Nat) : (binOp .eql 36 (.pointer (some ⟨g, 0, none⟩)) (.pointer none)).run Try.prog w = .ok (.bool false) w := by kernel_rfl

theorem new_st (n : Nat) (w : World) (h1 : 1 ≤ n) (h2 : n ≤ 65536) :
    Calls Try.prog 20 #[.int .i64 (n : Int)] w fun e w' => ∃ g gw gb, e = .returned (.tuple #[.pointer (some ⟨g, 0, none⟩), .int .i64 0]) ∧ Below w.heap.size w w' ∧ w.heap.size ≤ g ∧ w.heap.size ≤ gw ∧ w.heap.size ≤ gb ∧ St w' g gw gb [] (List.replicate n 0) :=
  (new_yes n w h1 h2).mono fun e w' ⟨g, gw, gb, he, hb, h3, h4, h5, H⟩ => ⟨g, gw, gb, he, hb, h3, h4, h5, fun o ho => by simp at ho, by simpa [flat_nil] using H⟩

theorem flat_rep (o : Ob) : ∀ i : Nat, (flat (List.replicate i o)).length = i * (1 + o.2.length)
  | 0 => by simp [flat_nil]
  | i + 1 => by
    rw [List.replicate_succ, flat_cons]
    simp [flat_rep o i, Nat.add_mul]
    omega

set_option maxHeartbeats 1000000 in
theorem fulls_zero (l : Int) (w : World) : Calls Try.prog 9 #[.int .u8 0, .int .u8 l] w fun e w' => e = .returned (.bool true) ∧ Below w.heap.size w w' := by
  go_enter Try.func9, Try.ntmps9
  go_wp2_with fail
  refine (awake_any _).mono ?_
  rintro e w1 ⟨rfl, hb1⟩
  go_wp2_with fail
  refine (awake_any _).mono ?_
  rintro e w2 ⟨rfl, hb2⟩
  go_wp2
  go_ret
  exact ⟨rfl, on hb1 hb1.size hb2⟩

set_option maxRecDepth 100000 in
set_option maxHeartbeats 400000 in
theorem fulls_yes (s l : Nat) (w : World) (hs : 1 ≤ s) (hs' : s ≤ 255) (hl : l ≤ 255) : Calls Try.prog 9 #[.int .u8 (s : Int), .int .u8 (l : Int)] w fun e w' => e = .returned (.bool true) ∧ Below w.heap.size w w' := by
  have s0 : ((s : Int) == 0) = false := by rw [beq_eq_false_iff_ne]; omega
  obtain ⟨m, hm⟩ : ∃ m, m = l % 20 := ⟨_, rfl⟩
  have hm' : (l : Int) % 20 = (m : Int) := by omega
  have hm20 : m < 20 := by omega
  have HM := Lib.hid hm'
  clear hm hm'
  have hnil := fun W g => nil_ne W g
  go_enter Try.func9, Try.ntmps9
  go_wp2_with fail
  refine (awake_any _).mono ?_
  rintro e w1 ⟨rfl, hb1⟩
  go_wp2_with fail
  refine (new_st s w1 hs (by omega)).mono ?_
  rintro e w2 ⟨g, gw, gb, rfl, hb2, q1, q2, q3, S2⟩
  have B2 := on hb1 hb1.size hb2
  have q1' : w.heap.size ≤ g := by have := hb1.size; omega
  have q2' : w.heap.size ≤ gw := by have := hb1.size; omega
  have q3' : w.heap.size ≤ gb := by have := hb1.size; omega
  go_wp2
  rw [HM.out]
  obtain ⟨n, hn⟩ : ∃ n, n = 1 + m := ⟨_, rfl⟩
  have hn' : (1 : Int) + (m : Int) = (n : Int) := by omega
  have hnm : (n : Int) - 1 = (m : Int) := by omega
  rw [hn']
  obtain ⟨q, hq⟩ : ∃ q, q = s / n := ⟨_, rfl⟩
  have hqI : (s : Int) / (n : Int) = (q : Int) := by rw [hq]; simp
  have hle : q ≤ s := by rw [hq]; exact Nat.div_le_self _ _
  have hq' : wrap64 ((s : Int) / (n : Int)) = (q : Int) := by
    rw [hqI]
    unfold wrap64
    omega
  rw [hq']
  have hlo : q * n ≤ s := by rw [hq]; exact Nat.div_mul_le_self _ _
  have hhi : s < q * n + n := by
    rw [hq, Nat.mul_comm]
    have := Nat.lt_mul_div_succ s (show 0 < n by omega)
    rw [Nat.mul_add, Nat.mul_one] at this
    exact this
  have HQ := Lib.hid hqI
  have HNM := Lib.hid hnm
  have HMN := Lib.hid hn
  have hn20 : n ≤ 20 := by omega
  have hn1 : 1 ≤ n := by omega
  clear hq hq' HM hqI hn' hnm hn
  have hg : goodB 0 (m : Int) 0 = true := good_yes (by omega)
  obtain ⟨ob, hob⟩ : ∃ ob : Ob, ob = (packW 0 (m : Int) 0, zeros (m : Int)) := ⟨_, rfl⟩
  have hol : ob.2.length = m := by rw [hob]; simp [zeros]
  have hstep : ∀ (i : Nat) (tail : List Int), tail.length + i * n = s → i < q → placeF (List.replicate i ob) tail 0 (m : Int) 0 = (((i * n : Nat) : Int), 0, List.replicate (i + 1) ob, tail.drop n) := by
    intro i tail h1 h2
    have h3 : (i + 1) * n ≤ q * n := Nat.mul_le_mul_right _ h2
    rw [Nat.add_mul, Nat.one_mul] at h3
    have h4 := HMN.out
    unfold placeF
    rw [if_neg (by rw [hg]; simp), Int.toNat_natCast, if_neg (by omega), flat_rep, hol, ← hob, List.replicate_succ', ← h4]
  have hlast : ∀ tail : List Int, tail.length + q * n = s → placeF (List.replicate q ob) tail 0 (m : Int) 0 = (0, 6, List.replicate q ob, tail) := by
    intro tail h1
    have h4 := HMN.out
    unfold placeF
    rw [if_neg (by rw [hg]; simp), Int.toNat_natCast, if_pos (by omega)]
  have HStep := Lib.hid hstep
  have HLast := Lib.hid hlast
  have HOl := Lib.hid hol
  have HOb := Lib.hid hob
  have HLo := Lib.hid hlo
  have HHi := Lib.hid hhi
  clear hstep hlast hol hob hlo hhi hg
  go_loopw [40, 8, 9, 10] (fun i _ _ _ wr => ∃ (j : Nat) (tail : List Int), j ≤ q ∧ i = .int .i64 j ∧ tail.length + j * n = s ∧ St wr g gw gb (List.replicate j ob) tail ∧ Below w.heap.size w wr) (fun i _ _ _ _ => q - (intOf i).toNat)
  case atStart => exact ⟨0, List.replicate s 0, Nat.zero_le _, rfl, by simp, S2, B2⟩
  case round =>
    obtain ⟨j, tail, hj, rfl, htl, S, BB⟩ := hrel
    have HT := Lib.hid htl
    clear htl
    by_cases hlt : j < q
    · have hP := place_st S 0 (m : Int) 0
      rw [HStep.out j tail HT.out hlt] at hP
      simp only at hP
      have HP := Lib.hid hP
      clear hP
      obtain ⟨N, hN⟩ : ∃ N, N = j * n := ⟨_, rfl⟩
      have hNs : N + n ≤ s := by
        have h3 : (j + 1) * n ≤ q * n := Nat.mul_le_mul_right _ hlt
        rw [Nat.add_mul, Nat.one_mul] at h3
        have := HLo.out
        omega
      have eN : (j : Int) * (n : Int) = (N : Int) := by rw [hN]; simp
      rw [← hN] at HP
      have HN := Lib.hid hN
      have HE := Lib.hid eN
      have eW : IntKind.i64.wrap ((j : Int) * (n : Int)) = (N : Int) := by rw [eN]; exact IntWalk.i64_in _ (by omega)
      have eW2 : wrap64 ((j : Int) * (n : Int)) = (N : Int) := by rw [eN]; unfold wrap64; omega
      have e0 : ((N : Int) != (N : Int)) = false := by simp
      obtain ⟨T, hT⟩ : ∃ T, T = N + n := ⟨_, rfl⟩
      have hT' : T ≤ s := hT ▸ hNs
      have e1 : ((T : Int) != (N : Int) + (n : Int)) = false := by rw [hT]; simp
      have hTop : (flat (List.replicate (j + 1) ob)).length = T := by rw [flat_rep, HOl.out, ← HMN.out, Nat.add_mul, Nat.one_mul, hT, HN.out]
      have HTop := Lib.hid hTop
      clear hN eN hTop hT
      go_wp2_with fail
      rw [HNM.out]
      refine HP.out.mono ?_
      rintro e w3 ⟨rfl, S3, E3⟩
      have B3 := BB.trans (E3.below BB.size q1' q2' q3')
      go_wp2_with fail
      refine (top_n S3 T HTop.out).mono ?_
      rintro e w4 ⟨rfl, rfl⟩
      clear eW eW2 e0 HE HTop HP hb2 hb1 q1 q2 q3 hm20
      go_wp2
      refine ⟨⟨j + 1, tail.drop n, by omega, by go_num, ?_, S3, B3⟩, by simp [intOf]; omega⟩
      have h1 := HT.out
      have h2 := HN.out
      rw [Nat.add_mul, Nat.one_mul, ← h2]
      simp
      omega
    · obtain rfl : j = q := by omega
      have hP := place_st S 0 (m : Int) 0
      rw [HLast.out tail HT.out] at hP
      simp only at hP
      have HP := Lib.hid hP
      clear hP
      obtain ⟨N, hN⟩ : ∃ N, N = j * n := ⟨_, rfl⟩
      have hNs : N ≤ s := by rw [hN]; exact HLo.out
      have eN : (j : Int) * (n : Int) = (N : Int) := by rw [hN]; simp
      have eW : IntKind.i64.wrap ((j : Int) * (n : Int)) = (N : Int) := by rw [eN]; exact IntWalk.i64_in _ (by omega)
      have eW2 : wrap64 ((j : Int) * (n : Int)) = (N : Int) := by rw [eN]; unfold wrap64; omega
      have hTop : (flat (List.replicate j ob)).length = N := by rw [flat_rep, HOl.out, ← HMN.out, hN]
      have eQ := HQ.out
      have eJ : IntKind.i64.wrap (j : Int) = (j : Int) := IntWalk.i64_in _ (by omega)
      have eD : IntKind.i64.wrap ((s : Int).tdiv (n : Int)) = (j : Int) := by rw [IntWalk.i64_quo _ _ ⟨by omega, by omega, by omega⟩]; exact eQ
      have eD0 : ((n : Int) == 0) = false := by rw [beq_eq_false_iff_ne]; omega
      have eD1 : ¬ n = 0 := by omega
      have eS : IntKind.i64.wrap (s : Int) = (s : Int) := IntWalk.i64_in _ (by omega)
      have HTop := Lib.hid hTop
      clear hN eN hTop
      have hWi : Within (List.replicate j ob) := by
        intro o ho v hv
        rw [List.mem_replicate] at ho
        rw [ho.2, HOb.out] at hv
        simp [zeros] at hv
        rw [hv.2]; unfold InR; omega
      have hCk : checkV (List.replicate j ob) = 0 := by
        have hb : badB (List.replicate j ob) = false := by
          unfold badB
          rw [List.any_eq_false]
          intro o ho
          rw [List.mem_replicate] at ho
          rw [ho.2]
          unfold badOb
          have : ptrs ob.1 = 0 := by
            rw [HOb.out]; unfold ptrs packW; simp only; omega
          rw [this]; simp
        unfold checkV; rw [hb]; rfl
      have HWi := Lib.hid hWi
      have HCk := Lib.hid hCk
      clear hWi hCk
      go_wp2_with fail
      rw [HNM.out]
      refine HP.out.mono ?_
      rintro e w3 ⟨rfl, S3, E3⟩
      have B3 := BB.trans (E3.below BB.size q1' q2' q3')
      have cT : ∀ d os, Hid (Calls Try.prog 37 #[.pointer (some ⟨g, 0, none⟩)] (grow (redrawn w3 d) os) fun e w' => e = .returned (.int .i64 (N : Int)) ∧ Below (grow (redrawn w3 d) os).heap.size (grow (redrawn w3 d) os) w') := fun d os =>
        Lib.hid ((top_n (S3.kept (below_regrown w3 d os)) N HTop.out).mono (by rintro e w ⟨rfl, rfl⟩; exact ⟨rfl, Below.refl _ _⟩))
      have cC : ∀ d os, Hid (Calls Try.prog 38 #[.pointer (some ⟨g, 0, none⟩)] (grow (redrawn w3 d) os) fun e w' => e = .returned (.int .i64 0) ∧ Below (grow (redrawn w3 d) os).heap.size (grow (redrawn w3 d) os) w') := fun d os =>
        Lib.hid (by have h := check_any (S3.kept (below_regrown w3 d os)) HWi.out; rw [HCk.out] at h; exact h)
      have hmx : Try.prog.follows .mixedOrders = true := by kernel_rfl
      go_wp2_with fail
      refine wp_region_quiet_below hmx (by kernel_rfl) ?_
      repeat (quiet_step (first | exact Calls.regrown_of (cT _ _).out | exact Calls.regrown_of (cC _ _).out))
      refine wpQuiet_nil ?_
      rintro w4 ⟨p, rfl⟩
      have hb4 := below_regrown w3 p.d p.os
      generalize grow (redrawn w3 p.d) p.os = w4 at *
      go_wp2
      go_ret
      exact ⟨rfl, on B3 B3.size hb4⟩

theorem fulls_walk (a b : Int) (w : World) (h0 : 0 ≤ a) (h1 : a ≤ 255) (h2 : 0 ≤ b) (h3 : b ≤ 255) : Calls Try.prog 9 #[.int .u8 a, .int .u8 b] w fun e w' => e = .returned (.bool true) ∧ Below w.heap.size w w' := by
  obtain ⟨s, rfl⟩ := Int.eq_ofNat_of_zero_le h0
  obtain ⟨l, rfl⟩ := Int.eq_ofNat_of_zero_le h2
  by_cases hs : s = 0
  · subst hs; exact fulls_zero _ w
  · exact fulls_yes s l w (by omega) (by omega) (by omega)
end Go.Proofs.Ytccojidhghgikaa
