/- The walk of GaugeEnds: it returns true whatever it is handed, and turns nothing that was there. -/
import Derived.Test.YtphiimgfbigogaaTurnsW
import Derived.Maps.AppendAt
import Derived.Deep.AppendLies
namespace Go.Proofs.Ytphiimgfbigogaa
open Go.RowKit
set_option linter.unusedVariables false

/-- A slice of words reads as a list of numbers. -/
def URow (w : World) (A : Option Addr) (l : List Int) : Prop :=
  0 < l.length → ∃ ad, A = some ad ∧ ad.block < w.heap.size ∧ ∀ j, j < l.length → w.cell? (ad.add j) = some (.int .u64 (l.getD j 0))
theorem URow.kept {w w' : World} {A : Option Addr} {l : List Int} (h : URow w A l) (hb : Below w.heap.size w w') : URow w' A l := fun h0 => by
  obtain ⟨ad, e, hl, hc⟩ := h h0
  exact ⟨ad, e, Nat.lt_of_lt_of_le hl hb.size, fun j hj => (hb.cell (by rw [block_add]; exact hl)).trans (hc j hj)⟩
theorem URow.at_ {w : World} {A : Option Addr} {l : List Int} (h : URow w A l) {i : Nat} (hi : i < l.length) : ∃ ad, A = some ad ∧ w.cell? (ad.add i) = some (.int .u64 (l.getD i 0)) := by
  obtain ⟨ad, e, hl, hc⟩ := h (by omega)
  exact ⟨ad, e, hc i hi⟩

theorem info24 : (Try.prog.info? 24).map (fun i => (i.zero, i.size, i.bytes)) = some (some (.float .f64 0), 1, 8) := by kernel_rfl

/-- What a row of the call's own reads as. -/
theorem owns_frow {w : World} {base n : Nat} {v : Value} {l : List Nat} (h : w.ownsRow base 24 1 v n (l.map (Value.float .f64))) : ∃ A c, v = .slice A n c ∧ FRow w A l := by
  obtain ⟨hl, ⟨rfl, h0⟩ | ⟨g, cap, cur, rfl, h2, h3, h4, h5, h6, h7⟩⟩ := h
  · exact ⟨none, 0, by rw [h0], fun hz => by simp at hl; omega⟩
  · refine ⟨_, _, rfl, fun _ => ⟨_, rfl, (Array.getElem?_eq_some_iff.1 h3).1, fun j hj => ?_⟩⟩
    refine World.news_of_block h3 j _ ?_
    have hu : (l.map (Value.float .f64))[j]? = some (.float .f64 (l.getD j 0)) := by simp [List.getD, hj]
    rw [← h7] at hu
    rw [List.getElem?_take] at hu
    split at hu
    · exact hu
    · cases hu
theorem below_own {w W W' : World} {C base : Nat} {v : Value} {n : Nat} {xs : List Value} (h : Below C w W) (hC : C ≤ base) (hB : C ≤ W.heap.size) (ho : W.ownsRow base 24 1 v n xs) (hg : W.grownBy W' v.ownBlock) : Below C w W' :=
  h.grown hg hB (fun k e => by
    obtain ⟨_, ⟨rfl, _⟩ | ⟨g, cap, cur, rfl, h2, _⟩⟩ := ho
    · simp [Value.ownBlock] at e
    · simp [Value.ownBlock] at e; omega)

def nats (l : List Int) : List Nat := l.map Int.toNat
theorem nats_len (l : List Int) : (nats l).length = l.length := by simp [nats]
theorem nats_at (l : List Int) (k : Nat) (h : k < l.length) : (nats l).getD k 0 = (l.getD k 0).toNat := by simp [nats, List.getD, h]
theorem newf (W : World) (x s : Nat) (hs : W.heap.size = s) : ∀ j u, [Value.float .f64 x][j]? = some u → (W.alloc (.cells #[.float .f64 x] 24)).cell? ((⟨s, 0, none⟩ : Addr).add j) = some u := by
  subst hs
  intro j u hj
  rw [cell_new]
  match j, hj with
  | 0, hj => simpa using hj
theorem stepM_same {m x : Nat} (hm : m < 18446744073709551616) (hx : x < 18446744073709551616) : (nanB x = true → stepM m x = m) ∧ (nanB x = false → nanB m = true → stepM m x = x) := by
  unfold stepM
  simp only [gt_iff_lt, ordI_pos]
  refine ⟨fun h => ?_, fun h h' => ?_⟩
  · rw [key_nan h]; rw [if_neg (by omega)]
  · have := key_pos hx h
    rw [key_nan h', if_pos this]
theorem class_ne {u : Nat} (h : nanB u = false) : (classN u == 0) = false := by
  have : classN u ≠ 0 := fun e => by rw [class_nan.1 e] at h; cases h
  simp [this]
theorem least_ways (m x : Nat) (hx : nanB x = false) : (classN m = 0 ∧ Hid (stepL m x = x)) ∨ ((classN m == 0) = false ∧ ordI x m < 0 ∧ Hid (stepL m x = x)) ∨ ((classN m == 0) = false ∧ ¬ ordI x m < 0 ∧ Hid (stepL m x = m)) := by
  unfold stepL
  cases hm : nanB m with
  | true => exact .inl ⟨class_nan.2 hm, Lib.hid (by simp [hx])⟩
  | false =>
    by_cases h : ordI x m < 0
    · exact .inr (.inl ⟨class_ne hm, h, Lib.hid (by simp [hx, h])⟩)
    · exact .inr (.inr ⟨class_ne hm, h, Lib.hid (by simp [hx, h])⟩)
theorem most_ways (m x : Nat) (hm64 : m < 18446744073709551616) (hx64 : x < 18446744073709551616) (hx : nanB x = false) : (classN m = 0 ∧ Hid (stepM m x = x)) ∨ ((classN m == 0) = false ∧ 0 < ordI x m ∧ Hid (stepM m x = x)) ∨ ((classN m == 0) = false ∧ ¬ 0 < ordI x m ∧ Hid (stepM m x = m)) := by
  cases hm : nanB m with
  | true => exact .inl ⟨class_nan.2 hm, Lib.hid ((stepM_same hm64 hx64).2 hx hm)⟩
  | false =>
    unfold stepM
    by_cases h : 0 < ordI x m
    · exact .inr (.inl ⟨class_ne hm, h, Lib.hid (by simp [h])⟩)
    · exact .inr (.inr ⟨class_ne hm, h, Lib.hid (by simp [h])⟩)
theorem nats_words {l : List Int} (h : ∀ i, 0 ≤ l.getD i 0 ∧ l.getD i 0 ≤ 18446744073709551615) : Words (nats l) := fun i => by
  by_cases hi : i < l.length
  · rw [nats_at l i hi]; have := h i; omega
  · have : (nats l).getD i 0 = 0 := by simp [List.getD, nats, List.getElem?_eq_none (Nat.le_of_not_lt hi)]
    rw [this]; omega

set_option maxHeartbeats 2000000 in
theorem ends_walk (A : Option Addr) (n c : Nat) (l : List Int) (w : World) (hl : l.length = n) (hr : URow w A l) (hn : n ≤ maxLen) (hbd : ∀ i, 0 ≤ l.getD i 0 ∧ l.getD i 0 ≤ 18446744073709551615) :
    Calls Try.prog 5 #[.slice A n c] w fun e w' => e = .returned (.bool true) ∧ Below w.heap.size w w' := by
  unfold maxLen at hn
  by_cases h60 : 60 < n
  · clear hl hr hbd
    go_enter Try.func5, Try.ntmps5
    go_wp2_with fail
    refine (awake_any _).mono ?_
    rintro e w1 ⟨rfl, hB⟩
    have hz := hB.size
    go_wp2_with fail
    refine (awake_any _).mono ?_
    rintro e w2 ⟨rfl, hB2⟩
    go_wp2
    go_ret
    exact ⟨rfl, hB.trans (hB2.mono hz)⟩
  · have HL := Lib.hid hl
    have HR := Lib.hid hr
    have HBD := Lib.hid hbd
    have HW := Lib.hid (nats_words hbd)
    clear hl hr hbd
    obtain ⟨i0, hi, hz0, hz1, hz2⟩ := info_parts info24
    go_enter Try.func5, Try.ntmps5
    go_wp2_with fail
    refine (awake_any _).mono ?_
    rintro e w1 ⟨rfl, hB⟩
    have hz := hB.size
    have HR1 := Lib.hid (HR.out.kept hB)
    clear HR
    go_wp2_with fail
    go_loopw [3, 4, 5, 18] (fun v p q i wr => ∃ k : Nat, ∃ a b : Int, k ≤ n ∧ i = .int .i64 k ∧ p = .int .u64 a ∧ q = .int .u64 b ∧ 0 ≤ a ∧ a ≤ 18446744073709551615 ∧ 0 ≤ b ∧ b ≤ 18446744073709551615 ∧ Hid (a.toNat = leastF ((nats l).take k)) ∧ Hid (b.toNat = mostF ((nats l).take k)) ∧ wr.ownsRow w1.heap.size 24 1 v k (((nats l).take k).map (Value.float .f64)) ∧ Below w1.heap.size w1 wr) (fun _ _ _ i _ => n - (intOf i).toNat)
    case atStart => exact ⟨0, 9221120237041090561, 9221120237041090561, Nat.zero_le _, rfl, rfl, rfl, by omega, by omega, by omega, by omega, Lib.hid rfl, Lib.hid rfl, World.ownsRow_nil _ _ _ _, Below.refl _ _⟩
    case round =>
      obtain ⟨k, a, b, hk, rfl, rfl, rfl, a0, a1, b0, b1, HA, HB, hown, hnx⟩ := hrel
      by_cases hlt : k < n
      · obtain ⟨ad, rfl, hc⟩ := (HR1.out.kept hnx).at_ (i := k) (by rw [HL.out]; exact hlt)
        obtain ⟨z0, z1⟩ := HBD.out k
        have hx := Lib.hid (nats_at l k (by rw [HL.out]; exact hlt))
        have ht := Lib.hid (take_snoc (nats l) k (by rw [nats_len, HL.out]; exact hlt))
        generalize l.getD k 0 = z at *
        have HF := frombits_run z
        obtain ⟨x, hxz⟩ : ∃ x : Nat, x = z.toNat := ⟨_, rfl⟩
        rw [← hxz] at HF hx
        rw [hx.out] at ht
        have hx64 : x < 18446744073709551616 := by omega
        have hA64 : a.toNat < 18446744073709551616 := by omega
        have hB64 : b.toNat < 18446744073709551616 := by omega
        have HLS := Lib.hid (show leastF ((nats l).take (k + 1)) = stepL a.toNat x by rw [ht.out, least_snoc, HA.out])
        have HMS := Lib.hid (show mostF ((nats l).take (k + 1)) = stepM b.toNat x by rw [ht.out, most_snoc, HB.out])
        have HOWN := Lib.hid hown
        have HNX := Lib.hid hnx
        have hs1 := hnx.size
        have HXZ := Lib.hid hxz
        have hcz : ∀ w, Calls Try.prog 14 #[.int .u64 z] w fun e w' => e = .returned (.int .i64 (classN x)) ∧ w = w' := fun w => by rw [hxz]; exact rclass_any z w z0 z1
        have hoa : ∀ w, Calls Try.prog 15 #[.int .u64 z, .int .u64 a] w fun e w' => e = .returned (.int .i64 (ordI x a.toNat)) ∧ w = w' := fun w => by rw [hxz]; exact rorder_any z a w z0 z1 a0 a1
        have hob : ∀ w, Calls Try.prog 15 #[.int .u64 z, .int .u64 b] w fun e w' => e = .returned (.int .i64 (ordI x b.toNat)) ∧ w = w' := fun w => by rw [hxz]; exact rorder_any z b w z0 z1 b0 b1
        have HCZ := Lib.hid hcz
        have HOA := Lib.hid hoa
        have HOB := Lib.hid hob
        clear hown hnx hxz hcz hoa hob HA HB
        have hn60 : n ≤ 60 := by omega
        cases hnx' : nanB x with
        | true =>
          have e1 := Lib.hid (show stepL a.toNat x = a.toNat by unfold stepL; rw [if_pos hnx'])
          have e2 := Lib.hid ((stepM_same hB64 hx64).1 hnx')
          have hcl := class_nan.2 hnx'
          go_wp2_with (first
            | (at_builtin; refine wpList_append_own _ rfl _ _ 40 rfl w1.heap.size 24 i0 (.float .f64 0) 1 8 Try.underlying40 hi hz0 hz1 hz2 rfl (by decide) _ _ _ rfl (HOWN.out.alloc _) ⟨wr.heap.size, 0, none⟩ 1 1 [.float .f64 x] rfl rfl (newf _ _ _ rfl) (by intro u hu; simp at hu; subst hu; rfl) (by unfold maxLen; omega) (by omega) (by simp; omega) ?_; intro v' w2 hown' hgrow _; have R1 := Lib.hid (below_own (HNX.out.alloc hs1 _) (Nat.le_refl _) (by simp; omega) (HOWN.out.alloc _) hgrow); have R2 := Lib.hid hown'; clear hown' hgrow)
            | (go_at_call 14; (with_reducible refine (HCZ.out _).mono ?_); rintro e w' ⟨rfl, rfl⟩))
          go_roundw
          case rel => exact ⟨k + 1, a, b, by omega, by go_num, rfl, rfl, a0, a1, b0, b1, Lib.hid (by rw [HLS.out, e1.out]), Lib.hid (by rw [HMS.out, e2.out]), by rw [ht.out, List.map_append]; exact R2.out, R1.out⟩
          case measure => simp [intOf]; omega
        | false =>
          have hcl := class_ne hnx'
          rcases least_ways a.toNat x hnx' with ⟨p1, e1⟩ | ⟨p1, p2, e1⟩ | ⟨p1, p2, e1⟩
          all_goals rcases most_ways b.toNat x hB64 hx64 hnx' with ⟨q1, e2⟩ | ⟨q1, q2, e2⟩ | ⟨q1, q2, e2⟩
          all_goals
            go_wp2_with (first
              | (at_builtin; refine wpList_append_own _ rfl _ _ 40 rfl w1.heap.size 24 i0 (.float .f64 0) 1 8 Try.underlying40 hi hz0 hz1 hz2 rfl (by decide) _ _ _ rfl (HOWN.out.alloc _) ⟨wr.heap.size, 0, none⟩ 1 1 [.float .f64 x] rfl rfl (newf _ _ _ rfl) (by intro u hu; simp at hu; subst hu; rfl) (by unfold maxLen; omega) (by omega) (by simp; omega) ?_; intro v' w2 hown' hgrow _; have R1 := Lib.hid (below_own (HNX.out.alloc hs1 _) (Nat.le_refl _) (by simp; omega) (HOWN.out.alloc _) hgrow); have R2 := Lib.hid hown'; clear hown' hgrow)
              | (go_at_call 14; (first | (with_reducible refine (HCZ.out _).mono ?_) | (with_reducible refine (rclass_any a _ a0 a1).mono ?_) | (with_reducible refine (rclass_any b _ b0 b1).mono ?_)); rintro e w' ⟨rfl, rfl⟩)
              | (go_at_call 15; (first | (with_reducible refine (HOA.out _).mono ?_) | (with_reducible refine (HOB.out _).mono ?_)); rintro e w' ⟨rfl, rfl⟩))
            go_roundw
            case rel =>
              first
              | exact ⟨k + 1, z, z, by omega, by go_num, rfl, rfl, z0, z1, z0, z1, Lib.hid (by rw [HLS.out, e1.out, HXZ.out]), Lib.hid (by rw [HMS.out, e2.out, HXZ.out]), by rw [ht.out, List.map_append]; exact R2.out, R1.out⟩
              | exact ⟨k + 1, z, b, by omega, by go_num, rfl, rfl, z0, z1, b0, b1, Lib.hid (by rw [HLS.out, e1.out, HXZ.out]), Lib.hid (by rw [HMS.out, e2.out]), by rw [ht.out, List.map_append]; exact R2.out, R1.out⟩
              | exact ⟨k + 1, a, z, by omega, by go_num, rfl, rfl, a0, a1, z0, z1, Lib.hid (by rw [HLS.out, e1.out]), Lib.hid (by rw [HMS.out, e2.out, HXZ.out]), by rw [ht.out, List.map_append]; exact R2.out, R1.out⟩
              | exact ⟨k + 1, a, b, by omega, by go_num, rfl, rfl, a0, a1, b0, b1, Lib.hid (by rw [HLS.out, e1.out]), Lib.hid (by rw [HMS.out, e2.out]), by rw [ht.out, List.map_append]; exact R2.out, R1.out⟩
            case measure => simp [intOf]; omega
      · obtain rfl : k = n := by omega
        have hall : (nats l).take k = nats l := List.take_of_length_le (by rw [nats_len, HL.out]; exact Nat.le_refl _)
        rw [hall] at HA HB hown
        obtain ⟨B, d, rfl, hRow⟩ := owns_frow hown
        have hlen : (nats l).length = k := by rw [nats_len, HL.out]
        have HL2 := Lib.hid hlen
        have HRow := Lib.hid hRow
        have hA64 : a.toNat < 18446744073709551616 := by omega
        have hB64 : b.toNat < 18446744073709551616 := by omega
        have hfa := frombits_run a
        have hfb := frombits_run b
        have s1 : ordI (leastF (nats l)) a.toNat = 0 := by rw [HA.out]; exact ordI_eq rfl
        have s2 : ordI (mostF (nats l)) b.toNat = 0 := by rw [HB.out]; exact ordI_eq rfl
        have l64 : leastF (nats l) < 18446744073709551616 := by rw [← HA.out]; exact hA64
        have m64 : mostF (nats l) < 18446744073709551616 := by rw [← HB.out]; exact hB64
        clear hall hown hRow hlen HA HB
        have hk60 : k ≤ 60 := by omega
        go_wp2_with (first
          | (go_at_call 23; refine (least_any _ _ k (nats l) _ HRow.out HL2.out (by omega) HW.out).mono ?_; rintro e w' ⟨rfl, rfl⟩)
          | (go_at_call 24; refine (most_any _ _ k (nats l) _ HRow.out HL2.out (by omega) HW.out).mono ?_; rintro e w' ⟨rfl, rfl⟩)
          | (go_at_call 18; (first | (with_reducible refine (same_any (leastF (nats l)) a.toNat _ l64 hA64).mono ?_) | (with_reducible refine (same_any (mostF (nats l)) b.toNat _ m64 hB64).mono ?_)); rintro e w' ⟨rfl, rfl⟩))
        go_ret
        exact ⟨rfl, hB.trans (hnx.mono hz)⟩
end Go.Proofs.Ytphiimgfbigogaa
