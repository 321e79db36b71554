/- The reference's Place and Split, whatever they are handed. -/
import Derived.Test.YtibfhpbklnpknaaRSp3
namespace Go.Proofs.Ytibfhpbklnpknaa
open Go.RowKit
set_option linter.unusedVariables false
set_option linter.unusedSimpArgs false

theorem rplace_any {w : World} {base : Nat} {xs : List Value} (Z : Nat) (A : Option Addr) (n c : Nat) (obs : List Ob) (tail : List Int) (hf : Fine obs) (OWN : Owned w base A n c obs xs) (hbase : base ≤ w.heap.size) (hn : obs.length = n) (hZ : (flat obs ++ tail).length = Z) (hZ6 : Z ≤ 65536) (k l p : Int) :
    Calls Try.prog 17 #[.agg #[.int .i64 (Z : Int), .slice A n c], .agg #[.int .i64 k, .int .i64 l, .int .i64 p]] w (SplitPost w base Z obs ((placeF obs tail k l p).1, (placeF obs tail k l p).2.1, (placeF obs tail k l p).2.2.1)) := by
  unfold placeF
  have hZ2 : (flat obs).length + tail.length = Z := by rw [← hZ]; simp
  cases hg : goodB k l p with
  | false =>
    simp only [if_true]
    exact (rplace_bad (Z : Int) A n c k l p hg).mono fun e w' ⟨he, hb⟩ => by rw [he]; exact post_same OWN hn 1 hb
  | true =>
    simp only [Bool.true_eq_false, if_false]
    obtain ⟨l, rfl⟩ := Int.eq_ofNat_of_zero_le ((good_iff k l p).1 hg).2.2.1
    rw [Int.toNat_natCast]
    by_cases h : tail.length < 1 + l
    · simp only [if_pos h]
      exact (rplace_full Z A n c (flat obs).length l k p obs hf OWN.things hn rfl (by omega) hZ6 hg (by omega)).mono fun e w' ⟨he, hb⟩ => by rw [he]; exact post_same OWN hn 6 hb
    · simp only [if_neg h]
      refine (rplace_yes Z A n c (flat obs).length l k p obs hf OWN hbase hn rfl (by omega) hZ6 hg (by omega)).mono ?_
      rintro e w' ⟨⟨A', c', xs', he, ho⟩, hb⟩
      exact ⟨⟨A', n + 1, c', xs', he, by simp [hn], ho⟩, hb⟩

theorem rsplit_any {w : World} {base : Nat} {xs : List Value} (Z : Nat) (A : Option Addr) (n c : Nat) (obs : List Ob) (hf : Fine obs) (OWN : Owned w base A n c obs xs) (hbase : base ≤ w.heap.size) (hn : obs.length = n) (hZ6 : (flat obs).length ≤ 65536) (a k l p : Int) :
    Calls Try.prog 18 #[.agg #[.int .i64 (Z : Int), .slice A n c], .int .i64 a, .agg #[.int .i64 k, .int .i64 l, .int .i64 p]] w (SplitPost w base Z obs (splitF obs a k l p)) := by
  have hn6 : n ≤ 65536 := by have := count_le obs; omega
  by_cases h : (splitF obs a k l p).2.1 ≠ 0
  · exact rsplit_no Z A n c obs hf OWN hn hn6 a k l p h
  · have h0 : (splitF obs a k l p).2.1 = 0 := by
      apply Classical.byContradiction; intro h1; exact h h1
    unfold splitF at h0
    cases hl : look obs a with
    | none => rw [hl] at h0; simp at h0
    | some x =>
      rw [hl] at h0
      obtain ⟨pre, o, post⟩ := x
      obtain ⟨e0, rfl⟩ := look_some _ _ _ hl
      simp only at e0 h0
      by_cases h1 : o.1 % 16 ≠ 15
      · rw [if_pos h1] at h0; simp at h0
      · rw [if_neg h1] at h0
        cases hg : goodB k l p with
        | false => rw [hg] at h0; simp at h0
        | true =>
          rw [hg] at h0
          simp only [Bool.true_eq_false, if_false] at h0
          by_cases h3 : o.1 / 65536 < l
          · rw [if_pos h3] at h0; simp at h0
          · obtain ⟨l, rfl⟩ := Int.eq_ofNat_of_zero_le ((good_iff k l p).1 hg).2.2.1
            have hq0 : 0 ≤ o.1 / 65536 := by omega
            obtain ⟨q, hq⟩ : ∃ q : Nat, o.1 / 65536 = (q : Int) := ⟨(o.1 / 65536).toNat, by omega⟩
            subst e0
            obtain ⟨gA, cap, hA⟩ := owned_form OWN.own (fun e => by
              injection e with _ e2
              have : 0 < n := by rw [← hn]; simp; omega
              omega)
            injection hA with hA _ _
            subst hA
            have hfit := fits_here hf
            have hlen : lenOf o.1 = q := by unfold lenOf; omega
            have hs : splitF (pre ++ o :: post) ((flat pre).length : Nat) k (l : Int) p = if (q : Int) = (l : Int) then (0, 0, pre ++ (packW k (l : Int) p, zeros (l : Int)) :: post) else (((flat pre).length : Nat) + (1 + (l : Int)), 0, pre ++ (packW k (l : Int) p, zeros (l : Int)) :: (packW 15 ((q : Int) - (l : Int) - 1) 0, zeros ((q : Int) - (l : Int) - 1)) :: post) := by
              have hl2 := look_here pre o post
              have h1' : ¬ (¬ o.1 % 16 = 15) := h1
              have h3' : ¬ (q : Int) < (l : Int) := by omega
              unfold splitF
              rw [hl2]
              simp only [ne_eq, if_neg h1', hg, Bool.true_eq_false, if_false, hq, if_neg h3']
            rw [hs]
            by_cases h4 : l = q
            · rw [if_pos (by omega)]
              exact rsplit_even Z gA n c (flat pre).length q l pre.length pre post o hf OWN hbase hn hn6 rfl rfl (by omega) hq (by omega) k p hg (by omega) (by omega)
            · rw [if_neg (by omega)]
              exact rsplit_rest Z gA n c (flat pre).length q l pre.length pre post o hf OWN hbase hn hn6 rfl rfl (by omega) hq (by omega) k p hg (by omega)
end Go.Proofs.Ytibfhpbklnpknaa
