/- Calls one behind the other, and what they leave. -/
import Derived.Test.YteaffpkmidaghaaCo
namespace Go.Proofs.Yteaffpkmidaghaa
open Go.RowKit
set_option linter.unusedVariables false
set_option linter.unusedSimpArgs false

section
variable {w0 w w' : World} {gd g gw gc n t tag : Nat} {row : List Int} {k : Nat} {cl : Cl} {x : Int}
/-- A call that was begun, all of it: as its run says. -/
theorem begun_donek (b : Begun w0 w gd g gw gc n t tag row k cl) {m t' tag' : Nat} {row' : List Int} {P : Cl → Prop}
    (run : ∀ zs, Q zs n t tag row → ∃ zs' cl', Runs m zs cl zs' cl' ∧ P cl' ∧ Q zs' n t' tag' row') (h9 : m ≤ 9) (hk : k + m ≤ 1000) :
    Calls Try.prog 11 #[.pointer (some ⟨gc, 0, none⟩)] w fun e w' => ∃ cl', P cl' ∧ e = .returned (.tuple #[.int .i64 cl'.word, .int .i64 cl'.err]) ∧ Sq w0 w' gd g gw n t' tag' row' (k + m) ∧ Kept w w' gc gw := by
  obtain ⟨A, c, zs, ts, H, q, hk', B, L, lo, ne⟩ := b
  obtain ⟨zs', cl', r, p, q'⟩ := run zs q
  refine (cdone_any H.at_ L r h9 (by omega)).mono ?_
  rintro e w' ⟨rfl, ts', hts, D⟩
  refine ⟨cl', p, rfl, ?_⟩
  have hlow := D.low H.at_ lo
  have ho := D.lies58 H.at_ H.own ne (by decide) (by decide) (by decide)
  have hK := D.kept_all H.at_
  obtain ⟨A', c', H', _⟩ := D
  exact ⟨⟨A', c', zs', ts', ⟨H', ho, H.lo⟩, q', by omega, B.trans hlow⟩, hK⟩

theorem done_pushk (b : Begun w0 w gd g gw gc n t tag row k ⟨0, 25, 0, 0, x, 0⟩) (h : t + row.length < n) (hk : k + 3 ≤ 1000) :
    Calls Try.prog 11 #[.pointer (some ⟨gc, 0, none⟩)] w fun e w' => ∃ y, e = .returned (.tuple #[.int .i64 y, .int .i64 0]) ∧ Sq w0 w' gd g gw n t tag (row ++ [x]) (k + 3) ∧ Kept w w' gc gw := by
  refine (begun_donek b (P := fun c => c.err = 0) (t' := t) (tag' := tag) (row' := row ++ [x]) (fun zs q => ?_) (by omega) hk).mono ?_
  · obtain ⟨zs', cl', r, he, q'⟩ := push_ok q h x
    exact ⟨zs', cl', r, he, q'⟩
  · rintro e w' ⟨cl', hp, rfl, hs, hK⟩
    exact ⟨cl'.word, by rw [hp], hs, hK⟩
theorem done_fullk (b : Begun w0 w gd g gw gc n t tag row k ⟨0, 25, 0, 0, x, 0⟩) (h : t + row.length = n) (hk : k + 1 ≤ 1000) :
    Calls Try.prog 11 #[.pointer (some ⟨gc, 0, none⟩)] w fun e w' => ∃ y, e = .returned (.tuple #[.int .i64 y, .int .i64 6]) ∧ Sq w0 w' gd g gw n t tag row (k + 1) ∧ Kept w w' gc gw := by
  refine (begun_donek b (P := fun c => c.err = 6) (t' := t) (tag' := tag) (row' := row) (fun zs q => ?_) (by omega) hk).mono ?_
  · obtain ⟨cl', r, he⟩ := push_full q h x
    exact ⟨zs, cl', r, he, q⟩
  · rintro e w' ⟨cl', hp, rfl, hs, hK⟩
    exact ⟨cl'.word, by rw [hp], hs, hK⟩
theorem done_pop1k {r : List Int} {y : Int} (b : Begun w0 w gd g gw gc n t tag (r ++ [y]) k ⟨0, 26, 0, 0, 0, 0⟩) (h : 0 < r.length) (hk : k + 4 ≤ 1000) :
    Calls Try.prog 11 #[.pointer (some ⟨gc, 0, none⟩)] w fun e w' => e = .returned (.tuple #[.int .i64 y, .int .i64 0]) ∧ Sq w0 w' gd g gw n t tag r (k + 4) ∧ Kept w w' gc gw := by
  refine (begun_donek b (P := fun c => c.word = y ∧ c.err = 0) (t' := t) (tag' := tag) (row' := r) (fun zs q => ?_) (by omega) hk).mono ?_
  · obtain ⟨zs', cl', r, h1, h2, q'⟩ := pop_one q h
    exact ⟨zs', cl', r, ⟨h1, h2⟩, q'⟩
  · rintro e w' ⟨cl', ⟨h1, h2⟩, rfl, hs, hK⟩
    exact ⟨by rw [h1, h2], hs, hK⟩
theorem done_pop2k {y : Int} (b : Begun w0 w gd g gw gc n t tag [y] k ⟨0, 26, 0, 0, 0, 0⟩) (hg : tag < 100000) (hk : k + 6 ≤ 1000) :
    Calls Try.prog 11 #[.pointer (some ⟨gc, 0, none⟩)] w fun e w' => e = .returned (.tuple #[.int .i64 y, .int .i64 0]) ∧ Sq w0 w' gd g gw n 0 (tag + 1) [] (k + 6) ∧ Kept w w' gc gw := by
  refine (begun_donek b (P := fun c => c.word = y ∧ c.err = 0) (t' := 0) (tag' := tag + 1) (row' := []) (fun zs q => ?_) (by omega) hk).mono ?_
  · obtain ⟨zs', cl', r, h1, h2, q'⟩ := pop_last q hg
    exact ⟨zs', cl', r, ⟨h1, h2⟩, q'⟩
  · rintro e w' ⟨cl', ⟨h1, h2⟩, rfl, hs, hK⟩
    exact ⟨by rw [h1, h2], hs, hK⟩
theorem done_pop3k (b : Begun w0 w gd g gw gc n t tag [] k ⟨0, 26, 0, 0, 0, 0⟩) (hg : tag < 100000) (hk : k + 6 ≤ 1000) :
    Calls Try.prog 11 #[.pointer (some ⟨gc, 0, none⟩)] w fun e w' => e = .returned (.tuple #[.int .i64 0, .int .i64 7]) ∧ ∃ tag', tag' ≤ tag + 1 ∧ Sq w0 w' gd g gw n 0 tag' [] (k + 6) ∧ Kept w w' gc gw := by
  by_cases h0 : t = 0
  · subst h0
    refine (begun_donek b (m := 1) (P := fun c => c.word = 0 ∧ c.err = 7) (t' := 0) (tag' := tag) (row' := []) (fun zs q => ?_) (by omega) (by omega)).mono ?_
    · obtain ⟨cl', r, h1, h2⟩ := pop_zero q
      exact ⟨zs, cl', r, ⟨h1, h2⟩, q⟩
    · rintro e w' ⟨cl', ⟨h1, h2⟩, rfl, hs, hK⟩
      exact ⟨by rw [h1, h2], tag, by omega, hs.more (by omega), hK⟩
  · refine (begun_donek b (m := 6) (P := fun c => c.word = 0 ∧ c.err = 7) (t' := 0) (tag' := tag + 1) (row' := []) (fun zs q => ?_) (by omega) hk).mono ?_
    · obtain ⟨zs', cl', r, h1, h2, q'⟩ := pop_none q (by omega) hg
      exact ⟨zs', cl', r, ⟨h1, h2⟩, q'⟩
    · rintro e w' ⟨cl', ⟨h1, h2⟩, rfl, hs, hK⟩
      exact ⟨by rw [h1, h2], tag + 1, by omega, hs, hK⟩
theorem done_steal0k {i : Int} (b : Begun w0 w gd g gw gc n t tag [] k ⟨i, 27, 0, 0, 0, 0⟩) (hi : 0 ≤ i ∧ i < 64) (hk : k + 2 ≤ 1000) :
    Calls Try.prog 11 #[.pointer (some ⟨gc, 0, none⟩)] w fun e w' => e = .returned (.tuple #[.int .i64 0, .int .i64 7]) ∧ Sq w0 w' gd g gw n t tag [] (k + 2) ∧ Kept w w' gc gw := by
  refine (begun_donek b (P := fun c => c.word = 0 ∧ c.err = 7) (t' := t) (tag' := tag) (row' := []) (fun zs q => ?_) (by omega) hk).mono ?_
  · obtain ⟨cl', r, h1, h2⟩ := steal_none q i hi
    exact ⟨zs, cl', r, ⟨h1, h2⟩, q⟩
  · rintro e w' ⟨cl', ⟨h1, h2⟩, rfl, hs, hK⟩
    exact ⟨by rw [h1, h2], hs, hK⟩
theorem done_steal1k {i y : Int} {r : List Int} (b : Begun w0 w gd g gw gc n t tag (y :: r) k ⟨i, 27, 0, 0, 0, 0⟩) (hi : 0 ≤ i ∧ i < 64) (hk : k + 4 ≤ 1000) :
    Calls Try.prog 11 #[.pointer (some ⟨gc, 0, none⟩)] w fun e w' => e = .returned (.tuple #[.int .i64 y, .int .i64 0]) ∧ Sq w0 w' gd g gw n (t + 1) tag r (k + 4) ∧ Kept w w' gc gw := by
  refine (begun_donek b (P := fun c => c.word = y ∧ c.err = 0) (t' := t + 1) (tag' := tag) (row' := r) (fun zs q => ?_) (by omega) hk).mono ?_
  · obtain ⟨zs', cl', r, h1, h2, q'⟩ := steal_one q i hi
    exact ⟨zs', cl', r, ⟨h1, h2⟩, q'⟩
  · rintro e w' ⟨cl', ⟨h1, h2⟩, rfl, hs, hK⟩
    exact ⟨by rw [h1, h2], hs, hK⟩
end
end Go.Proofs.Yteaffpkmidaghaa
