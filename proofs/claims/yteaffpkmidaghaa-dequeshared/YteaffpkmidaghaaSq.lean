/- Calls one behind the other, in memory. -/
import Derived.Test.YteaffpkmidaghaaAw
namespace Go.Proofs.Yteaffpkmidaghaa
open Go.RowKit
set_option linter.unusedVariables false
set_option linter.unusedSimpArgs false

/-- A deque that nobody has a call of, in memory; at most k touches were written down. -/
def Sq (w0 w : World) (gd g gw n t tag : Nat) (row : List Int) (k : Nat) : Prop :=
  ∃ A c zs ts, Dq w w0.heap.size gd g gw zs A c ts ∧ Q zs n t tag row ∧ ts.length ≤ k ∧ Below w0.heap.size w0 w
/-- The same, and a call that was begun. -/
def Begun (w0 w : World) (gd g gw gc n t tag : Nat) (row : List Int) (k : Nat) (cl : Cl) : Prop :=
  ∃ A c zs ts, Dq w w0.heap.size gd g gw zs A c ts ∧ Q zs n t tag row ∧ ts.length ≤ k ∧ Below w0.heap.size w0 w ∧ Lies w gc 58 (cl.cells g) ∧ w0.heap.size ≤ gc ∧ gd ≠ gc

theorem Dq.kept {w w' : World} {base gd g gw : Nat} {zs : List Int} {A : Option Addr} {c : Nat} {ts : List Tc} (h : Dq w base gd g gw zs A c ts) (b : Below w.heap.size w w') : Dq w' base gd g gw zs A c ts :=
  ⟨h.at_.kept b, h.own.kept b, h.lo⟩

section
variable {w0 w w' : World} {gd g gw gc n t tag : Nat} {row : List Int} {k : Nat} {cl : Cl} {x : Int}
theorem Sq.kept (h : Sq w0 w gd g gw n t tag row k) (b : Below w.heap.size w w') : Sq w0 w' gd g gw n t tag row k := by
  obtain ⟨A, c, zs, ts, H, q, hk, B⟩ := h
  exact ⟨A, c, zs, ts, H.kept b, q, hk, on B B.size b⟩
theorem Sq.below (h : Sq w0 w gd g gw n t tag row k) : Below w0.heap.size w0 w := by
  obtain ⟨A, c, zs, ts, H, q, hk, B⟩ := h
  exact B
theorem Sq.more (h : Sq w0 w gd g gw n t tag row k) {k' : Nat} (hk : k ≤ k') : Sq w0 w gd g gw n t tag row k' := by
  obtain ⟨A, c, zs, ts, H, q, h1, B⟩ := h
  exact ⟨A, c, zs, ts, H, q, by omega, B⟩
theorem Sq.own (h : Sq w0 w gd g gw n t tag row k) : Lies w gd 55 [.pointer (some ⟨g, 0, none⟩)] := by
  obtain ⟨A, c, zs, ts, H, q, h1, B⟩ := h
  exact H.own
theorem Sq.q (h : Sq w0 w gd g gw n t tag row k) : ∃ zs, Q zs n t tag row := by
  obtain ⟨A, c, zs, ts, H, q, h1, B⟩ := h
  exact ⟨zs, q⟩
theorem Sq.begun (h : Sq w0 w gd g gw n t tag row k) (L : Lies w' w.heap.size 58 (cl.cells g)) (b : Below w.heap.size w w') : Begun w0 w' gd g gw w.heap.size n t tag row k cl := by
  obtain ⟨A, c, zs, ts, H, q, hk, B⟩ := h
  exact ⟨A, c, zs, ts, H.kept b, q, hk, on B B.size b, L, B.size, by have := H.own.lt; omega⟩

theorem sq_new (z : Int) (n : Nat) (hz : z = n) (w0 w : World) (B : Below w0.heap.size w0 w) (h1 : 2 ≤ n) (h2 : n ≤ 1024) :
    Calls Try.prog 10 #[.int .i64 z] w fun e w' => ∃ gd g gw, e = .returned (.tuple #[.pointer (some ⟨gd, 0, none⟩), .int .i64 0]) ∧ Sq w0 w' gd g gw n 0 0 [] 0 := by
  refine (dnew_yes z n hz w w0.heap.size B.size h1 h2).mono ?_
  rintro e w' ⟨gd, g, gw, rfl, B', H⟩
  exact ⟨gd, g, gw, rfl, _, _, _, _, H, Q.new n h1 h2, by simp, on B B.size B'⟩
theorem sq_push (h : Sq w0 w gd g gw n t tag row k) (x : Int) : Calls Try.prog 12 #[.pointer (some ⟨gd, 0, none⟩), .int .i64 x] w fun e w' => ∃ gc, e = .returned (.pointer (some ⟨gc, 0, none⟩)) ∧ Begun w0 w' gd g gw gc n t tag row k ⟨0, 25, 0, 0, x, 0⟩ :=
  (push_any h.own x).mono fun e w' ⟨he, L, B⟩ => ⟨_, he, h.begun L B⟩
theorem sq_pop (h : Sq w0 w gd g gw n t tag row k) : Calls Try.prog 13 #[.pointer (some ⟨gd, 0, none⟩)] w fun e w' => ∃ gc, e = .returned (.pointer (some ⟨gc, 0, none⟩)) ∧ Begun w0 w' gd g gw gc n t tag row k ⟨0, 26, 0, 0, 0, 0⟩ :=
  (pop_any h.own).mono fun e w' ⟨he, L, B⟩ => ⟨_, he, h.begun L B⟩
theorem sq_steal (h : Sq w0 w gd g gw n t tag row k) (i : Int) (h0 : 1 ≤ i) (h1 : i < 64) : Calls Try.prog 14 #[.pointer (some ⟨gd, 0, none⟩), .int .i64 i] w fun e w' => ∃ gc, e = .returned (.tuple #[.pointer (some ⟨gc, 0, none⟩), .int .i64 0]) ∧ Begun w0 w' gd g gw gc n t tag row k ⟨i, 27, 0, 0, 0, 0⟩ :=
  (steal_yes h.own i h0 h1).mono fun e w' ⟨he, L, B⟩ => ⟨_, he, h.begun L B⟩
theorem sq_words (h : Sq w0 w gd g gw n t tag row k) : Calls Try.prog 15 #[.pointer (some ⟨gd, 0, none⟩)] w fun e w' => ∃ a, e = .returned (.slice (some a) row.length row.length) ∧ Row .i64 w' (some a) row ∧ Below w.heap.size w w' := by
  obtain ⟨A, c, zs, ts, H, q, hk, B⟩ := h
  exact qwords H.at_ H.own q

/-- A call that was begun, all of it: as its run says. -/
theorem begun_done (b : Begun w0 w gd g gw gc n t tag row k cl) {m t' tag' : Nat} {row' : List Int} {P : Cl → Prop}
    (run : ∀ zs, Q zs n t tag row → ∃ zs' cl', Runs m zs cl zs' cl' ∧ P cl' ∧ Q zs' n t' tag' row') (h9 : m ≤ 9) (hk : k + m ≤ 1000) :
    Calls Try.prog 11 #[.pointer (some ⟨gc, 0, none⟩)] w fun e w' => ∃ cl', P cl' ∧ e = .returned (.tuple #[.int .i64 cl'.word, .int .i64 cl'.err]) ∧ Sq w0 w' gd g gw n t' tag' row' (k + m) := by
  obtain ⟨A, c, zs, ts, H, q, hk', B, L, lo, ne⟩ := b
  obtain ⟨zs', cl', r, p, q'⟩ := run zs q
  refine (cdone_any H.at_ L r h9 (by omega)).mono ?_
  rintro e w' ⟨rfl, ts', hts, D⟩
  refine ⟨cl', p, rfl, ?_⟩
  have hlow := D.low H.at_ lo
  have ho := D.lies58 H.at_ H.own ne (by decide) (by decide) (by decide)
  obtain ⟨A', c', H', _⟩ := D
  exact ⟨A', c', zs', ts', ⟨H', ho, H.lo⟩, q', by omega, B.trans hlow⟩

theorem done_push (b : Begun w0 w gd g gw gc n t tag row k ⟨0, 25, 0, 0, x, 0⟩) (h : t + row.length < n) (hk : k + 3 ≤ 1000) :
    Calls Try.prog 11 #[.pointer (some ⟨gc, 0, none⟩)] w fun e w' => ∃ y, e = .returned (.tuple #[.int .i64 y, .int .i64 0]) ∧ Sq w0 w' gd g gw n t tag (row ++ [x]) (k + 3) := by
  refine (begun_done b (P := fun c => c.err = 0) (t' := t) (tag' := tag) (row' := row ++ [x]) (fun zs q => ?_) (by omega) hk).mono ?_
  · obtain ⟨zs', cl', r, he, q'⟩ := push_ok q h x
    exact ⟨zs', cl', r, he, q'⟩
  · rintro e w' ⟨cl', hp, rfl, hs⟩
    exact ⟨cl'.word, by rw [hp], hs⟩
theorem done_full (b : Begun w0 w gd g gw gc n t tag row k ⟨0, 25, 0, 0, x, 0⟩) (h : t + row.length = n) (hk : k + 1 ≤ 1000) :
    Calls Try.prog 11 #[.pointer (some ⟨gc, 0, none⟩)] w fun e w' => ∃ y, e = .returned (.tuple #[.int .i64 y, .int .i64 6]) ∧ Sq w0 w' gd g gw n t tag row (k + 1) := by
  refine (begun_done b (P := fun c => c.err = 6) (t' := t) (tag' := tag) (row' := row) (fun zs q => ?_) (by omega) hk).mono ?_
  · obtain ⟨cl', r, he⟩ := push_full q h x
    exact ⟨zs, cl', r, he, q⟩
  · rintro e w' ⟨cl', hp, rfl, hs⟩
    exact ⟨cl'.word, by rw [hp], hs⟩
theorem done_pop1 {r : List Int} {y : Int} (b : Begun w0 w gd g gw gc n t tag (r ++ [y]) k ⟨0, 26, 0, 0, 0, 0⟩) (h : 0 < r.length) (hk : k + 4 ≤ 1000) :
    Calls Try.prog 11 #[.pointer (some ⟨gc, 0, none⟩)] w fun e w' => e = .returned (.tuple #[.int .i64 y, .int .i64 0]) ∧ Sq w0 w' gd g gw n t tag r (k + 4) := by
  refine (begun_done b (P := fun c => c.word = y ∧ c.err = 0) (t' := t) (tag' := tag) (row' := r) (fun zs q => ?_) (by omega) hk).mono ?_
  · obtain ⟨zs', cl', r, h1, h2, q'⟩ := pop_one q h
    exact ⟨zs', cl', r, ⟨h1, h2⟩, q'⟩
  · rintro e w' ⟨cl', ⟨h1, h2⟩, rfl, hs⟩
    exact ⟨by rw [h1, h2], hs⟩
theorem done_pop2 {y : Int} (b : Begun w0 w gd g gw gc n t tag [y] k ⟨0, 26, 0, 0, 0, 0⟩) (hg : tag < 100000) (hk : k + 6 ≤ 1000) :
    Calls Try.prog 11 #[.pointer (some ⟨gc, 0, none⟩)] w fun e w' => e = .returned (.tuple #[.int .i64 y, .int .i64 0]) ∧ Sq w0 w' gd g gw n 0 (tag + 1) [] (k + 6) := by
  refine (begun_done b (P := fun c => c.word = y ∧ c.err = 0) (t' := 0) (tag' := tag + 1) (row' := []) (fun zs q => ?_) (by omega) hk).mono ?_
  · obtain ⟨zs', cl', r, h1, h2, q'⟩ := pop_last q hg
    exact ⟨zs', cl', r, ⟨h1, h2⟩, q'⟩
  · rintro e w' ⟨cl', ⟨h1, h2⟩, rfl, hs⟩
    exact ⟨by rw [h1, h2], hs⟩
theorem done_pop3 (b : Begun w0 w gd g gw gc n t tag [] k ⟨0, 26, 0, 0, 0, 0⟩) (hg : tag < 100000) (hk : k + 6 ≤ 1000) :
    Calls Try.prog 11 #[.pointer (some ⟨gc, 0, none⟩)] w fun e w' => e = .returned (.tuple #[.int .i64 0, .int .i64 7]) ∧ ∃ tag', tag' ≤ tag + 1 ∧ Sq w0 w' gd g gw n 0 tag' [] (k + 6) := by
  by_cases h0 : t = 0
  · subst h0
    refine (begun_done b (m := 1) (P := fun c => c.word = 0 ∧ c.err = 7) (t' := 0) (tag' := tag) (row' := []) (fun zs q => ?_) (by omega) (by omega)).mono ?_
    · obtain ⟨cl', r, h1, h2⟩ := pop_zero q
      exact ⟨zs, cl', r, ⟨h1, h2⟩, q⟩
    · rintro e w' ⟨cl', ⟨h1, h2⟩, rfl, hs⟩
      exact ⟨by rw [h1, h2], tag, by omega, hs.more (by omega)⟩
  · refine (begun_done b (m := 6) (P := fun c => c.word = 0 ∧ c.err = 7) (t' := 0) (tag' := tag + 1) (row' := []) (fun zs q => ?_) (by omega) hk).mono ?_
    · obtain ⟨zs', cl', r, h1, h2, q'⟩ := pop_none q (by omega) hg
      exact ⟨zs', cl', r, ⟨h1, h2⟩, q'⟩
    · rintro e w' ⟨cl', ⟨h1, h2⟩, rfl, hs⟩
      exact ⟨by rw [h1, h2], tag + 1, by omega, hs⟩
theorem done_steal0 {i : Int} (b : Begun w0 w gd g gw gc n t tag [] k ⟨i, 27, 0, 0, 0, 0⟩) (hi : 0 ≤ i ∧ i < 64) (hk : k + 2 ≤ 1000) :
    Calls Try.prog 11 #[.pointer (some ⟨gc, 0, none⟩)] w fun e w' => e = .returned (.tuple #[.int .i64 0, .int .i64 7]) ∧ Sq w0 w' gd g gw n t tag [] (k + 2) := by
  refine (begun_done b (P := fun c => c.word = 0 ∧ c.err = 7) (t' := t) (tag' := tag) (row' := []) (fun zs q => ?_) (by omega) hk).mono ?_
  · obtain ⟨cl', r, h1, h2⟩ := steal_none q i hi
    exact ⟨zs, cl', r, ⟨h1, h2⟩, q⟩
  · rintro e w' ⟨cl', ⟨h1, h2⟩, rfl, hs⟩
    exact ⟨by rw [h1, h2], hs⟩
theorem done_steal1 {i y : Int} {r : List Int} (b : Begun w0 w gd g gw gc n t tag (y :: r) k ⟨i, 27, 0, 0, 0, 0⟩) (hi : 0 ≤ i ∧ i < 64) (hk : k + 4 ≤ 1000) :
    Calls Try.prog 11 #[.pointer (some ⟨gc, 0, none⟩)] w fun e w' => e = .returned (.tuple #[.int .i64 y, .int .i64 0]) ∧ Sq w0 w' gd g gw n (t + 1) tag r (k + 4) := by
  refine (begun_done b (P := fun c => c.word = y ∧ c.err = 0) (t' := t + 1) (tag' := tag) (row' := r) (fun zs q => ?_) (by omega) hk).mono ?_
  · obtain ⟨zs', cl', r, h1, h2, q'⟩ := steal_one q i hi
    exact ⟨zs', cl', r, ⟨h1, h2⟩, q'⟩
  · rintro e w' ⟨cl', ⟨h1, h2⟩, rfl, hs⟩
    exact ⟨by rw [h1, h2], hs⟩
end
end Go.Proofs.Yteaffpkmidaghaa
