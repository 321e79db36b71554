/- An offer in memory: where it lies, what its reading calls answer. -/
import Derived.Test.YtpifnhfdbcckjaaNear
namespace Go.Proofs.Ytpifnhfdbcckjaa
open Go.RowKit
set_option linter.unusedVariables false
set_option linter.unusedSimpArgs false

/-- All but the blocks of S is as it was. -/
structure Chg (S : Nat → Prop) (w w' : World) : Prop where
  os : w'.os = w.os
  tape : w'.tape = w.tape
  output : w'.output = w.output
  size : w.heap.size ≤ w'.heap.size
  block : ∀ k, k < w.heap.size → ¬ S k → w'.heap[k]? = w.heap[k]?

section
variable {S S' : Nat → Prop} {w w' w2 : World}
theorem Chg.of_below (h : Below w.heap.size w w') : Chg S w w' := ⟨h.os, h.tape, h.output, h.size, fun k hk _ => h.block k hk⟩
theorem Chg.below {base : Nat} (h : Chg S w w') (hb : base ≤ w.heap.size) (hS : ∀ k, S k → base ≤ k) : Below base w w' :=
  ⟨h.os, h.tape, h.output, h.size, fun k hk => h.block k (by omega) (fun hs => by have := hS k hs; omega)⟩
theorem Chg.trans (h : Chg S w w') (k : Chg S' w' w2) (hs : ∀ k, S' k → S k ∨ w.heap.size ≤ k) : Chg S w w2 :=
  ⟨k.os.trans h.os, k.tape.trans h.tape, k.output.trans h.output, Nat.le_trans h.size k.size, fun i hi hn =>
    (k.block i (Nat.lt_of_lt_of_le hi h.size) (fun e => by rcases hs i e with h1 | h1; exact hn h1; omega)).trans (h.block i hi hn)⟩
theorem Chg.lies {b : Nat} {t : TypeId} {cs : List Value} (h : Chg S w w') (hl : Lies w b t cs) (hb : ¬ S b) : Lies w' b t cs := hl.of_block (h.block b hl.lt hb)
theorem Chg.set {p : Addr} {u : Value} (hp : S p.block) : Chg S w (w.setCell p u) := ⟨rfl, rfl, rfl, by simp, fun k hk hs => Below.heap_setCell w _ _ k (fun e => hs (by rw [e]; exact hp))⟩
theorem Chg.wider (h : Chg S w w') (hs : ∀ k, S k → S' k) : Chg S' w w' := ⟨h.os, h.tape, h.output, h.size, fun k hk hn => h.block k hk (fun e => hn (hs k e))⟩
end

/-- An offer: its own two words, who is idle, the cell. -/
structure Ot (w : World) (base o q g gw : Nat) (ids : List Bool) (k : Int) (A : Option Addr) (c : Nat) (ts : List Tc) : Prop where
  own : Lies w o 46 [.slice (some ⟨q, 0, none⟩) ids.length ids.length, .pointer (some ⟨g, 0, none⟩)]
  idle : Lies w q 4 (ids.map Value.bool)
  at_ : At w base g gw [k] A c ts
  lo : base ≤ o
  lo' : base ≤ q

/-- The blocks that are its. -/
def theirs (o q g gw : Nat) (A : Option Addr) (i : Nat) : Prop := i = o ∨ i = q ∨ i = g ∨ i = gw ∨ some i = blk A

/-- An offer, and the blocks that are its. -/
def Oq (w : World) (base o : Nat) (ids : List Bool) (k : Int) (ts : List Tc) (S : Nat → Prop) : Prop :=
  ∃ q g gw A c, Ot w base o q g gw ids k A c ts ∧ ∀ i, S i ↔ theirs o q g gw A i

section
variable {w w' w2 : World} {base o q g gw : Nat} {ids : List Bool} {k : Int} {A : Option Addr} {c : Nat} {ts : List Tc} {S : Nat → Prop}
theorem Ot.kept (h : Ot w base o q g gw ids k A c ts) (hb : Below w.heap.size w w') : Ot w' base o q g gw ids k A c ts :=
  ⟨h.own.kept hb, h.idle.kept hb, h.at_.kept hb, h.lo, h.lo'⟩
theorem Ot.own_lt (h : Ot w base o q g gw ids k A c ts) : ∀ i, theirs o q g gw A i → base ≤ i ∧ i < w.heap.size := fun i hi => by
  rcases hi with rfl | rfl | rfl | rfl | e
  · exact ⟨h.lo, h.own.lt⟩
  · exact ⟨h.lo', h.idle.lt⟩
  · exact ⟨h.at_.lo, h.at_.own.lt⟩
  · exact ⟨h.at_.lo', h.at_.words.lt⟩
  · have := h.at_.row_of i e.symm; exact ⟨this.1, this.2.1⟩
theorem Oq.kept (h : Oq w base o ids k ts S) (hb : Below w.heap.size w w') : Oq w' base o ids k ts S := by
  obtain ⟨q, g, gw, A, c, h1, h2⟩ := h
  exact ⟨q, g, gw, A, c, h1.kept hb, h2⟩
theorem Oq.lt (h : Oq w base o ids k ts S) : ∀ i, S i → base ≤ i ∧ i < w.heap.size := fun i hi => by
  obtain ⟨q, g, gw, A, c, h1, h2⟩ := h
  exact h1.own_lt i ((h2 i).1 hi)
theorem Oq.base_le (h : Oq w base o ids k ts S) : base ≤ w.heap.size := by
  obtain ⟨q, g, gw, A, c, h1, h2⟩ := h
  have := h1.lo; have := h1.own.lt; omega
theorem Ot.oq (h : Ot w base o q g gw ids k A c ts) : Oq w base o ids k ts (theirs o q g gw A) := ⟨q, g, gw, A, c, h, fun _ => Iff.rfl⟩
/-- What some change that isn't its leaves. -/
theorem Oq.other {R : Nat → Prop} (h : Oq w base o ids k ts S) (hc : Chg R w w') (hR : ∀ i, S i → ¬ R i) : Oq w' base o ids k ts S := by
  obtain ⟨q, g, gw, A, c, h1, h2⟩ := h
  have e : ∀ j, theirs o q g gw A j → w'.heap[j]? = w.heap[j]? := fun j hj => hc.block j (h1.own_lt j hj).2 (hR j ((h2 j).2 hj))
  refine ⟨q, g, gw, A, c, ⟨h1.own.of_block (e o (Or.inl rfl)), h1.idle.of_block (e q (Or.inr (Or.inl rfl))), ?_, h1.lo, h1.lo'⟩, h2⟩
  exact ⟨h1.at_.own.of_block (e g (Or.inr (Or.inr (Or.inl rfl)))), h1.at_.words.of_block (e gw (Or.inr (Or.inr (Or.inr (Or.inl rfl))))),
    owns_of_block h1.at_.log fun j hj => e j (Or.inr (Or.inr (Or.inr (Or.inr (by rw [own_blk] at hj; exact hj.symm))))), h1.at_.some_, h1.at_.most, h1.at_.lo, h1.at_.lo'⟩
theorem Oq.far {b i : Nat} {u : Value} (h : Oq w base o ids k ts S) (hb : ¬ S b) : Oq (w.setCell ⟨b, i, none⟩ u) base o ids k ts S :=
  h.other (Chg.set (S := fun j => j = b) rfl) fun i hi e => hb (e ▸ hi)
theorem Oq.not_box {b : Nat} {t : TypeId} {cs : List Value} (h : Oq w base o ids k ts S) (hL : Lies w b t cs) (t1 : t ≠ 46) (t2 : t ≠ 4) (t3 : t ≠ 53) (t4 : t ≠ 3) (t5 : t ≠ 58) : ¬ S b := fun hS => by
  obtain ⟨q, g, gw, A, c, h1, h2⟩ := h
  rcases (h2 b).1 hS with e | e | e | e | e
  · exact hL.apart h1.own t1 e
  · exact hL.apart h1.idle t2 e
  · exact hL.apart h1.at_.own t3 e
  · exact hL.apart h1.at_.words t4 e
  · exact h1.at_.not_row hL t5 e

/-- What is told behind a step: the offer, and that nothing else has turned. -/
def Step (w w' : World) (base o : Nat) (S : Nat → Prop) (ids : List Bool) (k : Int) (ts : List Tc) : Prop :=
  ∃ S', Oq w' base o ids k ts S' ∧ Chg S w w' ∧ ∀ i, S' i → S i ∨ w.heap.size ≤ i
theorem Step.below {ids' : List Bool} {k' : Int} {ts' : List Tc} (h : Oq w base o ids k ts S) (s : Step w w' base o S ids' k' ts') : Below base w w' := by
  obtain ⟨S', _, h2, _⟩ := s
  exact h2.below h.base_le fun i hi => (h.lt i hi).1
theorem same_step (h : Oq w base o ids k ts S) (hb : Below w.heap.size w w') : Step w w' base o S ids k ts :=
  ⟨S, h.kept hb, Chg.of_below hb, fun i hi => Or.inl hi⟩
theorem Step.of_theirs {ids' : List Bool} {k' : Int} {ts' : List Tc} (s : Step w w' base o (theirs o q g gw A) ids' k' ts') (h : ∀ i, S i ↔ theirs o q g gw A i) : Step w w' base o S ids' k' ts' := by
  obtain ⟨S', s1, s2, s3⟩ := s
  exact ⟨S', s1, s2.wider fun k hk => (h k).2 hk, fun i hi => (s3 i hi).imp (fun e => (h i).2 e) id⟩
theorem Step.then {ids' : List Bool} {k' : Int} {ts' : List Tc} (s : Step w w' base o S ids' k' ts') (hb : Below w'.heap.size w' w2) : Step w w2 base o S ids' k' ts' := by
  obtain ⟨S', s1, s2, s3⟩ := s
  exact ⟨S', s1.kept hb, s2.trans (Chg.of_below (S := S) hb) (fun k hk => Or.inl hk), s3⟩

theorem set_bools {ids : List Bool} {i : Nat} {b : Bool} : (ids.map Value.bool).set i (.bool b) = (ids.set i b).map Value.bool := by rw [List.map_set]
/-- One of the row is set. -/
theorem Ot.turned (h : Ot w base o q g gw ids k A c ts) (i : Nat) (b : Bool) : Ot (w.setCell ⟨q, i, none⟩ (.bool b)) base o q g gw (ids.set i b) k A c ts := by
  have el : (ids.set i b).length = ids.length := by simp
  refine ⟨by rw [el]; exact h.own.far (p := ⟨q, i, none⟩) (h.own.apart h.idle (by decide)) _, by rw [← set_bools]; exact h.idle.set i _, ?_, h.lo, h.lo'⟩
  exact ⟨h.at_.own.far (p := ⟨q, i, none⟩) (h.at_.own.apart h.idle (by decide)) _, h.at_.words.far (p := ⟨q, i, none⟩) (h.at_.words.apart h.idle (by decide)) _,
    owns_of_block h.at_.log fun j hj => Below.heap_setCell w _ _ j (fun e => by
      obtain ⟨cs', h'⟩ := h.at_.row_lies (k := j) (by rw [own_blk] at hj; exact hj)
      exact h'.apart h.idle (by decide) e), h.at_.some_, h.at_.most, h.at_.lo, h.at_.lo'⟩
theorem Chg.turned {i : Nat} {b : Bool} : Chg (theirs o q g gw A) w (w.setCell ⟨q, i, none⟩ (.bool b)) := Chg.set (Or.inr (Or.inl rfl))
/-- The cell was touched. -/
theorem Ot.touched {k' : Int} {ts' : List Tc} (h : Ot w base o q g gw ids k A c ts) (d : Did w w' base g gw A [k'] ts') :
    ∃ A' c', Ot w' base o q g gw ids k' A' c' ts' ∧ Chg (theirs o q g gw A) w w' ∧ ∀ i, theirs o q g gw A' i → theirs o q g gw A i ∨ w.heap.size ≤ i := by
  obtain ⟨A', c', h1, E, M⟩ := d
  have R : Ot w' base o q g gw ids k' A' c' ts' := by
    refine ⟨E.lies h.own (h.own.apart h.at_.own (by decide)) (h.own.apart h.at_.words (by decide)) (h.at_.not_row h.own (by decide)), ?_, h1, h.lo, h.lo'⟩
    exact E.lies h.idle (h.idle.apart h.at_.own (by decide)) (h.idle.apart h.at_.words (by decide)) (h.at_.not_row h.idle (by decide))
  refine ⟨A', c', R, ⟨E.os, E.tape, E.output, E.size, fun i hi hn => E.block i hi (fun e => hn (Or.inr (Or.inr (Or.inl e)))) (fun e => hn (Or.inr (Or.inr (Or.inr (Or.inl e))))) (fun e => hn (Or.inr (Or.inr (Or.inr (Or.inr e)))))⟩, fun i hi => ?_⟩
  rcases hi with e | e | e | e | e
  · exact Or.inl (Or.inl e)
  · exact Or.inl (Or.inr (Or.inl e))
  · exact Or.inl (Or.inr (Or.inr (Or.inl e)))
  · exact Or.inl (Or.inr (Or.inr (Or.inr (Or.inl e))))
  · rcases M with e' | ⟨q, e', hq⟩
    · exact Or.inl (Or.inr (Or.inr (Or.inr (Or.inr (e.trans e')))))
    · right; rw [e'] at e; injection e with e; omega
/-- A step behind a change of the row. -/
theorem Step.after {ids' : List Bool} {k' : Int} {ts' : List Tc} (hC : Chg S w w') (s : Step w' w2 base o S ids' k' ts') : Step w w2 base o S ids' k' ts' := by
  obtain ⟨S', s1, s2, s3⟩ := s
  exact ⟨S', s1, hC.trans s2 (fun k hk => Or.inl hk), fun i hi => (s3 i hi).imp id (fun e => Nat.le_trans hC.size e)⟩

theorem has_yes (h : Ot w base o q g gw ids k A c ts) (i : Nat) (hi : i < ids.length) : Calls Try.prog 15 #[.pointer (some ⟨o, 0, none⟩), .int .i64 i] w fun e w' => e = .returned (.bool true) ∧ w = w' := by
  have hc0 : w.cell? ⟨o, 0, none⟩ = some (.slice (some ⟨q, 0, none⟩) ids.length ids.length) := h.own.cell 0
  clear h
  have d0' : decide ((0 : Int) ≤ (i : Int)) = true := by simp
  have d1 : decide ((i : Int) < (ids.length : Int)) = true := by simp; omega
  go_enter Try.func15, Try.ntmps15
  go_wp2
  go_ret
  exact ⟨rfl, rfl⟩
theorem has_no (h : Ot w base o q g gw ids k A c ts) (i : Int) (hi : i < 0 ∨ ids.length ≤ i) : Calls Try.prog 15 #[.pointer (some ⟨o, 0, none⟩), .int .i64 i] w fun e w' => e = .returned (.bool false) ∧ w = w' := by
  have hc0 : w.cell? ⟨o, 0, none⟩ = some (.slice (some ⟨q, 0, none⟩) ids.length ids.length) := h.own.cell 0
  clear h
  by_cases h0 : i < 0
  · have d0 : decide ((0 : Int) ≤ i) = false := by simp; omega
    clear hi
    go_enter Try.func15, Try.ntmps15
    go_wp2
    go_ret
    exact ⟨rfl, rfl⟩
  · have d0 : decide ((0 : Int) ≤ i) = true := by simp; omega
    have d1 : decide (i < (ids.length : Int)) = false := by simp; omega
    clear hi
    go_enter Try.func15, Try.ntmps15
    go_wp2
    go_ret
    exact ⟨rfl, rfl⟩

theorem Ot.cell_at (h : Ot w base o q g gw ids k A c ts) (i : Nat) (hi : i < ids.length) (b : Bool) (hb : ids.getD i false = b) : w.cell? ⟨q, i, none⟩ = some (.bool b) := by
  rw [h.idle.cell i]; simp [List.getD, hi] at hb ⊢; exact hb
theorem idle_yes (h : Oq w base o ids k ts S) (i : Nat) (hi : i < ids.length) (b : Bool) (hb : ids.getD i false = b) : Calls Try.prog 12 #[.pointer (some ⟨o, 0, none⟩), .int .i64 i] w fun e w' => e = .returned (.bool b) ∧ w = w' := by
  obtain ⟨q, g, gw, A, c, h1, h2⟩ := h
  have T := Lib.hid (has_yes h1 i hi)
  have hc0 : w.cell? ⟨o, 0, none⟩ = some (.slice (some ⟨q, 0, none⟩) ids.length ids.length) := h1.own.cell 0
  have hcq := h1.cell_at i hi b hb
  clear h1 h2 hb
  have d0 : (0 : Int) ≤ (i : Int) := by omega
  have d1 : (i : Int) < (ids.length : Int) := by omega
  go_enter Try.func12, Try.ntmps12
  go_wp2_with fail
  refine T.out.mono ?_
  rintro e w1 ⟨rfl, rfl⟩
  go_wp2
  go_ret
  exact ⟨rfl, rfl⟩
theorem idle_no (h : Oq w base o ids k ts S) (i : Int) (hi : i < 0 ∨ ids.length ≤ i) : Calls Try.prog 12 #[.pointer (some ⟨o, 0, none⟩), .int .i64 i] w fun e w' => e = .returned (.bool false) ∧ w = w' := by
  obtain ⟨q, g, gw, A, c, h1, h2⟩ := h
  have T := Lib.hid (has_no h1 i hi)
  clear h1 h2 hi
  go_enter Try.func12, Try.ntmps12
  go_wp2_with fail
  refine T.out.mono ?_
  rintro e w1 ⟨rfl, rfl⟩
  go_wp2
  go_ret
  exact ⟨rfl, rfl⟩
theorem log_any' (h : Oq w base o ids k ts S) (hts : ts.length ≤ 30000) :
    Calls Try.prog 13 #[.pointer (some ⟨o, 0, none⟩)] w fun e w' => ∃ q, e = .returned (.slice (some ⟨q, 0, none⟩) ts.length ts.length) ∧ w.heap.size ≤ q ∧ Lies w' q 58 (cellsT ts) ∧ Below w.heap.size w w' := by
  obtain ⟨q, g, gw, A, c, h1, h2⟩ := h
  have hc1 : w.cell? ⟨o, 1, none⟩ = some (.pointer (some ⟨g, 0, none⟩)) := h1.own.cell 1
  have T := Lib.hid (log_q h1.at_ hts)
  clear h1 h2
  go_enter Try.func13, Try.ntmps13
  go_wp2_with fail
  refine T.out.mono ?_
  rintro e w1 ⟨q, rfl, h1, h2, h3⟩
  have H1 := Lib.hid h1
  have H2 := Lib.hid h2
  have H3 := Lib.hid h3
  clear h1 h2 h3 T
  go_wp2
  go_ret
  exact ⟨_, rfl, H1.out, H2.out, H3.out⟩
end
end Go.Proofs.Ytpifnhfdbcckjaa
