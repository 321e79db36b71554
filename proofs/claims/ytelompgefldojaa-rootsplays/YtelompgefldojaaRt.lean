/- A row of roots in memory: where it lies, what its calls answer and leave. -/
import Derived.Test.YtelompgefldojaaRv
namespace Go.Proofs.Ytelompgefldojaa
open Go.RowKit
set_option linter.unusedVariables false
set_option linter.unusedSimpArgs false

/-- All but the blocks of S is as it was. -/
structure Chg (S : Nat → Prop) (w w' : World) : Prop where
  os : w'.os = w.os
  tape : w'.tape = w.tape
  output : w'.output = w.output
  size : w.heap.size ≤ w'.heap.size
  block : ∀ k, k < w.heap.size → ¬ S k → w'.heap[k]? = w.heap[k]?

section
variable {S S' : Nat → Prop} {w w' w2 : World}
theorem Chg.of_below (h : Below w.heap.size w w') : Chg S w w' := ⟨h.os, h.tape, h.output, h.size, fun k hk _ => h.block k hk⟩
theorem Chg.below {base : Nat} (h : Chg S w w') (hb : base ≤ w.heap.size) (hS : ∀ k, S k → base ≤ k) : Below base w w' :=
  ⟨h.os, h.tape, h.output, h.size, fun k hk => h.block k (by omega) (fun hs => by have := hS k hs; omega)⟩
theorem Chg.trans (h : Chg S w w') (k : Chg S' w' w2) (hs : ∀ k, S' k → S k ∨ w.heap.size ≤ k) : Chg S w w2 :=
  ⟨k.os.trans h.os, k.tape.trans h.tape, k.output.trans h.output, Nat.le_trans h.size k.size, fun i hi hn =>
    (k.block i (Nat.lt_of_lt_of_le hi h.size) (fun e => by rcases hs i e with h1 | h1; exact hn h1; omega)).trans (h.block i hi hn)⟩
theorem Chg.lies {b : Nat} {t : TypeId} {cs : List Value} (h : Chg S w w') (hl : Lies w b t cs) (hb : ¬ S b) : Lies w' b t cs := hl.of_block (h.block b hl.lt hb)
theorem Chg.set {p : Addr} {u : Value} (hp : S p.block) : Chg S w (w.setCell p u) := ⟨rfl, rfl, rfl, by simp, fun k hk hs => Below.heap_setCell w _ _ k (fun e => hs (by rw [e]; exact hp))⟩
theorem Chg.wider (h : Chg S w w') (hs : ∀ k, S k → S' k) : Chg S' w w' := ⟨h.os, h.tape, h.output, h.size, fun k hk hn => h.block k hk (fun e => hn (hs k e))⟩
end

/-- Roots: their own three words, the row, the cell. -/
structure Rt (w : World) (base r g gw : Nat) (B : Option Addr) (cap : Nat) (row : List Int) (part k : Int) (A : Option Addr) (c : Nat) (ts : List Tc) : Prop where
  own : Lies w r 52 [.slice B row.length cap, .int .i64 part, .pointer (some ⟨g, 0, none⟩)]
  row : Rv w base B cap row
  at_ : At w base g gw [k] A c ts
  ne : blk B ≠ some gw
  lo : base ≤ r

/-- The blocks that are theirs. -/
def theirs (r g gw : Nat) (B A : Option Addr) (k : Nat) : Prop := k = r ∨ k = g ∨ k = gw ∨ some k = blk B ∨ some k = blk A

/-- Roots, and the blocks that are theirs. -/
def Rq (w : World) (base r : Nat) (row : List Int) (part k : Int) (ts : List Tc) (S : Nat → Prop) : Prop :=
  ∃ g gw B cap A c, Rt w base r g gw B cap row part k A c ts ∧ ∀ i, S i ↔ theirs r g gw B A i

section
variable {w w' : World} {base r g gw : Nat} {B : Option Addr} {cap : Nat} {row : List Int} {part k : Int} {A : Option Addr} {c : Nat} {ts : List Tc} {S : Nat → Prop}
theorem Rt.kept (h : Rt w base r g gw B cap row part k A c ts) (hb : Below w.heap.size w w') : Rt w' base r g gw B cap row part k A c ts :=
  ⟨h.own.kept hb, h.row.below hb, h.at_.kept hb, h.ne, h.lo⟩
theorem Rt.own_lt (h : Rt w base r g gw B cap row part k A c ts) : ∀ i, theirs r g gw B A i → base ≤ i ∧ i < w.heap.size := fun i hi => by
  rcases hi with rfl | rfl | rfl | e | e
  · exact ⟨h.lo, h.own.lt⟩
  · exact ⟨h.at_.lo, h.at_.own.lt⟩
  · exact ⟨h.at_.lo', h.at_.words.lt⟩
  · obtain ⟨cs, h1, h2⟩ := h.row.lies e.symm; exact ⟨h2, h1.lt⟩
  · have := h.at_.row_of i e.symm; exact ⟨this.1, this.2.1⟩
theorem Rq.kept (h : Rq w base r row part k ts S) (hb : Below w.heap.size w w') : Rq w' base r row part k ts S := by
  obtain ⟨g, gw, B, cap, A, c, h1, h2⟩ := h
  exact ⟨g, gw, B, cap, A, c, h1.kept hb, h2⟩
theorem Rq.lt (h : Rq w base r row part k ts S) : ∀ i, S i → base ≤ i ∧ i < w.heap.size := fun i hi => by
  obtain ⟨g, gw, B, cap, A, c, h1, h2⟩ := h
  exact h1.own_lt i ((h2 i).1 hi)
theorem Rq.base_le (h : Rq w base r row part k ts S) : base ≤ w.heap.size := by
  obtain ⟨g, gw, B, cap, A, c, h1, h2⟩ := h
  have := h1.lo; have := h1.own.lt; omega
theorem Rt.q (h : Rt w base r g gw B cap row part k A c ts) : Rq w base r row part k ts (theirs r g gw B A) := ⟨g, gw, B, cap, A, c, h, fun _ => Iff.rfl⟩
/-- Some other block is set: the roots stay. -/
theorem Rq.far {b i : Nat} {u : Value} (h : Rq w base r row part k ts S) (hb : ¬ S b) : Rq (w.setCell ⟨b, i, none⟩ u) base r row part k ts S := by
  obtain ⟨g, gw, B, cap, A, c, h1, h2⟩ := h
  have e : ∀ j, theirs r g gw B A j → j ≠ b := fun j hj e => hb ((h2 b).2 (e ▸ hj))
  refine ⟨g, gw, B, cap, A, c, ⟨h1.own.far (p := ⟨b, i, none⟩) (e r (Or.inl rfl)) u, h1.row.kept fun q cs hq hl => hl.far (p := ⟨b, i, none⟩) (e q (Or.inr (Or.inr (Or.inr (Or.inl hq.symm))))) u, ?_, h1.ne, h1.lo⟩, h2⟩
  exact ⟨h1.at_.own.far (p := ⟨b, i, none⟩) (e g (Or.inr (Or.inl rfl))) u, h1.at_.words.far (p := ⟨b, i, none⟩) (e gw (Or.inr (Or.inr (Or.inl rfl)))) u,
    owns_of_block h1.at_.log fun j hj => Below.heap_setCell w _ _ j (e j (Or.inr (Or.inr (Or.inr (Or.inr (by rw [own_blk] at hj; exact hj.symm)))))), h1.at_.some_, h1.at_.most, h1.at_.lo, h1.at_.lo'⟩
/-- What some change that isn't theirs leaves. -/
theorem Rq.other {R : Nat → Prop} (h : Rq w base r row part k ts S) (hc : Chg R w w') (hR : ∀ i, S i → ¬ R i) : Rq w' base r row part k ts S := by
  obtain ⟨g, gw, B, cap, A, c, h1, h2⟩ := h
  have e : ∀ j, theirs r g gw B A j → w'.heap[j]? = w.heap[j]? := fun j hj => hc.block j (h1.own_lt j hj).2 (hR j ((h2 j).2 hj))
  refine ⟨g, gw, B, cap, A, c, ⟨h1.own.of_block (e r (Or.inl rfl)), h1.row.kept fun q cs hq hl => hl.of_block (e q (Or.inr (Or.inr (Or.inr (Or.inl hq.symm))))), ?_, h1.ne, h1.lo⟩, h2⟩
  exact ⟨h1.at_.own.of_block (e g (Or.inr (Or.inl rfl))), h1.at_.words.of_block (e gw (Or.inr (Or.inr (Or.inl rfl)))),
    owns_of_block h1.at_.log fun j hj => e j (Or.inr (Or.inr (Or.inr (Or.inr (by rw [own_blk] at hj; exact hj.symm))))), h1.at_.some_, h1.at_.most, h1.at_.lo, h1.at_.lo'⟩

/-- What is told behind a step: the roots, and that nothing else has turned. -/
def Step (w w' : World) (base r : Nat) (S : Nat → Prop) (row : List Int) (part k : Int) (ts : List Tc) : Prop :=
  ∃ S', Rq w' base r row part k ts S' ∧ Chg S w w' ∧ ∀ i, S' i → S i ∨ w.heap.size ≤ i
theorem Step.below {row' : List Int} {k' : Int} {ts' : List Tc} (h : Rq w base r row part k ts S) (s : Step w w' base r S row' part k' ts') : Below base w w' := by
  obtain ⟨S', _, h2, _⟩ := s
  exact h2.below h.base_le fun i hi => (h.lt i hi).1
theorem same_step (h : Rq w base r row part k ts S) (hb : Below w.heap.size w w') : Step w w' base r S row part k ts :=
  ⟨S, h.kept hb, Chg.of_below hb, fun i hi => Or.inl hi⟩

theorem len_any (h : Rq w base r row part k ts S) : Calls Try.prog 14 #[.pointer (some ⟨r, 0, none⟩)] w fun e w' => e = .returned (.int .i64 row.length) ∧ w = w' := by
  obtain ⟨g, gw, B, cap, A, c, h1, h2⟩ := h
  have hc0 : w.cell? ⟨r, 0, none⟩ = some (.slice B row.length cap) := h1.own.cell 0
  clear h1 h2
  go_enter Try.func14, Try.ntmps14
  go_wp2
  go_ret
  exact ⟨rfl, rfl⟩

theorem has_yes (h : Rq w base r row part k ts S) (i : Nat) (hi : i < row.length) : Calls Try.prog 18 #[.pointer (some ⟨r, 0, none⟩), .int .i64 i] w fun e w' => e = .returned (.bool true) ∧ w = w' := by
  obtain ⟨g, gw, B, cap, A, c, h1, h2⟩ := h
  have hc0 : w.cell? ⟨r, 0, none⟩ = some (.slice B row.length cap) := h1.own.cell 0
  clear h1 h2
  have d0 : decide ((i : Int) ≥ 0) = true := by simp
  have d0' : decide ((0 : Int) ≤ (i : Int)) = true := by simp
  have d1 : decide ((i : Int) < (row.length : Int)) = true := by simp; omega
  go_enter Try.func18, Try.ntmps18
  go_wp2
  go_ret
  exact ⟨rfl, rfl⟩
theorem has_no (h : Rq w base r row part k ts S) (i : Int) (hi : i < 0 ∨ row.length ≤ i) : Calls Try.prog 18 #[.pointer (some ⟨r, 0, none⟩), .int .i64 i] w fun e w' => e = .returned (.bool false) ∧ w = w' := by
  obtain ⟨g, gw, B, cap, A, c, h1, h2⟩ := h
  have hc0 : w.cell? ⟨r, 0, none⟩ = some (.slice B row.length cap) := h1.own.cell 0
  clear h1 h2
  by_cases h0 : i < 0
  · have d0 : decide ((0 : Int) ≤ i) = false := by simp; omega
    clear hi
    go_enter Try.func18, Try.ntmps18
    go_wp2
    go_ret
    exact ⟨rfl, rfl⟩
  · have d0 : decide ((0 : Int) ≤ i) = true := by simp; omega
    have d1 : decide (i < (row.length : Int)) = false := by simp; omega
    clear hi
    go_enter Try.func18, Try.ntmps18
    go_wp2
    go_ret
    exact ⟨rfl, rfl⟩

theorem get_yes (h : Rq w base r row part k ts S) (i : Nat) (hi : i < row.length) (y : Int) (hy : row.getD i 0 = y) : Calls Try.prog 12 #[.pointer (some ⟨r, 0, none⟩), .int .i64 i] w fun e w' => e = .returned (.tuple #[.int .i64 y, .int .i64 0]) ∧ w = w' := by
  have T := Lib.hid (has_yes h i hi)
  obtain ⟨g, gw, B, cap, A, c, h1, h2⟩ := h
  obtain ⟨ad, q, rfl, -, hcell, -⟩ := h1.row.at_ hi
  rw [hy] at hcell
  have hc0 : w.cell? ⟨r, 0, none⟩ = some (.slice (some ad) row.length cap) := h1.own.cell 0
  clear h1 h2 hy
  have d0 : (0 : Int) ≤ i := by omega
  have d1 : (i : Int) < row.length := by omega
  go_enter Try.func12, Try.ntmps12
  go_wp2_with fail
  refine T.out.mono ?_
  rintro e w1 ⟨rfl, rfl⟩
  go_wp2
  go_ret2
  exact ⟨rfl, rfl⟩
theorem get_no (h : Rq w base r row part k ts S) (i : Int) (hi : i < 0 ∨ row.length ≤ i) : Calls Try.prog 12 #[.pointer (some ⟨r, 0, none⟩), .int .i64 i] w fun e w' => e = .returned (.tuple #[.int .i64 0, .int .i64 13]) ∧ w = w' := by
  have T := Lib.hid (has_no h i hi)
  clear h hi
  go_enter Try.func12, Try.ntmps12
  go_wp2_with fail
  refine T.out.mono ?_
  rintro e w1 ⟨rfl, rfl⟩
  go_wp2
  go_ret2
  exact ⟨rfl, rfl⟩
theorem set_none (h : Rq w base r row part k ts S) (i y : Int) (hi : i < 0 ∨ row.length ≤ i) : Calls Try.prog 11 #[.pointer (some ⟨r, 0, none⟩), .int .i64 i, .int .i64 y] w fun e w' => e = .returned (.int .i64 13) ∧ w = w' := by
  have T := Lib.hid (has_no h i hi)
  clear h hi
  go_enter Try.func11, Try.ntmps11
  go_wp2_with fail
  refine T.out.mono ?_
  rintro e w1 ⟨rfl, rfl⟩
  go_wp2
  go_ret
  exact ⟨rfl, rfl⟩
theorem set_bad (h : Rq w base r row part k ts S) (i : Nat) (hi : i < row.length) (y : Int) (hy : y < 0) : Calls Try.prog 11 #[.pointer (some ⟨r, 0, none⟩), .int .i64 i, .int .i64 y] w fun e w' => e = .returned (.int .i64 1) ∧ w = w' := by
  have T := Lib.hid (has_yes h i hi)
  have d0 : decide (y < 0) = true := by simp; omega
  clear h hi hy
  go_enter Try.func11, Try.ntmps11
  go_wp2_with fail
  refine T.out.mono ?_
  rintro e w1 ⟨rfl, rfl⟩
  go_wp2
  go_ret
  exact ⟨rfl, rfl⟩
/-- One cell of the row is set: what became of the roots. -/
theorem Rt.turn {q : Nat} (h : Rt w base r g gw (some ⟨q, 0, none⟩) cap row part k A c ts) (i : Nat) (y : Int) :
    Step w (w.setCell ⟨q, i, none⟩ (.int .i64 y)) base r (theirs r g gw (some ⟨q, 0, none⟩) A) (row.set i y) part k ts := by
  obtain ⟨cs, hl, hq⟩ := h.row.lies (k := q) rfl
  have hgw : q ≠ gw := fun e => h.ne (by rw [e]; rfl)
  have h1 := h.own.far (p := ⟨q, i, none⟩) (hl.apart h.own (by decide)).symm (.int .i64 y)
  have el : (row.set i y).length = row.length := by simp
  rw [← el] at h1
  exact ⟨_, Rt.q ⟨h1, h.row.turn i y, h.at_.far hl hgw i _, h.ne, h.lo⟩, Chg.set (Or.inr (Or.inr (Or.inr (Or.inl rfl)))), fun i hi => Or.inl hi⟩
theorem set_yes (h : Rq w base r row part k ts S) (i : Nat) (hi : i < row.length) (y : Int) (hy : 0 ≤ y) : Calls Try.prog 11 #[.pointer (some ⟨r, 0, none⟩), .int .i64 i, .int .i64 y] w fun e w' => e = .returned (.int .i64 0) ∧ Step w w' base r S (row.set i y) part k ts := by
  have T := Lib.hid (has_yes h i hi)
  have d0 : decide (y < 0) = false := by simp; omega
  obtain ⟨g, gw, B, cap, A, c, h1, h2⟩ := h
  obtain ⟨ad, q, rfl, had, hcell, hfr⟩ := h1.row.at_ hi
  have hc0 : w.cell? ⟨r, 0, none⟩ = some (.slice (some ad) row.length cap) := h1.own.cell 0
  have K : Hid (Step w (w.setCell (ad.add i) (.int .i64 y)) base r S (row.set i y) part k ts) := Lib.hid (by
    subst had
    rw [add_at]
    obtain ⟨S', s1, s2, s3⟩ := h1.turn i y
    exact ⟨S', s1, s2.wider fun k hk => (h2 k).2 hk, fun i hi => (s3 i hi).imp (fun h => (h2 i).2 h) id⟩)
  clear h1 h2 hy had
  have d2 : (0 : Int) ≤ i := by omega
  have d1 : (i : Int) < row.length := by omega
  go_enter Try.func11, Try.ntmps11
  go_wp2_with fail
  refine T.out.mono ?_
  rintro e w1 ⟨rfl, rfl⟩
  go_wp2
  go_ret
  exact ⟨rfl, K.out⟩
end
end Go.Proofs.Ytelompgefldojaa
