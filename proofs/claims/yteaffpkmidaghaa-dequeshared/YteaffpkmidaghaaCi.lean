/- A call, all of it. -/
import Derived.Test.YteaffpkmidaghaaCh
namespace Go.Proofs.Yteaffpkmidaghaa
open Go.RowKit
set_option linter.unusedVariables false
set_option linter.unusedSimpArgs false

/-- So many steps lead from a call, and words, to its end, and others. -/
inductive Runs : Nat → List Int → Cl → List Int → Cl → Prop
  | one {zs : List Int} {c : Cl} : Fit zs c → (stepF zs c).1.nx = 0 → Runs 1 zs c (stepF zs c).2 (stepF zs c).1
  | more {n : Nat} {zs zs' : List Int} {c c' : Cl} : Fit zs c → (stepF zs c).1.nx ≠ 0 → Runs n (stepF zs c).2 (stepF zs c).1 zs' c' → Runs (n + 1) zs c zs' c'
theorem Runs.ends {n : Nat} {zs zs' : List Int} {c c' : Cl} (r : Runs n zs c zs' c') : c'.nx = 0 := by
  induction r with
  | one f h => exact h
  | more f h r ih => exact ih
theorem Runs.pos {n : Nat} {zs zs' : List Int} {c c' : Cl} (r : Runs n zs c zs' c') : 1 ≤ n := by cases r <;> omega
theorem Runs.fit {n : Nat} {zs zs' : List Int} {c c' : Cl} (r : Runs n zs c zs' c') : Fit zs c := by cases r <;> assumption
theorem Runs.two {n : Nat} {zs zs' : List Int} {c c' : Cl} (r : Runs n zs c zs' c') : (n = 1 ∧ (stepF zs c).1.nx = 0 ∧ zs' = (stepF zs c).2 ∧ c' = (stepF zs c).1) ∨ ∃ m, n = m + 1 ∧ (stepF zs c).1.nx ≠ 0 ∧ Runs m (stepF zs c).2 (stepF zs c).1 zs' c' := by
  cases r with
  | one f h => exact Or.inl ⟨rfl, h, rfl, rfl⟩
  | more f h r => exact Or.inr ⟨_, rfl, h, r⟩

section
variable {w w' : World} {base gd g gw gc : Nat} {zs : List Int} {A : Option Addr} {c : Nat} {ts : List Tc} {cl : Cl}

/-- What is told behind several steps of a call; the touches are so many more. -/
def Ran (w w' : World) (base gc g gw : Nat) (A : Option Addr) (zs : List Int) (n : Nat) (cl : Cl) : Prop := ∃ ts', ts'.length = n ∧ Dn w w' base gc g gw A zs ts' cl

theorem Ex.trans {r r' : Option Nat} {a b d : World} (h : Ex gc g gw r a b) (k : Ex gc g gw r' b d) (m : Moved a r r') : Ex gc g gw r a d :=
  ⟨k.os.trans h.os, k.tape.trans h.tape, k.output.trans h.output, Nat.le_trans h.size k.size, fun i hi h0 h1 h2 h3 =>
    (k.block i (Nat.lt_of_lt_of_le hi h.size) h0 h1 h2 (by
      rcases m with rfl | ⟨q, rfl, hq⟩
      · exact h3
      · intro e; injection e with e; omega)).trans (h.block i hi h0 h1 h2 h3)⟩
theorem Ex.below {row : Option Nat} {B : Nat} (e : Ex gc g gw row w w') (hB : B ≤ w.heap.size) (h0 : B ≤ gc) (h1 : B ≤ g) (h2 : B ≤ gw) (h3 : ∀ k, row = some k → B ≤ k) : Below B w w' :=
  ⟨e.os, e.tape, e.output, e.size, fun k hk => e.block k (by omega) (by omega) (by omega) (by omega) (fun e => by have := h3 k e.symm; omega)⟩
theorem Dn.low {zs' : List Int} {ts' : List Tc} (d : Dn w w' base gc g gw A zs' ts' cl) (h : At w base g gw zs A c ts) (hg : base ≤ gc) : Below base w w' := by
  obtain ⟨A', c', h1, h2, h3, h4⟩ := d
  exact h3.below h.old hg h.lo h.lo' fun k hk => (h.row_of k hk).1
theorem Dn.lies_of {zs' : List Int} {ts' : List Tc} (d : Dn w w' base gc g gw A zs' ts' cl) (h : At w base g gw zs A c ts) {b : Nat} {t : TypeId} {cs : List Value} (hl : Lies w b t cs) (h0 : b ≠ gc) (h1 : t ≠ 61) (h2 : t ≠ 70) (h3 : b ≠ gw) : Lies w' b t cs := by
  obtain ⟨A', c', _, _, e, _⟩ := d
  exact e.lies hl h0 (hl.apart h.own h1) h3 (h.not_row hl h2)
theorem Dn.lies58 {zs' : List Int} {ts' : List Tc} (d : Dn w w' base gc g gw A zs' ts' cl) (h : At w base g gw zs A c ts) {b : Nat} {t : TypeId} {cs : List Value} (hl : Lies w b t cs) (h0 : b ≠ gc) (h1 : t ≠ 61) (h2 : t ≠ 70) (h3 : t ≠ 3) : Lies w' b t cs :=
  d.lies_of h hl h0 h1 h2 (hl.apart h.words h3)

set_option maxHeartbeats 1000000 in
theorem cdone_any {n : Nat} {zs' : List Int} {cl' : Cl} (h : At w base g gw zs A c ts) (hl : Lies w gc 58 (cl.cells g)) (r : Runs n zs cl zs' cl') (h9 : n ≤ 9) (hts : ts.length + n ≤ 1000) :
    Calls Try.prog 11 #[.pointer (some ⟨gc, 0, none⟩)] w fun e w' => e = .returned (.tuple #[.int .i64 cl'.word, .int .i64 cl'.err]) ∧ Ran w w' base gc g gw A zs' (ts.length + n) cl' := by
  have hne : ∀ W : World, (binOp .eql 31 (.pointer (some ⟨gc, 0, none⟩)) (.pointer none)).run Try.prog W = .ok (.bool false) W := fun _ => by kernel_rfl
  have HH := Lib.hid h
  have HL := Lib.hid hl
  have HR := Lib.hid r
  clear h hl r
  go_enter Try.func11, Try.ntmps11
  go_wp2
  go_loopw [4] (fun i wr => ∃ (j m : Nat) (A1 : Option Addr) (c1 : Nat) (zs1 : List Int) (ts1 : List Tc) (cl1 : Cl), i = .int .i64 j ∧ m + j = n ∧ Runs m zs1 cl1 zs' cl' ∧ ts1.length + m = ts.length + n ∧ At wr base g gw zs1 A1 c1 ts1 ∧ Lies wr gc 58 (cl1.cells g) ∧ Ex gc g gw (blk A) w wr ∧ Moved w (blk A) (blk A1)) (fun i _ => 9 - (intOf i).toNat)
  case atStart => exact ⟨0, n, A, c, zs, ts, cl, rfl, by omega, HR.out, rfl, HH.out, HL.out, ⟨rfl, rfl, rfl, Nat.le_refl _, fun _ _ _ _ _ _ => rfl⟩, Or.inl rfl⟩
  case round =>
    obtain ⟨j, m, A1, c1, zs1, ts1, cl1, rfl, hm, r1, ht1, H1, L1, E1, M1⟩ := hrel
    have hp := r1.pos
    have S := Lib.hid (step_any H1 L1 (by omega) r1.fit)
    have HE := Lib.hid E1
    have HM := Lib.hid M1
    have HT := Lib.hid ht1
    have hj : (j : Int) < 9 := by omega
    rcases r1.two with ⟨rfl, hz, rfl, rfl⟩ | ⟨m', rfl, hz, r2⟩
    · rw [decide_eq_true hz] at S
      clear r1 H1 L1 E1 M1 ht1
      go_wp2_with fail
      refine S.out.mono ?_
      rintro e w2 ⟨rfl, t, D⟩
      have D1 := Lib.hid D
      clear D S
      go_wp2_with fail
      refine (result_yes D1.out.lies hz).mono ?_
      rintro e w3 ⟨rfl, B3⟩
      have HB3 := Lib.hid B3
      clear B3
      go_wp2
      go_ret2
      refine ⟨rfl, ts1 ++ [t], by have := HT.out; simp; omega, ?_⟩
      obtain ⟨A2, c2, H2, L2, E2, M2⟩ := D1.out
      exact ⟨A2, c2, H2.kept HB3.out, L2.kept HB3.out, (HE.out.trans E2 HM.out).trans (r' := blk A2) ⟨HB3.out.os, HB3.out.tape, HB3.out.output, HB3.out.size, fun k hk _ _ _ _ => HB3.out.block k hk⟩ (HM.out.trans M2 HE.out.size), HM.out.trans M2 HE.out.size⟩
    · rw [decide_eq_false hz] at S
      have HR2 := Lib.hid r2
      clear r1 H1 L1 E1 M1 ht1 r2
      go_wp2_with fail
      refine S.out.mono ?_
      rintro e w2 ⟨rfl, t, D⟩
      have D1 := Lib.hid D
      clear D S
      go_wp2
      obtain ⟨A2, c2, H2, L2, E2, M2⟩ := D1.out
      exact ⟨⟨j + 1, m', A2, c2, _, _, _, by go_num, by omega, HR2.out, by have := HT.out; simp; omega, H2, L2, HE.out.trans E2 HM.out, HM.out.trans M2 HE.out.size⟩, by simp [intOf]; omega⟩
end
end Go.Proofs.Yteaffpkmidaghaa
