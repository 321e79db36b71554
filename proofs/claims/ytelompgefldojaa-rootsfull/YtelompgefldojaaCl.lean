/- New, Claim and Log of roots; the fixed fact. -/
import Derived.Test.YtelompgefldojaaRs
namespace Go.Proofs.Ytelompgefldojaa
open Go.RowKit
set_option linter.unusedVariables false
set_option linter.unusedSimpArgs false

theorem nil24 (w : World) (g : Nat) : (binOp .eql 24 (.pointer (some ⟨g, 0, none⟩)) (.pointer none)).run Try.prog w = .ok (.bool false) w := by kernel_rfl

/-- How near a size of parts is. -/
def near (n : Int) : Int := if n < 1 then 1 else if 64 < n then 64 else n
theorem near_min (n : Int) : min (max n 1) 64 = near n := by unfold near; split <;> (try split) <;> omega
theorem near_lo (n : Int) : 1 ≤ near n := by unfold near; split <;> (try split) <;> omega
theorem near_hi (n : Int) : near n ≤ 64 := by unfold near; split <;> (try split) <;> omega

theorem new_end {n p : Int} {w : World} {base : Nat} (hb : base ≤ w.heap.size) {w1 : World} {g gw : Nat} {X : Obj} (R : Rt w1 base w.heap.size g gw none 0 [] p 0 none 0 []) (q1 : (w.alloc X).heap.size ≤ g) (q2 : (w.alloc X).heap.size ≤ gw) (C : Chg (fun i => i = w.heap.size) (w.alloc X) w1) :
    Below w.heap.size w w1 ∧ ∃ S, Rq w1 base w.heap.size [] p 0 [] S ∧ ∀ k, S k → w.heap.size ≤ k := by
  have HS : (w.alloc X).heap.size = w.heap.size + 1 := by simp
  refine ⟨(below_one w X).trans (C.below (by omega) (fun k hk => by omega)), _, R.q, fun k hk => ?_⟩
  rcases hk with e | e | e | e | e
  · omega
  · omega
  · omega
  · cases e
  · cases e

set_option maxHeartbeats 1000000 in
theorem new_low (n : Int) (h : n < 1) (w : World) (base : Nat) (hb : base ≤ w.heap.size) :
    Calls Try.prog 8 #[.int .i64 n] w fun e w' => ∃ r S, e = .returned (.pointer (some ⟨r, 0, none⟩)) ∧ Below w.heap.size w w' ∧ Rq w' base r [] 1 0 [] S ∧ ∀ k, S k → w.heap.size ≤ k := by
  obtain ⟨X, hX⟩ : ∃ X : Obj, X = .cells #[.slice none 0 0, .int .i64 1, .pointer none] 52 := ⟨_, rfl⟩
  have LX : Lies (w.alloc X) w.heap.size 52 [.slice none 0 0, .int .i64 1, .pointer none] := by rw [hX]; exact Lies.new w 52 [_, _, _]
  have T := Lib.hid (open_half (base := base) (B := none) (cap := 0) (row := []) (part := 1) (pv := .pointer none) ⟨LX, Rv.nil _ _, hb⟩)
  clear LX
  go_enter Try.func8, Try.ntmps8
  go_wp2_with fail
  rw [← hX]
  refine T.out.mono ?_
  rintro e w1 ⟨rfl, g, gw, R, q1, q2, C⟩
  obtain ⟨B2, S, R2, H2⟩ := new_end (n := n) hb R q1 q2 C
  have HB := Lib.hid B2
  have HR := Lib.hid R2
  have HH := Lib.hid H2
  clear T hX R C q1 q2 B2 R2 H2
  go_wp2
  go_ret
  exact ⟨_, _, rfl, HB.out, HR.out, HH.out⟩
set_option maxHeartbeats 1000000 in
theorem new_mid (n : Int) (h1 : 1 ≤ n) (h2 : n ≤ 64) (w : World) (base : Nat) (hb : base ≤ w.heap.size) :
    Calls Try.prog 8 #[.int .i64 n] w fun e w' => ∃ r S, e = .returned (.pointer (some ⟨r, 0, none⟩)) ∧ Below w.heap.size w w' ∧ Rq w' base r [] n 0 [] S ∧ ∀ k, S k → w.heap.size ≤ k := by
  obtain ⟨X, hX⟩ : ∃ X : Obj, X = .cells #[.slice none 0 0, .int .i64 n, .pointer none] 52 := ⟨_, rfl⟩
  have LX : Lies (w.alloc X) w.heap.size 52 [.slice none 0 0, .int .i64 n, .pointer none] := by rw [hX]; exact Lies.new w 52 [_, _, _]
  have T := Lib.hid (open_half (base := base) (B := none) (cap := 0) (row := []) (part := n) (pv := .pointer none) ⟨LX, Rv.nil _ _, hb⟩)
  clear LX
  have h3 : ¬ n < 1 := by omega
  go_enter Try.func8, Try.ntmps8
  go_wp2_with fail
  rw [← hX]
  refine T.out.mono ?_
  rintro e w1 ⟨rfl, g, gw, R, q1, q2, C⟩
  obtain ⟨B2, S, R2, H2⟩ := new_end (n := n) hb R q1 q2 C
  have HB := Lib.hid B2
  have HR := Lib.hid R2
  have HH := Lib.hid H2
  clear T hX R C q1 q2 B2 R2 H2
  go_wp2
  go_ret
  exact ⟨_, _, rfl, HB.out, HR.out, HH.out⟩
set_option maxHeartbeats 1000000 in
theorem new_high (n : Int) (h2 : 64 < n) (w : World) (base : Nat) (hb : base ≤ w.heap.size) :
    Calls Try.prog 8 #[.int .i64 n] w fun e w' => ∃ r S, e = .returned (.pointer (some ⟨r, 0, none⟩)) ∧ Below w.heap.size w w' ∧ Rq w' base r [] 64 0 [] S ∧ ∀ k, S k → w.heap.size ≤ k := by
  obtain ⟨X, hX⟩ : ∃ X : Obj, X = .cells #[.slice none 0 0, .int .i64 64, .pointer none] 52 := ⟨_, rfl⟩
  have LX : Lies (w.alloc X) w.heap.size 52 [.slice none 0 0, .int .i64 64, .pointer none] := by rw [hX]; exact Lies.new w 52 [_, _, _]
  have T := Lib.hid (open_half (base := base) (B := none) (cap := 0) (row := []) (part := 64) (pv := .pointer none) ⟨LX, Rv.nil _ _, hb⟩)
  clear LX
  have h3 : ¬ n < 1 := by omega
  go_enter Try.func8, Try.ntmps8
  go_wp2_with fail
  rw [← hX]
  refine T.out.mono ?_
  rintro e w1 ⟨rfl, g, gw, R, q1, q2, C⟩
  obtain ⟨B2, S, R2, H2⟩ := new_end (n := n) hb R q1 q2 C
  have HB := Lib.hid B2
  have HR := Lib.hid R2
  have HH := Lib.hid H2
  clear T hX R C q1 q2 B2 R2 H2
  go_wp2
  go_ret
  exact ⟨_, _, rfl, HB.out, HR.out, HH.out⟩
theorem new_any (n : Int) (w : World) (base : Nat) (hb : base ≤ w.heap.size) :
    Calls Try.prog 8 #[.int .i64 n] w fun e w' => ∃ r S, e = .returned (.pointer (some ⟨r, 0, none⟩)) ∧ Below w.heap.size w w' ∧ Rq w' base r [] (near n) 0 [] S ∧ ∀ k, S k → w.heap.size ≤ k := by
  unfold near
  by_cases h1 : n < 1
  · rw [if_pos h1]; exact new_low n h1 w base hb
  · rw [if_neg h1]
    by_cases h2 : 64 < n
    · rw [if_pos h2]; exact new_high n h2 w base hb
    · rw [if_neg h2]; exact new_mid n (by omega) (by omega) w base hb

section
variable {w w' : World} {base r g gw : Nat} {B : Option Addr} {cap : Nat} {row : List Int} {part k : Int} {A : Option Addr} {c : Nat} {ts : List Tc} {S : Nat → Prop}
theorem Rt.not_row_a (h : Rt w base r g gw B cap row part k A c ts) : ∀ b, blk B = some b → some b ≠ blk A := fun b e => by
  obtain ⟨cs', h', _⟩ := h.row.lies e
  exact h.at_.not_row h' (by decide)
/-- The cell was touched. -/
theorem Rt.touched {k' : Int} {ts' : List Tc} (h : Rt w base r g gw B cap row part k A c ts) (d : Did w w' base g gw A [k'] ts') :
    ∃ A' c', Rt w' base r g gw B cap row part k' A' c' ts' ∧ Step w w' base r (theirs r g gw B A) row part k' ts' := by
  obtain ⟨A', c', h1, E, M⟩ := d
  have R : Rt w' base r g gw B cap row part k' A' c' ts' := by
    refine ⟨E.lies h.own (h.own.apart h.at_.own (by decide)) (h.own.apart h.at_.words (by decide)) (h.at_.not_row h.own (by decide)), ?_, h1, h.ne, h.lo⟩
    exact h.row.kept fun b cs hb hl => E.lies hl (hl.apart h.at_.own (by decide)) (fun e => h.ne (by rw [hb, e])) (h.not_row_a b hb)
  refine ⟨A', c', R, _, R.q, ⟨E.os, E.tape, E.output, E.size, fun i hi hn => E.block i hi (fun e => hn (Or.inr (Or.inl e))) (fun e => hn (Or.inr (Or.inr (Or.inl e)))) (fun e => hn (Or.inr (Or.inr (Or.inr (Or.inr e)))))⟩, fun i hi => ?_⟩
  rcases hi with e | e | e | e | e
  · exact Or.inl (Or.inl e)
  · exact Or.inl (Or.inr (Or.inl e))
  · exact Or.inl (Or.inr (Or.inr (Or.inl e)))
  · exact Or.inl (Or.inr (Or.inr (Or.inr (Or.inl e))))
  · rcases M with e' | ⟨q, e', hq⟩
    · exact Or.inl (Or.inr (Or.inr (Or.inr (Or.inr (e.trans e')))))
    · right; rw [e'] at e; injection e with e; omega

theorem below_drewN (w : World) (n : Nat) : Below w.heap.size w (w.drewN n) := by
  induction n with
  | zero => exact Below.refl _ _
  | succ n ih => exact ih.drew
theorem Step.then {w2 : World} {row' : List Int} {k' : Int} {ts' : List Tc} (s : Step w w' base r S row' part k' ts') (hb : Below w'.heap.size w' w2) : Step w w2 base r S row' part k' ts' := by
  obtain ⟨S', s1, s2, s3⟩ := s
  exact ⟨S', s1.kept hb, s2.trans (Chg.of_below (S := S) hb) (fun k hk => Or.inl hk), s3⟩
theorem claim_bad (h : Rq w base r row part k ts S) (who : Int) (hw : ¬ (0 ≤ who ∧ who < 64)) :
    Calls Try.prog 16 #[.pointer (some ⟨r, 0, none⟩), .int .i64 who] w fun e w' => e = .returned (.tuple #[.int .i64 0, .int .i64 0, .int .i64 1]) ∧ Step w w' base r S row part k ts := by
  have HQ := Lib.hid h
  obtain ⟨g, gw, B, cap, A, c, h1, h2⟩ := h
  have hc2 : w.cell? ⟨r, 2, none⟩ = some (.pointer (some ⟨g, 0, none⟩)) := h1.own.cell 2
  have T := Lib.hid (add_no h1.at_ who 0 1 (by omega))
  clear h1 h2
  go_enter Try.func16, Try.ntmps16
  go_wp2_with fail
  refine T.out.mono ?_
  rintro e w1 ⟨rfl, B1⟩
  have K := Lib.hid (same_step HQ.out B1)
  clear B1 hw T
  go_wp2
  go_ret3
  exact ⟨rfl, K.out⟩

set_option maxHeartbeats 1000000 in
theorem claim_empty (h : Rq w base r row part k ts S) (who f : Int) (h0 : 0 ≤ who) (h1 : who < 64) (hts : ts.length ≤ 30000) (hk0 : 0 ≤ k) (hk1 : k ≤ 1000000) (hf : k * part = f) (hf0 : 0 ≤ f) (hf1 : f ≤ 100000000) (he : row.length ≤ f) :
    Calls Try.prog 16 #[.pointer (some ⟨r, 0, none⟩), .int .i64 who] w fun e w' => e = .returned (.tuple #[.int .i64 0, .int .i64 0, .int .i64 7]) ∧ Step w w' base r S row part (k + 1) (ts ++ [⟨who, 0, 4, k, k + 1⟩]) := by
  obtain ⟨g, gw, B, cap, A, c, R1, h2⟩ := h
  have hc2 : w.cell? ⟨r, 2, none⟩ = some (.pointer (some ⟨g, 0, none⟩)) := R1.own.cell 2
  have HR := Lib.hid R1
  have HS := Lib.hid h2
  have hw1 : wrap64 (k + 1) = k + 1 := by rw [wrap64]; omega
  have T := add_yes R1.at_ hts who 0 1 h0 h1 (by simp) k rfl
  rw [hw1] at T
  have T := Lib.hid T
  have m1 : IntKind.i64.wrap (k * part) = f := by rw [hf]; exact IntWalk.i64_in _ (by omega)
  have m2 : wrap64 (k * part) = f := by rw [hf, wrap64]; omega
  have d1 : decide ((row.length : Int) ≤ f) = true := by simp; omega
  clear R1 h2 hw1 h0 h1
  go_enter Try.func16, Try.ntmps16
  go_wp2_with fail
  refine T.out.mono ?_
  rintro e w1 ⟨rfl, D⟩
  obtain ⟨A', c', R2, K2⟩ := HR.out.touched D
  have K := Lib.hid (K2.of_theirs HS.out)
  have j1 : w1.cell? ⟨r, 1, none⟩ = some (.int .i64 part) := R2.own.cell 1
  have j0 : w1.cell? ⟨r, 0, none⟩ = some (.slice B row.length cap) := R2.own.cell 0
  clear D R2 K2 T HR hc2 hf
  go_wp2
  go_ret3
  exact ⟨rfl, K.out⟩

set_option maxHeartbeats 1000000 in
theorem claim_yes (h : Rq w base r row part k ts S) (who f t : Int) (h0 : 0 ≤ who) (h1 : who < 64) (hts : ts.length ≤ 30000) (hk0 : 0 ≤ k) (hk1 : k ≤ 1000000) (hp0 : 0 ≤ part) (hp1 : part ≤ 64) (hf : k * part = f) (hf0 : 0 ≤ f) (he : f < row.length) (hrow : row.length ≤ 2000) (ht : min (f + part) row.length = t) :
    Calls Try.prog 16 #[.pointer (some ⟨r, 0, none⟩), .int .i64 who] w fun e w' => e = .returned (.tuple #[.int .i64 f, .int .i64 t, .int .i64 0]) ∧ Step w w' base r S row part (k + 1) (ts ++ [⟨who, 0, 4, k, k + 1⟩]) := by
  obtain ⟨g, gw, B, cap, A, c, R1, h2⟩ := h
  have hc2 : w.cell? ⟨r, 2, none⟩ = some (.pointer (some ⟨g, 0, none⟩)) := R1.own.cell 2
  have HR := Lib.hid R1
  have HS := Lib.hid h2
  have hw1 : wrap64 (k + 1) = k + 1 := by rw [wrap64]; omega
  have T := add_yes R1.at_ hts who 0 1 h0 h1 (by simp) k rfl
  rw [hw1] at T
  have T := Lib.hid T
  have m1 : IntKind.i64.wrap (k * part) = f := by rw [hf]; exact IntWalk.i64_in _ (by omega)
  have m2 : wrap64 (k * part) = f := by rw [hf, wrap64]; omega
  have d1 : decide ((row.length : Int) ≤ f) = false := by simp; omega
  have hcase : (f + part ≤ row.length ∧ t = f + part) ∨ (¬ f + part ≤ row.length ∧ t = row.length) := by omega
  clear R1 h2 hw1 h0 h1
  go_enter Try.func16, Try.ntmps16
  go_wp2_with fail
  refine T.out.mono ?_
  rintro e w1 ⟨rfl, D⟩
  obtain ⟨A', c', R2, K2⟩ := HR.out.touched D
  have K := Lib.hid (K2.of_theirs HS.out)
  have j1 : w1.cell? ⟨r, 1, none⟩ = some (.int .i64 part) := R2.own.cell 1
  have j0 : w1.cell? ⟨r, 0, none⟩ = some (.slice B row.length cap) := R2.own.cell 0
  clear D R2 K2 T HR hc2 hf
  have m3 : IntKind.i64.wrap (f + part) = f + part := IntWalk.i64_in _ (by omega)
  rcases hcase with ⟨hlt, rfl⟩ | ⟨hlt, rfl⟩
  · clear ht
    go_wp2_with fail
    go_quiet (fail)
    go_wp2
    go_ret3
    exact ⟨rfl, K.out.then (below_drewN _ _)⟩
  · clear ht
    go_wp2_with fail
    go_quiet (fail)
    go_wp2
    go_ret3
    exact ⟨rfl, K.out.then (below_drewN _ _)⟩

theorem log_any' (h : Rq w base r row part k ts S) (hts : ts.length ≤ 30000) :
    Calls Try.prog 17 #[.pointer (some ⟨r, 0, none⟩)] w fun e w' => ∃ q, e = .returned (.slice (some ⟨q, 0, none⟩) ts.length ts.length) ∧ w.heap.size ≤ q ∧ Lies w' q 44 (cellsT ts) ∧ Below w.heap.size w w' := by
  obtain ⟨g, gw, B, cap, A, c, h1, h2⟩ := h
  have hc2 : w.cell? ⟨r, 2, none⟩ = some (.pointer (some ⟨g, 0, none⟩)) := h1.own.cell 2
  have T := Lib.hid (log_q h1.at_ hts)
  clear h1 h2
  go_enter Try.func17, Try.ntmps17
  go_wp2_with fail
  refine T.out.mono ?_
  rintro e w1 ⟨q, rfl, h1, h2, h3⟩
  have H1 := Lib.hid h1
  have H2 := Lib.hid h2
  have H3 := Lib.hid h3
  clear h1 h2 h3 T
  go_wp2
  go_ret
  exact ⟨_, rfl, H1.out, H2.out, H3.out⟩
end
end Go.Proofs.Ytelompgefldojaa
