/- Push, Pop, All, Open, New, Claim, Log of roots. -/
import Derived.Test.YtelompgefldojaaRt
namespace Go.Proofs.Ytelompgefldojaa
open Go.RowKit
set_option linter.unusedVariables false
set_option linter.unusedSimpArgs false

section
variable {w w' : World} {base r g gw : Nat} {B : Option Addr} {cap : Nat} {row : List Int} {part k : Int} {A : Option Addr} {c : Nat} {ts : List Tc} {S : Nat → Prop}
theorem Step.of_theirs {row' : List Int} {k' : Int} {ts' : List Tc} (s : Step w w' base r (theirs r g gw B A) row' part k' ts') (h : ∀ i, S i ↔ theirs r g gw B A i) : Step w w' base r S row' part k' ts' := by
  obtain ⟨S', s1, s2, s3⟩ := s
  exact ⟨S', s1, s2.wider fun k hk => (h k).2 hk, fun i hi => (s3 i hi).imp (fun e => (h i).2 e) id⟩
theorem Rt.not_b (h : Rt w base r g gw B cap row part k A c ts) {b : Nat} {t : TypeId} {cs : List Value} (hl : Lies w b t cs) (ht : t ≠ 3) : some b ≠ blk B := fun e => by
  obtain ⟨cs', h', _⟩ := h.row.lies e.symm
  exact hl.apart h' ht rfl
theorem Rt.not_a (h : Rt w base r g gw B cap row part k A c ts) : ∀ b, blk A = some b → some b ≠ blk B := fun b e => by
  obtain ⟨cs', h'⟩ := h.at_.row_lies e
  exact h.not_b h' (by decide)

/-- One more root stands in the row. -/
theorem Rt.pushed {W w2 : World} {B' : Option Addr} {cap' : Nat} {y : Int} (h : Rt w base r g gw B cap row part k A c ts) (hb : Below w.heap.size w W)
    (R2 : Rv w2 base B' cap' (row ++ [y])) (G2 : W.grownBy w2 (blk B)) (M2 : blk B' = blk B ∨ blk B' = some W.heap.size) :
    Step w (w2.setCell ⟨r, 0, none⟩ (.slice B' (row.length + 1) cap')) base r (theirs r g gw B A) (row ++ [y]) part k ts := by
  have HW := h.kept hb
  have s1 := hb.size
  have s2 := G2.size
  have o2 := HW.own.of_block (G2.block r HW.own.lt (HW.not_b HW.own (by decide)))
  have g2 := HW.at_.own.of_block (G2.block g HW.at_.own.lt (HW.not_b HW.at_.own (by decide)))
  have w2' := HW.at_.words.of_block (G2.block gw HW.at_.words.lt (fun e => HW.ne e.symm))
  have l2 : w2.ownsRow base 44 5 (.slice A ts.length c) ts.length (cellsT ts) := owns_of_block HW.at_.log fun j hj => G2.block j (HW.at_.row_of j (by rw [own_blk] at hj; exact hj)).2.1 (HW.not_a j (by rw [own_blk] at hj; exact hj))
  have at2 : At w2 base g gw [k] A c ts := ⟨g2, w2', l2, h.at_.some_, h.at_.most, h.at_.lo, h.at_.lo'⟩
  have rg : r ≠ g := o2.apart g2 (by decide)
  have rw_ : r ≠ gw := o2.apart w2' (by decide)
  have L := o2.set 0 (.slice B' (row.length + 1) cap')
  have el : (row ++ [y]).length = row.length + 1 := by simp
  have hgw := h.at_.words.lt
  refine ⟨theirs r g gw B' A, Rt.q (cap := cap') (c := c) ⟨by rw [el]; exact L, ?_, ?_, ?_, h.lo⟩, ⟨?_, ?_, ?_, ?_, ?_⟩, ?_⟩
  · exact R2.kept fun b cs _ hl => hl.far (p := ⟨r, 0, none⟩) (hl.apart o2 (by decide)) _
  · exact ⟨g2.far (p := ⟨r, 0, none⟩) rg.symm _, w2'.far (p := ⟨r, 0, none⟩) rw_.symm _, owns_of_block l2 fun j hj => Below.heap_setCell w2 _ _ j (fun e => by
      obtain ⟨cs', h'⟩ := at2.row_lies (k := j) (by rw [own_blk] at hj; exact hj)
      exact h'.apart o2 (by decide) e), h.at_.some_, h.at_.most, h.at_.lo, h.at_.lo'⟩
  · rcases M2 with e | e
    · rw [e]; exact h.ne
    · rw [e]; intro e; injection e with e; omega
  · exact G2.os.trans hb.os
  · exact G2.tape.trans hb.tape
  · exact G2.output.trans hb.output
  · simp; omega
  · intro j hj hn
    rw [Below.heap_setCell w2 _ _ j (fun e => hn (Or.inl e)), G2.block j (by omega) (fun e => hn (Or.inr (Or.inr (Or.inr (Or.inl e))))), hb.block j hj]
  · intro i hi
    rcases hi with e | e | e | e | e
    · exact Or.inl (Or.inl e)
    · exact Or.inl (Or.inr (Or.inl e))
    · exact Or.inl (Or.inr (Or.inr (Or.inl e)))
    · rcases M2 with e' | e'
      · exact Or.inl (Or.inr (Or.inr (Or.inr (Or.inl (e.trans e')))))
      · right; rw [e'] at e; injection e with e; omega
    · exact Or.inl (Or.inr (Or.inr (Or.inr (Or.inr e))))

set_option maxHeartbeats 1000000 in
theorem push_yes (h : Rq w base r row part k ts S) (y : Int) (hy : 0 ≤ y) (hl : row.length < 1024) :
    Calls Try.prog 9 #[.pointer (some ⟨r, 0, none⟩), .int .i64 y] w fun e w' => e = .returned (.int .i64 0) ∧ Step w w' base r S (row ++ [y]) part k ts := by
  have d0 : decide (y < 0) = false := by simp; omega
  have d1 : decide ((1024 : Int) ≤ (row.length : Int)) = false := by simp; omega
  obtain ⟨g, gw, B, cap, A, c, h1, h2⟩ := h
  have hc0 : w.cell? ⟨r, 0, none⟩ = some (.slice B row.length cap) := h1.own.cell 0
  have HH := Lib.hid h1
  have HS := Lib.hid h2
  have HB := Lib.hid (below_one w (.cells #[.int .i64 y] 3))
  have HX := Lib.hid (h1.kept HB.out)
  have hbase := Lib.hid h1.q.base_le
  have c5 := cell_one_new w (.int .i64 y) 3 0 _ rfl
  rw [Addr.add_zero'] at c5
  have HC := Lib.hid c5
  clear c5 h1 h2 hy
  go_enter Try.func9, Try.ntmps9
  go_wp2_with (at_builtin; refine wpList_append_rv rfl (.tmp 17) (.tmp 19) rfl rfl HX.out.row (Nat.le_trans hbase.out HB.out.size) (by omega) ⟨w.heap.size, 0, none⟩ y rfl HC.out ?_; intro B' cap' w2 R2 G2 M2; have K2 := Lib.hid (HH.out.pushed HB.out R2 G2 M2); have F2 : w2.frozen? ⟨r, 0, none⟩ = false := (World.frozen?_of_block (a := ⟨r, 0, none⟩) (G2.block r HX.out.own.lt (HX.out.not_b HX.out.own (by decide)))).trans (HX.out.own.frozen 0); have C2 : w2.cell? ⟨r, 0, none⟩ = some (.slice B row.length cap) := (World.cell?_of_block (a := ⟨r, 0, none⟩) (G2.block r HX.out.own.lt (HX.out.not_b HX.out.own (by decide)))).trans (HX.out.own.cell 0); clear R2 G2 M2)
  go_ret
  exact ⟨rfl, K2.out.of_theirs HS.out⟩
theorem push_bad (h : Rq w base r row part k ts S) (y : Int) (hy : y < 0) :
    Calls Try.prog 9 #[.pointer (some ⟨r, 0, none⟩), .int .i64 y] w fun e w' => e = .returned (.int .i64 1) ∧ w = w' := by
  have d0 : decide (y < 0) = true := by simp; omega
  clear h hy
  go_enter Try.func9, Try.ntmps9
  go_wp2
  go_ret
  exact ⟨rfl, rfl⟩
theorem push_full (h : Rq w base r row part k ts S) (y : Int) (hy : 0 ≤ y) (hl : 1024 ≤ row.length) :
    Calls Try.prog 9 #[.pointer (some ⟨r, 0, none⟩), .int .i64 y] w fun e w' => e = .returned (.int .i64 6) ∧ w = w' := by
  have d0 : decide (y < 0) = false := by simp; omega
  have d1 : decide ((1024 : Int) ≤ (row.length : Int)) = true := by simp; omega
  obtain ⟨g, gw, B, cap, A, c, h1, h2⟩ := h
  have hc0 : w.cell? ⟨r, 0, none⟩ = some (.slice B row.length cap) := h1.own.cell 0
  clear h1 h2 hy
  go_enter Try.func9, Try.ntmps9
  go_wp2
  go_ret
  exact ⟨rfl, rfl⟩

theorem pop_empty (h : Rq w base r [] part k ts S) :
    Calls Try.prog 10 #[.pointer (some ⟨r, 0, none⟩)] w fun e w' => e = .returned (.tuple #[.int .i64 0, .int .i64 7]) ∧ w = w' := by
  obtain ⟨g, gw, B, cap, A, c, h1, h2⟩ := h
  have hc0 : w.cell? ⟨r, 0, none⟩ = some (.slice B 0 cap) := h1.own.cell 0
  clear h1 h2
  go_enter Try.func10, Try.ntmps10
  go_wp2
  go_ret2
  exact ⟨rfl, rfl⟩
theorem Rt.popped {y : Int} (h : Rt w base r g gw B cap (row ++ [y]) part k A c ts) :
    Step w (w.setCell ⟨r, 0, none⟩ (.slice B row.length cap)) base r (theirs r g gw B A) row part k ts := by
  have rg : r ≠ g := h.own.apart h.at_.own (by decide)
  have rw_ : r ≠ gw := h.own.apart h.at_.words (by decide)
  refine ⟨_, Rt.q (c := c) ⟨h.own.set 0 (.slice B row.length cap), ?_, ?_, h.ne, h.lo⟩, Chg.set (Or.inl rfl), fun i hi => Or.inl hi⟩
  · exact h.row.cut.2.kept fun b cs _ hl => hl.far (p := ⟨r, 0, none⟩) (hl.apart h.own (by decide)) _
  · exact ⟨h.at_.own.far (p := ⟨r, 0, none⟩) rg.symm _, h.at_.words.far (p := ⟨r, 0, none⟩) rw_.symm _, owns_of_block h.at_.log fun j hj => Below.heap_setCell w _ _ j (fun e => by
      obtain ⟨cs', h'⟩ := h.at_.row_lies (k := j) (by rw [own_blk] at hj; exact hj)
      exact h'.apart h.own (by decide) e), h.at_.some_, h.at_.most, h.at_.lo, h.at_.lo'⟩
set_option maxHeartbeats 1000000 in
theorem pop_yes {y : Int} (h : Rq w base r (row ++ [y]) part k ts S) (hl : row.length < 2000) :
    Calls Try.prog 10 #[.pointer (some ⟨r, 0, none⟩)] w fun e w' => e = .returned (.tuple #[.int .i64 y, .int .i64 0]) ∧ Step w w' base r S row part k ts := by
  obtain ⟨g, gw, B, cap, A, c, h1, h2⟩ := h
  have K := Lib.hid (h1.popped.of_theirs h2)
  obtain ⟨n, hn⟩ : ∃ n, row.length = n := ⟨_, rfl⟩
  obtain ⟨m, hm⟩ : ∃ m, n + 1 = m := ⟨_, rfl⟩
  have hc0 : w.cell? ⟨r, 0, none⟩ = some (.slice B m cap) := by have := h1.own.cell 0; rw [this]; simp [← hm, ← hn]
  have hf0 := h1.own.frozen 0
  obtain ⟨ad, q, rfl, -, hcell, -⟩ := h1.row.at_ (i := row.length) (by simp)
  have hcell : w.cell? (ad.add n) = some (.int .i64 y) := by rw [← hn, hcell]; simp [List.getD]
  have hcut := h1.row.cut.1
  rw [hn] at hcut K
  rw [hm] at hcut
  clear h1 h2
  have e0 : (m : Int) - 1 = (n : Int) := by omega
  have d0 : decide ((n : Int) < 0) = false := by simp
  have d1 : (0 : Int) ≤ (n : Int) := by omega
  have d2 : (n : Int) < (m : Int) := by omega
  have hn2 : n < 2000 := by omega
  have hm2 : m ≤ 2000 := by omega
  clear hn hm
  go_enter Try.func10, Try.ntmps10
  go_wp2
  go_ret2
  exact ⟨rfl, K.out⟩

set_option maxHeartbeats 1000000 in
theorem all_any (h : Rq w base r row part k ts S) (hl : row.length ≤ 2000) :
    Calls Try.prog 13 #[.pointer (some ⟨r, 0, none⟩)] w fun e w' => e = .returned (.slice (some ⟨w.heap.size, 0, none⟩) row.length row.length) ∧ Lies w' w.heap.size 3 (row.map (Value.int .i64)) ∧ Below w.heap.size w w' := by
  obtain ⟨g, gw, B, cap, A, c, h1, h2⟩ := h
  have hmk := make26 row.length (by omega)
  have hc0 : w.cell? ⟨r, 0, none⟩ = some (.slice B row.length cap) := h1.own.cell 0
  have hlt := h1.own.lt
  obtain ⟨w2, hcp, hL, hB⟩ := run_copy_rv h1.row
  clear h1 h2
  go_enter Try.func13, Try.ntmps13
  go_wp2
  go_ret
  exact ⟨rfl, hL, hB⟩

/-- What the row is apart from its cell. -/
def Half (w : World) (base r : Nat) (B : Option Addr) (cap : Nat) (row : List Int) (part : Int) (pv : Value) : Prop :=
  Lies w r 52 [.slice B row.length cap, .int .i64 part, pv] ∧ Rv w base B cap row ∧ base ≤ r

set_option maxHeartbeats 1000000 in
theorem open_half {pv : Value} (h : Half w base r B cap row part pv) :
    Calls Try.prog 15 #[.pointer (some ⟨r, 0, none⟩)] w fun e w' => e = .returned (.tuple #[]) ∧ ∃ g gw, Rt w' base r g gw B cap row part 0 none 0 [] ∧ w.heap.size ≤ g ∧ w.heap.size ≤ gw ∧ Chg (fun i => i = r) w w' := by
  obtain ⟨h1, h2, h3⟩ := h
  have HH := Lib.hid h1
  have HR := Lib.hid h2
  have T := Lib.hid (new_yes 1 w base (by have := h1.lt; omega) (by omega) (by omega))
  clear h1 h2
  go_enter Try.func15, Try.ntmps15
  go_wp2_with fail
  refine T.out.mono ?_
  rintro e w1 ⟨g, gw, rfl, B1, q1, q2, H1⟩
  have L1 := HH.out.kept B1
  have hc2 : w1.cell? ⟨r, 2, none⟩ = some pv := L1.cell 2
  have hf2 : w1.frozen? ⟨r, 2, none⟩ = false := L1.frozen 2
  have K : Hid (Rt (w1.setCell ⟨r, 2, none⟩ (.pointer (some ⟨g, 0, none⟩))) base r g gw B cap row part 0 none 0 []) := Lib.hid (by
    have hlt := HH.out.lt
    refine ⟨L1.set 2 _, (HR.out.below B1).kept fun b cs _ hl => hl.far (p := ⟨r, 2, none⟩) (hl.apart L1 (by decide)) _, ?_, ?_, h3⟩
    · exact ⟨H1.own.far (p := ⟨r, 2, none⟩) (by show g ≠ r; omega) _, H1.words.far (p := ⟨r, 2, none⟩) (by show gw ≠ r; omega) _, World.ownsRow_nil _ _ _ _, H1.some_, H1.most, H1.lo, H1.lo'⟩
    · intro e
      obtain ⟨cs, hl, _⟩ := HR.out.lies e
      have := hl.lt
      omega)
  have KC : Hid (Chg (fun i => i = r) w (w1.setCell ⟨r, 2, none⟩ (.pointer (some ⟨g, 0, none⟩)))) := Lib.hid ((Chg.of_below B1).trans (Chg.set (S := fun i => i = r) rfl) (fun k hk => Or.inl hk))
  have Q1 := Lib.hid q1
  have Q2 := Lib.hid q2
  clear B1 H1 L1 T HH HR q1 q2
  go_wp2
  go_end0
  exact ⟨rfl, g, gw, K.out, Q1.out, Q2.out, KC.out⟩
theorem open_any (h : Rq w base r row part k ts S) :
    Calls Try.prog 15 #[.pointer (some ⟨r, 0, none⟩)] w fun e w' => e = .returned (.tuple #[]) ∧ Step w w' base r S row part 0 [] := by
  obtain ⟨g, gw, B, cap, A, c, h1, h2⟩ := h
  refine (open_half ⟨h1.own, h1.row, h1.lo⟩).mono ?_
  rintro e w' ⟨rfl, g', gw', R, q1, q2, C⟩
  refine ⟨rfl, theirs r g' gw' B none, R.q, C.wider fun k hk => (h2 k).2 (Or.inl hk), fun i hi => ?_⟩
  rcases hi with e | e | e | e | e
  · exact Or.inl ((h2 i).2 (Or.inl e))
  · right; omega
  · right; omega
  · exact Or.inl ((h2 i).2 (Or.inr (Or.inr (Or.inr (Or.inl e)))))
  · cases e
end
end Go.Proofs.Ytelompgefldojaa
