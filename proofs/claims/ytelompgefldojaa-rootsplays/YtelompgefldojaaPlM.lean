/- Roots beside a row of the law's own. -/
import Derived.Test.YtelompgefldojaaClaimsW
namespace Go.Proofs.Ytelompgefldojaa
open Go.RowKit
set_option linter.unusedVariables false
set_option linter.unusedSimpArgs false

/-- The roots, and the law's own row; what the two are in isn't the same. -/
def Pz (w wr : World) (r : Nat) (rows : List Int) (B : Option Addr) (l cap : Nat) (row : List Int) : Prop :=
  row.length = l ∧ ∃ S, Rq wr w.heap.size r rows 3 0 [] S ∧ Rv wr w.heap.size B cap row ∧ (∀ k, blk B = some k → ¬ S k) ∧ Below w.heap.size w wr

section
variable {w w0 w1 : World} {r : Nat} {rows rows' row : List Int} {B : Option Addr} {l cap : Nat}
theorem Pz.kept (h : Pz w w0 r rows B l cap row) (hb : Below w0.heap.size w0 w1) : Pz w w1 r rows B l cap row := by
  obtain ⟨hl, S, h1, h2, h3, h4⟩ := h
  exact ⟨hl, S, h1.kept hb, h2.below hb, h3, on h4 h4.size hb⟩
theorem Rq.not_box {S : Nat → Prop} {part k : Int} {ts : List Tc} {base : Nat} (h : Rq w0 base r rows part k ts S) {b : Nat} {cs : List Value} (hL : Lies w0 b 28 cs) : ¬ S b := fun hS => by
  obtain ⟨g, gw, B, cap, A, c, h1, h2⟩ := h
  rcases (h2 b).1 hS with e | e | e | e | e
  · exact hL.apart h1.own (by decide) e
  · exact hL.apart h1.at_.own (by decide) e
  · exact hL.apart h1.at_.words (by decide) e
  · exact h1.not_b hL (by decide) e
  · exact h1.at_.not_row hL (by decide) e
theorem pz_step {P : Ending → Prop} {f : Nat} {args : Array Value} (h : Pz w w0 r rows B l cap row)
    (hc : ∀ S, Rq w0 w.heap.size r rows 3 0 [] S → Calls Try.prog f args w0 fun e w' => P e ∧ Step w0 w' w.heap.size r S rows' 3 0 []) :
    Calls Try.prog f args w0 fun e w' => P e ∧ Pz w w' r rows' B l cap row ∧ ∀ b cs, Lies w0 b 28 cs → Lies w' b 28 cs := by
  obtain ⟨hl, S, h1, h2, h3, h4⟩ := h
  refine (hc S h1).mono ?_
  rintro e w' ⟨he, s⟩
  have hb := s.below h1
  obtain ⟨S', s1, s2, s3⟩ := s
  refine ⟨he, ⟨hl, S', s1, h2.kept fun b cs hB hL => s2.lies hL (h3 b hB), fun k hk hS => ?_, h4.trans hb⟩, fun b cs hL => s2.lies hL (h1.not_box hL)⟩
  rcases s3 k hS with h | h
  · exact h3 k hk h
  · obtain ⟨cs, hL, _⟩ := h2.lies hk
    have := hL.lt
    omega
theorem pz_same {P : Ending → Prop} {f : Nat} {args : Array Value} (h : Pz w w0 r rows B l cap row)
    (hc : ∀ S, Rq w0 w.heap.size r rows 3 0 [] S → Calls Try.prog f args w0 fun e w' => P e ∧ w0 = w') :
    Calls Try.prog f args w0 fun e w' => P e ∧ w0 = w' := by
  obtain ⟨hl, S, h1, _⟩ := h
  exact hc S h1
theorem Pz.low (h : Pz w w0 r rows B l cap row) : Below w.heap.size w w0 := by obtain ⟨_, _, _, _, _, h⟩ := h; exact h
theorem Pz.rv (h : Pz w w0 r rows B l cap row) : Rv w0 w.heap.size B cap row := by obtain ⟨_, _, _, h, _⟩ := h; exact h
/-- One more in the law's row. -/
theorem Pz.append {B' : Option Addr} {cap' : Nat} {y : Int} (h : Pz w w0 r rows B l cap row) (R : Rv w1 w.heap.size B' cap' (row ++ [y])) (G : w0.grownBy w1 (blk B)) (M : blk B' = blk B ∨ blk B' = some w0.heap.size) : Pz w w1 r rows B' (l + 1) cap' (row ++ [y]) := by
  obtain ⟨hl, S, h1, h2, h3, h4⟩ := h
  have C : Chg (fun k => some k = blk B) w0 w1 := ⟨G.os, G.tape, G.output, G.size, fun k hk hn => G.block k hk hn⟩
  refine ⟨by simp [hl], S, h1.other C fun i hi e => h3 i e.symm hi, R, fun k hk hS => ?_, h4.trans (C.below h4.size fun k e => ?_)⟩
  · rcases M with e | e
    · exact h3 k (e.symm.trans hk) hS
    · have := (h1.lt k hS).2
      rw [e] at hk
      injection hk with hk
      omega
  · obtain ⟨cs, _, hq⟩ := h2.lies e.symm
    exact hq
/-- One in the law's row is turned. -/
theorem Pz.turn {q : Nat} (h : Pz w w0 r rows (some ⟨q, 0, none⟩) l cap row) (i : Nat) (y : Int) : Pz w (w0.setCell ⟨q, i, none⟩ (.int .i64 y)) r rows (some ⟨q, 0, none⟩) l cap (row.set i y) := by
  obtain ⟨hl, S, h1, h2, h3, h4⟩ := h
  obtain ⟨cs, _, hq⟩ := h2.lies (k := q) rfl
  refine ⟨by simp [hl], S, h1.far (h3 q rfl), h2.turn i y, h3, h4.trans ((Chg.set (S := fun k => k = q) rfl).below h4.size fun k e => by omega)⟩
/-- The last one of the law's row is cut off. -/
theorem Pz.cut {y : Int} {r' : List Int} {l' : Nat} (h : Pz w w0 r rows B l cap (r' ++ [y])) (hl : l = l' + 1) : (∀ W : World, (Instr.slice 26 (.slice B l cap) none (some (.int .i64 (l' : Int))) none).run Try.prog W = .ok (.slice B l' cap) W) ∧ Pz w w0 r rows B l' cap r' := by
  obtain ⟨hl', S, h1, h2, h3, h4⟩ := h
  have e : r'.length = l' := by simp at hl'; omega
  subst hl
  subst e
  exact ⟨h2.cut.1, rfl, S, h1, h2.cut.2, h3, h4⟩
theorem pz_push (h : Pz w w0 r rows B l cap row) (y : Int) (hy : 0 ≤ y) (hl : rows.length < 1024) : Calls Try.prog 9 #[.pointer (some ⟨r, 0, none⟩), .int .i64 y] w0 fun e w' => e = .returned (.int .i64 0) ∧ Pz w w' r (rows ++ [y]) B l cap row ∧ ∀ b cs, Lies w0 b 28 cs → Lies w' b 28 cs :=
  pz_step h fun S hq => push_yes hq y hy hl
theorem pz_push_bad (h : Pz w w0 r rows B l cap row) (y : Int) (hy : y < 0) : Calls Try.prog 9 #[.pointer (some ⟨r, 0, none⟩), .int .i64 y] w0 fun e w' => e = .returned (.int .i64 1) ∧ w0 = w' :=
  pz_same h fun S hq => push_bad hq y hy
theorem pz_pop {y : Int} (h : Pz w w0 r (rows ++ [y]) B l cap row) (hl : rows.length < 2000) : Calls Try.prog 10 #[.pointer (some ⟨r, 0, none⟩)] w0 fun e w' => e = .returned (.tuple #[.int .i64 y, .int .i64 0]) ∧ Pz w w' r rows B l cap row ∧ ∀ b cs, Lies w0 b 28 cs → Lies w' b 28 cs :=
  pz_step h fun S hq => pop_yes hq hl
theorem pz_pop_empty (h : Pz w w0 r [] B l cap row) : Calls Try.prog 10 #[.pointer (some ⟨r, 0, none⟩)] w0 fun e w' => e = .returned (.tuple #[.int .i64 0, .int .i64 7]) ∧ w0 = w' :=
  pz_same h fun S hq => pop_empty hq
theorem wpList_append_rl {w : World} {base : Nat} {ops : Array Oper} {rest : List Oper} {o : Oper} {a : Act} {Q : Exit → Act → World → Prop} (hgd : o.guard = none) (s x : Operand)
    (ho : o.op = .call { callee := .builtin .append, args := #[s, x], argTypes := #[26, 26] }) (hs : a.eval s = .slice B l cap) (hl : row.length = l) (h : Rv w base B cap row) (hbase : base ≤ w.heap.size) (hlen : l ≤ 2000) (ad : Addr) (y : Int) (hx : a.eval x = .slice (some ad) 1 1) (hy : w.cell? ad = some (.int .i64 y))
    (k : ∀ B' cap' w', Rv w' base B' cap' (row ++ [y]) → w.grownBy w' (blk B) → (blk B' = blk B ∨ blk B' = some w.heap.size) → wpList Try.prog ops Q rest (a.put o.dst (.slice B' (l + 1) cap')) w') : wpList Try.prog ops Q (o :: rest) a w := by
  subst hl
  exact wpList_append_rv hgd s x ho hs h hbase hlen ad y hx hy k
theorem pz_len (h : Pz w w0 r rows B l cap row) (n : Nat) (hn : rows.length = n) : Calls Try.prog 14 #[.pointer (some ⟨r, 0, none⟩)] w0 fun e w' => e = .returned (.int .i64 n) ∧ w0 = w' := by
  subst hn
  exact pz_same h fun S hq => len_any hq
theorem pz_get (h : Pz w w0 r rows B l cap row) (i : Int) (m : Nat) (e : i = m) (hm : m < rows.length) (y : Int) (hy : rows.getD m 0 = y) : Calls Try.prog 12 #[.pointer (some ⟨r, 0, none⟩), .int .i64 i] w0 fun e w' => e = .returned (.tuple #[.int .i64 y, .int .i64 0]) ∧ w0 = w' := by
  subst e
  exact pz_same h fun S hq => get_yes hq m hm y hy
theorem pz_get_no (h : Pz w w0 r rows B l cap row) (i : Int) (hi : i < 0 ∨ rows.length ≤ i) : Calls Try.prog 12 #[.pointer (some ⟨r, 0, none⟩), .int .i64 i] w0 fun e w' => e = .returned (.tuple #[.int .i64 0, .int .i64 13]) ∧ w0 = w' :=
  pz_same h fun S hq => get_no hq i hi
theorem pz_set (h : Pz w w0 r rows B l cap row) (i y : Int) (m : Nat) (e : i = m) (hm : m < rows.length) (hy : 0 ≤ y) : Calls Try.prog 11 #[.pointer (some ⟨r, 0, none⟩), .int .i64 i, .int .i64 y] w0 fun e w' => e = .returned (.int .i64 0) ∧ Pz w w' r (rows.set m y) B l cap row ∧ ∀ b cs, Lies w0 b 28 cs → Lies w' b 28 cs := by
  subst e
  exact pz_step h fun S hq => set_yes hq m hm y hy
theorem pz_set_bad (h : Pz w w0 r rows B l cap row) (i y : Int) (m : Nat) (e : i = m) (hm : m < rows.length) (hy : y < 0) : Calls Try.prog 11 #[.pointer (some ⟨r, 0, none⟩), .int .i64 i, .int .i64 y] w0 fun e w' => e = .returned (.int .i64 1) ∧ w0 = w' := by
  subst e
  exact pz_same h fun S hq => set_bad hq m hm y hy
theorem pz_set_no (h : Pz w w0 r rows B l cap row) (i y : Int) (hi : i < 0 ∨ rows.length ≤ i) : Calls Try.prog 11 #[.pointer (some ⟨r, 0, none⟩), .int .i64 i, .int .i64 y] w0 fun e w' => e = .returned (.int .i64 13) ∧ w0 = w' :=
  pz_same h fun S hq => set_none hq i y hi

/-- All of them as a list that is told: a new block, of which the first so many were written over. -/
def Told (w wr : World) (r : Nat) (B : Option Addr) (l cap : Nat) (row : List Int) (q m : Nat) : Prop :=
  (row.length = l ∧ ∃ S, Rq wr w.heap.size r row 3 0 [] S ∧ Rv wr w.heap.size B cap row ∧ (∀ k, blk B = some k → ¬ S k) ∧ Below w.heap.size w wr ∧ ¬ S q ∧ blk B ≠ some q ∧ w.heap.size ≤ q) ∧
  ∃ cs, Lies wr q 3 cs ∧ cs.length = l ∧ ∀ i, m ≤ i → i < l → cs[i]? = some (.int .i64 (row.getD i 0))
theorem pz_all (h : Pz w w0 r row B l cap row) (hl : l ≤ 2000) : Calls Try.prog 13 #[.pointer (some ⟨r, 0, none⟩)] w0 fun e w' => ∃ ad q, e = .returned (.slice (some ad) l l) ∧ ad = ⟨q, 0, none⟩ ∧ Told w w' r B l cap row q 0 := by
  obtain ⟨hl', S, h1, h2, h3, h4⟩ := h
  subst hl'
  refine (all_any h1 hl).mono ?_
  rintro e w' ⟨rfl, hL, hB⟩
  refine ⟨_, _, rfl, rfl, ⟨rfl, S, h1.kept hB, h2.below hB, h3, on h4 h4.size hB, fun hS => ?_, fun e => ?_, h4.size⟩, _, hL, by simp, fun i _ hi => by simp [hi, List.getD]⟩
  · have := (h1.lt _ hS).2; omega
  · obtain ⟨cs, hl, _⟩ := h2.lies e
    have := hl.lt; omega
theorem Told.kept {q m : Nat} (h : Told w w0 r B l cap row q m) (hb : Below w0.heap.size w0 w1) : Told w w1 r B l cap row q m := by
  obtain ⟨⟨hl, S, h1, h2, h3, h4, h5⟩, cs, hL, hc⟩ := h
  exact ⟨⟨hl, S, h1.kept hb, h2.below hb, h3, on h4 h4.size hb, h5⟩, cs, hL.kept hb, hc⟩
theorem Told.pz {q m : Nat} (h : Told w w0 r B l cap row q m) : Pz w w0 r row B l cap row := by
  obtain ⟨⟨hl, S, h1, h2, h3, h4, _⟩, _⟩ := h
  exact ⟨hl, S, h1, h2, h3, h4⟩
theorem Told.at_ {q m : Nat} (h : Told w w0 r B l cap row q m) (hm : m < l) {ad : Addr} (had : ad = ⟨q, 0, none⟩) :
    ∃ y, w0.cell? (ad.add m) = some (.int .i64 y) ∧ w0.frozen? (ad.add m) = false ∧ ∃ ad2, B = some ad2 ∧ w0.cell? (ad2.add m) = some (.int .i64 y) := by
  obtain ⟨⟨hl, S, h1, h2, h3, h4, h5⟩, cs, hL, hc, hcs⟩ := h
  subst hl
  subst had
  obtain ⟨ad2, q2, e2, -, c2, -⟩ := h2.at_ hm
  exact ⟨_, by rw [add_at, hL.cell, hcs m (Nat.le_refl _) hm], by rw [add_at]; exact hL.frozen m, ad2, e2, c2⟩
theorem Told.next {q m : Nat} (h : Told w w0 r B l cap row q m) {ad : Addr} (had : ad = ⟨q, 0, none⟩) (y : Int) : Told w (w0.setCell (ad.add m) (.int .i64 y)) r B l cap row q (m + 1) := by
  obtain ⟨⟨hl, S, h1, h2, h3, h4, h5, h6, h7⟩, cs, hL, hc, hcs⟩ := h
  subst had
  rw [add_at]
  refine ⟨⟨hl, S, h1.far h5, h2.kept fun b cs hb hl => hl.far (p := ⟨q, m, none⟩) (fun e => h6 (by rw [hb, e])) _, h3, h4.trans ((Chg.set (S := fun k => k = q) rfl).below h4.size fun k e => by omega), h5, h6, h7⟩, cs.set m (.int .i64 y), hL.set m _, by simpa using hc, fun i hi hil => ?_⟩
  rw [List.getElem?_set_ne (by omega)]
  exact hcs i (by omega) hil
end
end Go.Proofs.Ytelompgefldojaa
