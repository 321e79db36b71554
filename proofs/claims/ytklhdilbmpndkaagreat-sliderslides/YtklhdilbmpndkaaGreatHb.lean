/- Regions in memory: a row of what stays, of each, its live words, and where it goes. add: one more stays in a region. -/
import Derived.Test.YtklhdilbmpndkaaGreatHd
namespace Go.Proofs.YtklhdilbmpndkaaGreat
set_option maxRecDepth 20000
open Go.RowKit
set_option linter.unusedVariables false
set_option linter.unusedSimpArgs false

structure Reg where
  B : Option Addr
  cap : Nat
  row : List Int
  live : Nat
  first : Nat
def Reg.cells (x : Reg) : List Value := [.slice x.B x.row.length x.cap, .int .i64 (x.live : Nat), .int .i64 (x.first : Nat)]
def regC (l : List Reg) : List Value := l.flatMap Reg.cells
theorem regC_cons (x : Reg) (l : List Reg) : regC (x :: l) = .slice x.B x.row.length x.cap :: .int .i64 (x.live : Nat) :: .int .i64 (x.first : Nat) :: regC l := rfl
theorem regC_len : ∀ l : List Reg, (regC l).length = 3 * l.length
  | [] => rfl
  | x :: l => by rw [regC_cons]; simp [regC_len l]; omega
theorem regC_at : ∀ {l : List Reg} {k : Nat} {x : Reg}, l[k]? = some x → (regC l)[k * 3]? = some (.slice x.B x.row.length x.cap) ∧ (regC l)[k * 3 + 1]? = some (.int .i64 (x.live : Nat)) ∧ (regC l)[k * 3 + 2]? = some (.int .i64 (x.first : Nat))
  | [], k, x, h => by simp at h
  | y :: l, 0, x, h => by
    simp at h; subst h
    exact ⟨rfl, rfl, rfl⟩
  | y :: l, k + 1, x, h => by
    simp at h
    have := regC_at h
    rw [regC_cons]
    have e : (k + 1) * 3 = k * 3 + 1 + 1 + 1 := by omega
    rw [e]
    simpa using this
theorem regC_set : ∀ {l : List Reg} {k : Nat} {x : Reg} (y : Reg), l[k]? = some x →
    regC (l.set k y) = (((regC l).set (k * 3) (.slice y.B y.row.length y.cap)).set (k * 3 + 1) (.int .i64 (y.live : Nat))).set (k * 3 + 2) (.int .i64 (y.first : Nat))
  | [], k, x, y, h => by simp at h
  | z :: l, 0, x, y, h => rfl
  | z :: l, k + 1, x, y, h => by
    simp at h
    have := regC_set y h
    rw [List.set_cons_succ, regC_cons, this, regC_cons]
    have e : (k + 1) * 3 = k * 3 + 1 + 1 + 1 := by omega
    rw [e]
    simp

/-- Regions in memory: their cells in block q, their rows behind base, each in a block of its own. -/
structure Rg (w : World) (base q : Nat) (l : List Reg) : Prop where
  own : Lies w q 138 (regC l)
  rows : ∀ x ∈ l, Rv w base x.B x.cap x.row
  apart : ∀ (i j : Nat) (x y : Reg), l[i]? = some x → l[j]? = some y → i ≠ j → blk x.B = blk y.B → blk x.B = none
  lo : q < base

/-- Blocks but those of regions are as they were. -/
structure Pass (q base : Nat) (w w' : World) : Prop where
  os : w'.os = w.os
  tape : w'.tape = w.tape
  output : w'.output = w.output
  size : w.heap.size ≤ w'.heap.size
  block : ∀ k, k < w.heap.size → k ≠ q → k < base → w'.heap[k]? = w.heap[k]?
  others : ∀ (k : Nat) (cs : Array Value) (t : TypeId) (fr : Nat × Nat), w.heap[k]? = some (.cells cs t fr) → t ≠ 3 → k ≠ q → w'.heap[k]? = w.heap[k]?
  keeps : KeepsOthers w w'
theorem Pass.below {q base : Nat} {w w' : World} (h : Pass q base w w') (hq : q ≤ base) : q ≤ w.heap.size → Below q w w' := fun hs =>
  ⟨h.os, h.tape, h.output, h.size, fun k hk => h.block k (by omega) (by omega) (by omega)⟩
theorem keeps_below {w w' : World} (h : Below w.heap.size w w') : KeepsOthers w w' := ⟨h.size, fun k o hk _ => (h.block k (Array.getElem?_eq_some_iff.1 hk).1).trans hk⟩
theorem Pass.of_below {q base : Nat} {w w' : World} (h : Below w.heap.size w w') : Pass q base w w' :=
  ⟨h.os, h.tape, h.output, h.size, fun k hk _ _ => h.block k hk, fun k cs t fr hk _ _ => h.block k (Array.getElem?_eq_some_iff.1 hk).1, keeps_below h⟩
theorem Pass.trans {q base : Nat} {a b c : World} (h : Pass q base a b) (k : Pass q base b c) : Pass q base a c :=
  ⟨k.os.trans h.os, k.tape.trans h.tape, k.output.trans h.output, Nat.le_trans h.size k.size, fun i hi h1 h2 => (k.block i (Nat.lt_of_lt_of_le hi h.size) h1 h2).trans (h.block i hi h1 h2),
    fun i cs t fr hi h1 h2 => (k.others i cs t fr ((h.others i cs t fr hi h1 h2).trans hi) h1 h2).trans (h.others i cs t fr hi h1 h2), h.keeps.trans k.keeps⟩
theorem Pass.lies {q base b : Nat} {w w' : World} {t : TypeId} {cs : List Value} (h : Pass q base w w') (hl : Lies w b t cs) (ht : t ≠ 3) (hb : b ≠ q) : Lies w' b t cs := hl.of_block (h.others b _ t _ hl ht hb)
theorem Pass.set {q base : Nat} (w : World) (i : Nat) (u : Value) : Pass q base w (w.setCell ⟨q, i, none⟩ u) :=
  ⟨rfl, rfl, rfl, by simp, fun k _ h1 _ => Below.heap_setCell w ⟨q, i, none⟩ u k h1, fun k _ _ _ _ _ h1 => Below.heap_setCell w ⟨q, i, none⟩ u k h1, KeepsOthers.setCell _ _ _⟩

section
variable {w w' : World} {base q : Nat} {l : List Reg}
theorem Rg.kept (h : Rg w base q l) (hb : Below w.heap.size w w') : Rg w' base q l := ⟨h.own.kept hb, fun x hx => (h.rows x hx).below hb, h.apart, h.lo⟩
theorem Rg.cells (h : Rg w base q l) {k : Nat} {x : Reg} (hx : l[k]? = some x) : w.cell? ⟨q, k * 3, none⟩ = some (.slice x.B x.row.length x.cap) ∧ w.cell? ⟨q, k * 3 + 1, none⟩ = some (.int .i64 (x.live : Nat)) ∧ w.cell? ⟨q, k * 3 + 2, none⟩ = some (.int .i64 (x.first : Nat)) := by
  obtain ⟨h1, h2, h3⟩ := regC_at hx
  exact ⟨by rw [h.own.cell]; exact h1, by rw [h.own.cell]; exact h2, by rw [h.own.cell]; exact h3⟩
/-- One region's numbers are turned. -/
theorem Rg.nums (h : Rg w base q l) {k : Nat} {x : Reg} (hx : l[k]? = some x) (live first : Nat) {w' : World} (own : Lies w' q 138 (regC (l.set k { x with live := live, first := first }))) (hs : ∀ b, b ≠ q → w'.heap[b]? = w.heap[b]?) : Rg w' base q (l.set k { x with live := live, first := first }) := by
  refine ⟨own, fun y hy => ?_, fun i j y z hy hz hij hb => ?_, h.lo⟩
  · have hR : ∀ y ∈ l, Rv w' base y.B y.cap y.row := fun y hy => (h.rows y hy).off fun b hb _ => hs b (by have := h.lo; omega)
    rcases List.mem_or_eq_of_mem_set hy with hy | rfl
    · exact hR y hy
    · exact hR x (List.mem_of_getElem? hx)
  · have hf : ∀ (i : Nat) (y : Reg), (l.set k { x with live := live, first := first })[i]? = some y → ∃ y' : Reg, l[i]? = some y' ∧ y'.B = y.B := fun i y hy => by
      rw [List.getElem?_set] at hy
      split at hy
      · next e =>
        subst e
        split at hy
        · injection hy with hy
          exact ⟨x, hx, by rw [← hy]⟩
        · cases hy
      · exact ⟨y, hy, rfl⟩
    obtain ⟨y', h1, e1⟩ := hf i y hy
    obtain ⟨z', h2, e2⟩ := hf j z hz
    rw [← e1]
    exact h.apart i j y' z' h1 h2 hij (by rw [e1, e2]; exact hb)
/-- One region's row grows. -/
theorem Rg.grown (h : Rg w base q l) (hbase : base ≤ w.heap.size) {k : Nat} {x : Reg} (hx : l[k]? = some x) {B' : Option Addr} {cap' : Nat} {y : Int} (R : Rv w' base B' cap' (x.row ++ [y])) (G : w.grownBy w' (blk x.B)) (M : blk B' = blk x.B ∨ blk B' = some w.heap.size) :
    (∀ i z, l[i]? = some z → i ≠ k → Rv w' base z.B z.cap z.row ∧ (blk z.B = blk B' → blk z.B = none)) ∧ Lies w' q 138 (regC l) ∧ Pass q base w w' := by
  have hlt := h.lo
  have hnb : ∀ b, b < base → some b ≠ blk x.B := fun b hb e => by have := ((h.rows x (List.mem_of_getElem? hx)).blk_lt e.symm).1; omega
  refine ⟨fun i z hz hik => ⟨?_, fun e => ?_⟩, h.own.of_block (G.block q h.own.lt (hnb q hlt)), ⟨G.os, G.tape, G.output, G.size, fun b hb _ h2 => G.block b hb (hnb b h2), fun b cs t fr hb ht _ => G.block b (Array.getElem?_eq_some_iff.1 hb).1 fun e => ?_, KeepsOthers.of_grownBy G fun j o e hj => ?_⟩⟩
  · refine (h.rows z (List.mem_of_getElem? hz)).kept fun b cs hb hl => hl.of_block (G.block b hl.lt fun e => ?_)
    have := h.apart i k z x hz hx hik (by rw [hb, e])
    rw [hb] at this; cases this
  · rcases M with e2 | e2
    · exact h.apart i k z x hz hx hik (e.trans e2)
    · cases hz2 : blk z.B with
      | none => rfl
      | some b =>
        have := ((h.rows z (List.mem_of_getElem? hz)).blk_lt hz2).2
        rw [hz2, e2] at e
        injection e with e
        omega
  · obtain ⟨cs', hl, _⟩ := (h.rows x (List.mem_of_getElem? hx)).lies e.symm
    unfold Lies at hl
    rw [hl] at hb
    injection hb with hb
    injection hb with _ hb
    exact ht hb.symm
  · obtain ⟨cs', hl, _⟩ := (h.rows x (List.mem_of_getElem? hx)).lies e
    unfold Lies at hl
    rw [hl] at hj
    injection hj with hj
    rw [← hj]; rfl
end
end Go.Proofs.YtklhdilbmpndkaaGreat

namespace Go.Proofs.YtklhdilbmpndkaaGreat
set_option maxRecDepth 20000
open Go.RowKit
set_option linter.unusedVariables false
set_option linter.unusedSimpArgs false

theorem Rg.added {w w2 w3 : World} {base q : Nat} {l : List Reg} (h : Rg w base q l) (hbase : base ≤ w.heap.size) {k : Nat} {x : Reg} (hx : l[k]? = some x) {B' : Option Addr} {cap' : Nat} {y : Int} {live : Nat} (R : Rv w2 base B' cap' (x.row ++ [y])) (G : w.grownBy w2 (blk x.B)) (M : blk B' = blk x.B ∨ blk B' = some w.heap.size)
    (e3 : w3 = (w2.setCell ⟨q, k * 3, none⟩ (.slice B' (x.row.length + 1) cap')).drew.setCell ⟨q, k * 3 + 1, none⟩ (.int .i64 (live : Nat))) :
    Rg w3 base q (l.set k ⟨B', cap', x.row ++ [y], live, x.first⟩) ∧ Pass q base w w3 := by
  obtain ⟨h1, h2, h3⟩ := h.grown hbase hx R G M
  have hlt := h.lo
  have hs : ∀ b, b ≠ q → w3.heap[b]? = w2.heap[b]? := fun b hb => by
    rw [e3, Below.heap_setCell _ ⟨q, k * 3 + 1, none⟩ _ b hb]
    show (w2.setCell ⟨q, k * 3, none⟩ _).heap[b]? = _
    rw [Below.heap_setCell _ ⟨q, k * 3, none⟩ _ b hb]
  have hown : Lies w3 q 138 (((regC l).set (k * 3) (.slice B' (x.row.length + 1) cap')).set (k * 3 + 1) (.int .i64 (live : Nat))) := by
    rw [e3]
    exact (show Lies (w2.setCell ⟨q, k * 3, none⟩ (.slice B' (x.row.length + 1) cap')).drew q 138 _ from (h2.set (k * 3) _)).set (k * 3 + 1) _
  have hset := regC_set ⟨B', cap', x.row ++ [y], live, x.first⟩ hx
  have hfst : (((regC l).set (k * 3) (.slice B' (x.row.length + 1) cap')).set (k * 3 + 1) (.int .i64 (live : Nat))).set (k * 3 + 2) (.int .i64 (x.first : Nat)) = ((regC l).set (k * 3) (.slice B' (x.row.length + 1) cap')).set (k * 3 + 1) (.int .i64 (live : Nat)) := by
    have := (regC_at hx).2.2
    have hl2 := (List.getElem?_eq_some_iff.1 this).1
    refine List.ext_getElem? fun i => ?_
    by_cases hi : k * 3 + 2 = i
    · subst hi
      rw [List.getElem?_set_self (by simpa using hl2), List.getElem?_set_ne (by omega), List.getElem?_set_ne (by omega), this]
    · rw [List.getElem?_set_ne hi]
  have elen : (x.row ++ [y]).length = x.row.length + 1 := by simp
  simp only [elen] at hset
  rw [hfst] at hset
  have hkl := (List.getElem?_eq_some_iff.1 hx).1
  refine ⟨⟨by rw [hset]; exact hown, fun z hz => ?_, fun i j y1 z1 hy1 hz1 hij hb => ?_, hlt⟩, ?_⟩
  · rcases List.mem_iff_getElem?.1 hz with ⟨i, hi⟩
    by_cases hik : i = k
    · subst hik
      rw [List.getElem?_set_self hkl] at hi
      injection hi with hi
      subst hi
      exact R.off fun b hb _ => hs b (by omega)
    · rw [List.getElem?_set_ne (Ne.symm hik)] at hi
      exact (h1 i z hi hik).1.off fun b hb _ => hs b (by omega)
  · by_cases hik : i = k
    · subst hik
      rw [List.getElem?_set_self hkl] at hy1
      injection hy1 with hy1
      subst hy1
      rw [List.getElem?_set_ne hij] at hz1
      have := (h1 j z1 hz1 (Ne.symm hij)).2 hb.symm
      show blk B' = none
      rw [hb]; exact this
    · rw [List.getElem?_set_ne (Ne.symm hik)] at hy1
      by_cases hjk : j = k
      · subst hjk
        rw [List.getElem?_set_self hkl] at hz1
        injection hz1 with hz1
        subst hz1
        exact (h1 i y1 hy1 hik).2 hb
      · rw [List.getElem?_set_ne (Ne.symm hjk)] at hz1
        exact h.apart i j y1 z1 hy1 hz1 hij hb
  · rw [e3]
    exact (h3.trans (Pass.set _ _ _)).trans ((Pass.of_below ((Below.refl _ _).drew)).trans (Pass.set _ _ _))

set_option maxRecDepth 100000 in
set_option maxHeartbeats 1000000 in
theorem add_any {w : World} {base q : Nat} {l : List Reg} (h : Rg w base q l) (hbase : base ≤ w.heap.size) (k : Nat) (x : Reg) (hx : l[k]? = some x) (at_ : Nat) (kd pt : Int) (ln : Nat) (hl : x.live ≤ 1000000000) (hln : ln ≤ 65536) (hrow : x.row.length ≤ 100000) (e : Nat) (he : k * 3 = e) :
    Calls Tryz.prog 81 #[.pointer (some ⟨q, e, none⟩), .int .i64 (at_ : Nat), .agg #[.int .i64 kd, .int .i64 (ln : Nat), .int .i64 pt]] w fun x1 w' => x1 = .returned (.tuple #[]) ∧
      ∃ B' cap', Rg w' base q (l.set k ⟨B', cap', x.row ++ [(at_ : Int)], x.live + (1 + ln), x.first⟩) ∧ Pass q base w w' := by
  have bX := below_one w (.cells #[.int .i64 kd, .int .i64 (ln : Nat), .int .i64 pt] 64)
  have H1 := h.kept bX
  have LX : Lies (w.alloc (.cells #[.int .i64 kd, .int .i64 (ln : Nat), .int .i64 pt] 64)) w.heap.size 64 [.int .i64 kd, .int .i64 (ln : Nat), .int .i64 pt] := Lies.new w 64 [_, _, _]
  have bY := below_one (w.alloc (.cells #[.int .i64 kd, .int .i64 (ln : Nat), .int .i64 pt] 64)) (.cells #[.int .i64 (at_ : Nat)] 3)
  have H2 := H1.kept bY
  have L2 := LX.alloc (.cells #[.int .i64 (at_ : Nat)] 3)
  have cc : ((w.alloc (.cells #[.int .i64 kd, .int .i64 (ln : Nat), .int .i64 pt] 64)).alloc (.cells #[.int .i64 (at_ : Nat)] 3)).cell? ⟨w.heap.size + 1, 0, none⟩ = some (.int .i64 (at_ : Nat)) := by
    have := (Lies.new (w.alloc (.cells #[.int .i64 kd, .int .i64 (ln : Nat), .int .i64 pt] 64)) 3 [.int .i64 (at_ : Nat)]).cell 0
    rw [World.size_alloc] at this; exact this
  obtain ⟨c0, c1, -⟩ := H1.cells hx
  rw [he] at c0 c1
  obtain ⟨rl, hrl⟩ : ∃ rl, x.row.length = rl := ⟨_, rfl⟩
  obtain ⟨lv, hlv⟩ : ∃ lv, x.live = lv := ⟨_, rfl⟩
  obtain ⟨Bx, hBx⟩ : ∃ Bx, x.B = Bx := ⟨_, rfl⟩
  obtain ⟨cx, hcx⟩ : ∃ cx, x.cap = cx := ⟨_, rfl⟩
  have HXX := Lib.hid hx
  have HRL := Lib.hid hrl
  have HLV := Lib.hid hlv
  have HBX := Lib.hid hBx
  have HCX := Lib.hid hcx
  have HE := Lib.hid he
  have HH2 := Lib.hid H2
  have HL2 := Lib.hid L2
  have HC := Lib.hid cc
  have hb2 : base ≤ ((w.alloc (.cells #[.int .i64 kd, .int .i64 (ln : Nat), .int .i64 pt] 64)).alloc (.cells #[.int .i64 (at_ : Nat)] 3)).heap.size := by simp; omega
  have HB2 := Lib.hid hb2
  have RV := Lib.hid (H2.rows x (List.mem_of_getElem? hx))
  have HP := Lib.hid (Pass.of_below (q := q) (base := base) (on bX bX.size bY))
  rw [hrl, hBx, hcx] at c0
  rw [hlv] at c1 hl
  rw [hrl] at hrow
  rw [hBx, hcx] at RV
  clear h H1 LX L2 cc H2 bX bY hx he hrl hlv hBx hcx hb2
  go_enter Tryz.func81, Tryz.ntmps81
  go_upto_region 2 with (at_builtin; (have RV7 := RV.out); rw [← HRL.out]; refine wpList_append_rv rfl (.tmp 10) (.tmp 12) rfl rfl RV7 HB2.out (by rw [HRL.out]; omega) ⟨w.heap.size + 1, 0, none⟩ (at_ : Int) rfl HC.out ?_; intro B' cap' w2 R2 G2 M2; rw [← HBX.out] at G2 M2; (have KA := Lib.hid (HH2.out.grown HB2.out HXX.out R2 G2 M2)); (have KB := Lib.hid R2); (have KC := Lib.hid G2); (have KD := Lib.hid M2); (have LQ := KA.out.2.1); (have f0 := LQ.frozen e); (have f1 := LQ.frozen (e + 1)); (have d0 : w2.cell? ⟨q, e, none⟩ = some (.slice Bx rl cx) := by rw [LQ.cell, ← HE.out, (regC_at HXX.out).1, HRL.out, HBX.out, HCX.out]); (have d1 : w2.cell? ⟨q, e + 1, none⟩ = some (.int .i64 (lv : Nat)) := by rw [LQ.cell, ← HE.out, (regC_at HXX.out).2.1, HLV.out]); (have LX2 := KA.out.2.2.lies HL2.out (by decide) (by have := HH2.out.lo; have := HB2.out; simp at this; omega)); (have HLX2 := Lib.hid LX2); (have d2 : w2.cell? ⟨w.heap.size, 1, none⟩ = some (.int .i64 (ln : Nat)) := LX2.cell 1); rw [HRL.out]; clear R2 G2 M2 RV7 LQ LX2 c0 c1)
  obtain ⟨w3, hw3⟩ : ∃ w3, w2.setCell ⟨q, e, none⟩ (.slice B' (rl + 1) cap') = w3 := ⟨_, rfl⟩
  have LQ3 := KA.out.2.1.set e (.slice B' (rl + 1) cap')
  have hne : w.heap.size ≠ q := HLX2.out.apart KA.out.2.1 (by decide)
  have LX3 := HLX2.out.far (p := ⟨q, e, none⟩) hne (.slice B' (rl + 1) cap')
  rw [hw3] at LQ3 LX3 ⊢
  have g1 : w3.cell? ⟨q, e + 1, none⟩ = some (.int .i64 (lv : Nat)) := by
    rw [LQ3.cell, List.getElem?_set_ne (by omega), ← HE.out, (regC_at HXX.out).2.1, HLV.out]
  have g2 := LQ3.frozen (e + 1)
  have g3 : w3.cell? ⟨w.heap.size, 1, none⟩ = some (.int .i64 (ln : Nat)) := LX3.cell 1
  have HW3 := Lib.hid hw3
  clear hw3 LQ3 LX3 d0 d1 d2 f0 f1 hne
  go_region
  go_wp2
  go_end0
  refine ⟨rfl, B', cap', ?_⟩
  have e3 : w3.drew.setCell ⟨q, e + 1, none⟩ (.int .i64 ((lv : Int) + (1 + (ln : Int)))) = (w2.setCell ⟨q, k * 3, none⟩ (.slice B' (x.row.length + 1) cap')).drew.setCell ⟨q, k * 3 + 1, none⟩ (.int .i64 ((x.live + (1 + ln) : Nat) : Int)) := by
    rw [HE.out, HRL.out, HLV.out, HW3.out]
    congr 2
  obtain ⟨a1, a2⟩ := HH2.out.added HB2.out HXX.out KB.out KC.out KD.out e3
  exact ⟨a1, HP.out.trans a2⟩
end Go.Proofs.YtklhdilbmpndkaaGreat
