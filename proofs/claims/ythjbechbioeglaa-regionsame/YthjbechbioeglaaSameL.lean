/- Of RegionSame: the boxes of the two, whatever order they are made in (memory alone). -/
import Derived.Test.YthjbechbioeglaaSamL
namespace Go.Proofs.Ythjbechbioeglaa
open Go.RowKit
set_option linter.unusedVariables false
set_option linter.unusedSimpArgs false

def AnyBox (W : World) (p : Nat) : Prop := ∃ z0 z1 z2, Lies W p 37 [z0, z1, z2]
theorem any_new {W : World} {p : Nat} {a b c : Value} (h : p = W.heap.size) : AnyBox (W.alloc (.cells #[a, b, c] 37)) p := by subst h; exact ⟨_, _, _, Lies.new W 37 [a, b, c]⟩
theorem any_alloc {W : World} {p : Nat} {o : Obj} (h : AnyBox W p) : AnyBox (W.alloc o) p := by obtain ⟨_, _, _, h⟩ := h; exact ⟨_, _, _, h.alloc o⟩
theorem any_drew {W : World} {p : Nat} (h : AnyBox W p) : AnyBox W.drew p := h
theorem any_kept {W W' : World} {p : Nat} (h : AnyBox W p) (hb : Below W.heap.size W W') : AnyBox W' p := by obtain ⟨_, _, _, h⟩ := h; exact ⟨_, _, _, h.kept hb⟩
theorem any_far {W : World} {p p' : Nat} {a b c : Value} (h : AnyBox W p) (hp : p ≠ p') : AnyBox (((W.setCell ⟨p', 0, none⟩ a).setCell ⟨p', 1, none⟩ b).setCell ⟨p', 2, none⟩ c) p := by
  obtain ⟨_, _, _, h⟩ := h; exact ⟨_, _, _, ((h.far (p := ⟨p', 0, none⟩) hp a).far (p := ⟨p', 1, none⟩) hp b).far (p := ⟨p', 2, none⟩) hp c⟩
theorem havev {p q : Prop} (h : p) (k : p → q) : q := k h
theorem any_open {W : World} {p : Nat} (h : AnyBox W p) : ∃ z0 z1 z2, W.cell? ⟨p, 0, none⟩ = some z0 ∧ W.cell? ⟨p, 1, none⟩ = some z1 ∧ W.cell? ⟨p, 2, none⟩ = some z2 ∧ W.frozen? ⟨p, 0, none⟩ = false ∧ W.frozen? ⟨p, 1, none⟩ = false ∧ W.frozen? ⟨p, 2, none⟩ = false ∧ ¬ p = W.heap.size ∧ ¬ W.heap.size = p ∧ ¬ p = W.heap.size + 1 ∧ ¬ W.heap.size + 1 = p ∧ p < W.heap.size := by
  obtain ⟨z0, z1, z2, h⟩ := h
  have := h.lt
  exact ⟨z0, z1, z2, h.cell 0, h.cell 1, h.cell 2, h.frozen 0, h.frozen 1, h.frozen 2, by omega, by omega, by omega, by omega, this⟩
theorem box_new {W : World} {p : Nat} {a b c : Value} (h : p = W.heap.size) : Lies (W.alloc (.cells #[a, b, c] 37)) p 37 [a, b, c] := by subst h; exact Lies.new W 37 [a, b, c]
theorem box_far {W : World} {p p' : Nat} {a b c : Value} {cs : List Value} (h : Lies W p 37 cs) (hp : p ≠ p') : Lies (((W.setCell ⟨p', 0, none⟩ a).setCell ⟨p', 1, none⟩ b).setCell ⟨p', 2, none⟩ c) p 37 cs := ((h.far (p := ⟨p', 0, none⟩) hp a).far (p := ⟨p', 1, none⟩) hp b).far (p := ⟨p', 2, none⟩) hp c
theorem box_set {W : World} {p : Nat} {a b c : Value} (h : AnyBox W p) : Lies (((W.setCell ⟨p, 0, none⟩ a).setCell ⟨p, 1, none⟩ b).setCell ⟨p, 2, none⟩ c) p 37 [a, b, c] := by
  obtain ⟨z0, z1, z2, h⟩ := h
  exact ((h.set 0 a).set 1 b).set 2 c
/-- From q on, ahead of N, all is as it was. -/
def OffK (q N : Nat) (W V : World) : Prop := ∀ k, q ≤ k → k < N → V.heap[k]? = W.heap[k]?
theorem off_refl (q N : Nat) (W : World) : OffK q N W W := fun _ _ _ => rfl
theorem off_alloc {q N : Nat} {W V : World} {o : Obj} (h : OffK q N W V) (hN : N ≤ V.heap.size) : OffK q N W (V.alloc o) := fun k h1 h2 => (Below.heap_alloc V o k (by omega)).trans (h k h1 h2)
theorem off_kept {q N : Nat} {W V V' : World} (h : OffK q N W V) (hb : Below V.heap.size V V') (hN : N ≤ V.heap.size) : OffK q N W V' := fun k h1 h2 => (hb.block k (by omega)).trans (h k h1 h2)
theorem off_set {q N p i : Nat} {W V : World} {a : Value} (h : OffK q N W V) (hp : p < q ∨ N ≤ p) : OffK q N W (V.setCell ⟨p, i, none⟩ a) := fun k h1 h2 => (Below.heap_setCell V ⟨p, i, none⟩ a k (by show k ≠ p; omega)).trans (h k h1 h2)
theorem rg_off {W V : World} {base q : Nat} {l : List Reg} (h : Rg W base q l) (ho : OffK q W.heap.size W V) : Rg V base q l :=
  ⟨h.own.of_block (ho q (Nat.le_refl _) h.own.lt), fun x hx => (h.rows x hx).off fun b h1 h2 => ho b (by have := h.lo; omega) h2, h.apart, h.lo⟩
def Two (w4 : World) (f : Nat → Bool) (L : List (Nat × Ob)) (W1 W2 K1 K2 : Nat) (v10 v11 : Value) (wx : World) : Prop :=
  ∃ pa pb q1 q2 l1 b1 T1 T2, v10 = .pointer (some ⟨pa, 0, none⟩) ∧ v11 = .pointer (some ⟨pb, 0, none⟩) ∧ Lies wx pa 37 [.int .i64 (W1 : Int), .slice (some ⟨q1, 0, none⟩) K1 K1, .int .i64 (T1 : Nat)] ∧ Lies wx pb 37 [.int .i64 (W2 : Int), .slice (some ⟨q2, 0, none⟩) K2 K2, .int .i64 (T2 : Nat)] ∧ Rg wx b1 q1 l1 ∧ regsAll l1 f W1 K1 K1 L ∧ T1 = firstR f W1 L K1 ∧ T2 = firstR f W2 L K2 ∧ Below w4.heap.size w4 wx
theorem leaf1 {w4 W5 W6 : World} {f : Nat → Bool} {L : List (Nat × Ob)} {W1 W2 K1 K2 q1 q2 b1 T1 T2 : Nat} {l1 : List Reg} (h1 : Rg W5 b1 q1 l1 ∧ regsAll l1 f W1 K1 K1 L ∧ T1 = firstR f W1 L K1) (h2 : T2 = firstR f W2 L K2) (hO : OffK q1 W5.heap.size W5 W6 ∧ W5.heap.size ≤ W6.heap.size) (hb : Below w4.heap.size w4 ((W6.alloc (.cells #[.int .i64 (W1 : Int), .slice (some ⟨q1, 0, none⟩) K1 K1, .int .i64 (T1 : Nat)] 37)).alloc (.cells #[.int .i64 (W2 : Int), .slice (some ⟨q2, 0, none⟩) K2 K2, .int .i64 (T2 : Nat)] 37))) : Two w4 f L W1 W2 K1 K2 (.pointer (some ⟨W6.heap.size, 0, none⟩)) (.pointer (some ⟨W6.heap.size + 1, 0, none⟩)) ((W6.alloc (.cells #[.int .i64 (W1 : Int), .slice (some ⟨q1, 0, none⟩) K1 K1, .int .i64 (T1 : Nat)] 37)).alloc (.cells #[.int .i64 (W2 : Int), .slice (some ⟨q2, 0, none⟩) K2 K2, .int .i64 (T2 : Nat)] 37)) :=
  ⟨_, _, q1, q2, l1, b1, T1, T2, rfl, rfl, (box_new rfl).alloc _, box_new (World.size_alloc _ _).symm, rg_off h1.1 (off_alloc (off_alloc hO.1 hO.2) (by rw [World.size_alloc]; omega)), h1.2.1, h1.2.2, h2, hb⟩
theorem leaf2 {w4 W5 W6 : World} {f : Nat → Bool} {L : List (Nat × Ob)} {W1 W2 K1 K2 q1 q2 b1 T1 T2 : Nat} {l1 : List Reg} (h1 : Rg W5 b1 q1 l1 ∧ regsAll l1 f W1 K1 K1 L ∧ T1 = firstR f W1 L K1) (h2 : T2 = firstR f W2 L K2) (hO : OffK q1 W5.heap.size W5 W6 ∧ W5.heap.size ≤ W6.heap.size) (hb : Below w4.heap.size w4 ((W6.alloc (.cells #[.int .i64 (W2 : Int), .slice (some ⟨q2, 0, none⟩) K2 K2, .int .i64 (T2 : Nat)] 37)).alloc (.cells #[.int .i64 (W1 : Int), .slice (some ⟨q1, 0, none⟩) K1 K1, .int .i64 (T1 : Nat)] 37))) : Two w4 f L W1 W2 K1 K2 (.pointer (some ⟨W6.heap.size + 1, 0, none⟩)) (.pointer (some ⟨W6.heap.size, 0, none⟩)) ((W6.alloc (.cells #[.int .i64 (W2 : Int), .slice (some ⟨q2, 0, none⟩) K2 K2, .int .i64 (T2 : Nat)] 37)).alloc (.cells #[.int .i64 (W1 : Int), .slice (some ⟨q1, 0, none⟩) K1 K1, .int .i64 (T1 : Nat)] 37)) :=
  ⟨_, _, q1, q2, l1, b1, T1, T2, rfl, rfl, box_new (World.size_alloc _ _).symm, (box_new rfl).alloc _, rg_off h1.1 (off_alloc (off_alloc hO.1 hO.2) (by rw [World.size_alloc]; omega)), h1.2.1, h1.2.2, h2, hb⟩
theorem leaf3 {w4 W5 W6 : World} {f : Nat → Bool} {L : List (Nat × Ob)} {W1 W2 K1 K2 q1 q2 b1 T1 T2 : Nat} {l1 : List Reg} {p : Nat} (h1 : Rg W5 b1 q1 l1 ∧ regsAll l1 f W1 K1 K1 L ∧ T1 = firstR f W1 L K1) (h2 : T2 = firstR f W2 L K2) (hO : OffK q1 W5.heap.size W5 W6 ∧ W5.heap.size ≤ W6.heap.size) (hx : AnyBox W6 p ∧ (p < q1 ∨ W5.heap.size ≤ p)) (hb : Below w4.heap.size w4 ((((W6.setCell ⟨p, 0, none⟩ (.int .i64 (W1 : Int))).setCell ⟨p, 1, none⟩ (.slice (some ⟨q1, 0, none⟩) K1 K1)).setCell ⟨p, 2, none⟩ (.int .i64 (T1 : Nat))).alloc (.cells #[.int .i64 (W2 : Int), .slice (some ⟨q2, 0, none⟩) K2 K2, .int .i64 (T2 : Nat)] 37))) : Two w4 f L W1 W2 K1 K2 (.pointer (some ⟨p, 0, none⟩)) (.pointer (some ⟨W6.heap.size, 0, none⟩)) ((((W6.setCell ⟨p, 0, none⟩ (.int .i64 (W1 : Int))).setCell ⟨p, 1, none⟩ (.slice (some ⟨q1, 0, none⟩) K1 K1)).setCell ⟨p, 2, none⟩ (.int .i64 (T1 : Nat))).alloc (.cells #[.int .i64 (W2 : Int), .slice (some ⟨q2, 0, none⟩) K2 K2, .int .i64 (T2 : Nat)] 37)) :=
  ⟨_, _, q1, q2, l1, b1, T1, T2, rfl, rfl, (box_set hx.1).alloc _, box_new (by simp), rg_off h1.1 (off_alloc (off_set (off_set (off_set hO.1 hx.2) hx.2) hx.2) (by simpa using hO.2)), h1.2.1, h1.2.2, h2, hb⟩
theorem leaf4 {w4 W5 W6 : World} {f : Nat → Bool} {L : List (Nat × Ob)} {W1 W2 K1 K2 q1 q2 b1 T1 T2 : Nat} {l1 : List Reg} {p : Nat} (h1 : Rg W5 b1 q1 l1 ∧ regsAll l1 f W1 K1 K1 L ∧ T1 = firstR f W1 L K1) (h2 : T2 = firstR f W2 L K2) (hO : OffK q1 W5.heap.size W5 W6 ∧ W5.heap.size ≤ W6.heap.size) (hx : AnyBox W6 p ∧ (p < q1 ∨ W5.heap.size ≤ p)) (hb : Below w4.heap.size w4 ((((W6.setCell ⟨p, 0, none⟩ (.int .i64 (W2 : Int))).setCell ⟨p, 1, none⟩ (.slice (some ⟨q2, 0, none⟩) K2 K2)).setCell ⟨p, 2, none⟩ (.int .i64 (T2 : Nat))).alloc (.cells #[.int .i64 (W1 : Int), .slice (some ⟨q1, 0, none⟩) K1 K1, .int .i64 (T1 : Nat)] 37))) : Two w4 f L W1 W2 K1 K2 (.pointer (some ⟨W6.heap.size, 0, none⟩)) (.pointer (some ⟨p, 0, none⟩)) ((((W6.setCell ⟨p, 0, none⟩ (.int .i64 (W2 : Int))).setCell ⟨p, 1, none⟩ (.slice (some ⟨q2, 0, none⟩) K2 K2)).setCell ⟨p, 2, none⟩ (.int .i64 (T2 : Nat))).alloc (.cells #[.int .i64 (W1 : Int), .slice (some ⟨q1, 0, none⟩) K1 K1, .int .i64 (T1 : Nat)] 37)) :=
  ⟨_, _, q1, q2, l1, b1, T1, T2, rfl, rfl, box_new (by simp), (box_set hx.1).alloc _, rg_off h1.1 (off_alloc (off_set (off_set (off_set hO.1 hx.2) hx.2) hx.2) (by simpa using hO.2)), h1.2.1, h1.2.2, h2, hb⟩
theorem leaf5 {w4 W5 W6 : World} {f : Nat → Bool} {L : List (Nat × Ob)} {W1 W2 K1 K2 q1 q2 b1 T1 T2 : Nat} {l1 : List Reg} {p p' : Nat} (h1 : Rg W5 b1 q1 l1 ∧ regsAll l1 f W1 K1 K1 L ∧ T1 = firstR f W1 L K1) (h2 : T2 = firstR f W2 L K2) (hO : OffK q1 W5.heap.size W5 W6 ∧ W5.heap.size ≤ W6.heap.size) (hx : AnyBox W6 p ∧ (p < q1 ∨ W5.heap.size ≤ p)) (hy : AnyBox W6 p' ∧ (p' < q1 ∨ W5.heap.size ≤ p')) (hne : ¬ p = p') (hb : Below w4.heap.size w4 ((((((W6.setCell ⟨p, 0, none⟩ (.int .i64 (W1 : Int))).setCell ⟨p, 1, none⟩ (.slice (some ⟨q1, 0, none⟩) K1 K1)).setCell ⟨p, 2, none⟩ (.int .i64 (T1 : Nat))).setCell ⟨p', 0, none⟩ (.int .i64 (W2 : Int))).setCell ⟨p', 1, none⟩ (.slice (some ⟨q2, 0, none⟩) K2 K2)).setCell ⟨p', 2, none⟩ (.int .i64 (T2 : Nat)))) : Two w4 f L W1 W2 K1 K2 (.pointer (some ⟨p, 0, none⟩)) (.pointer (some ⟨p', 0, none⟩)) ((((((W6.setCell ⟨p, 0, none⟩ (.int .i64 (W1 : Int))).setCell ⟨p, 1, none⟩ (.slice (some ⟨q1, 0, none⟩) K1 K1)).setCell ⟨p, 2, none⟩ (.int .i64 (T1 : Nat))).setCell ⟨p', 0, none⟩ (.int .i64 (W2 : Int))).setCell ⟨p', 1, none⟩ (.slice (some ⟨q2, 0, none⟩) K2 K2)).setCell ⟨p', 2, none⟩ (.int .i64 (T2 : Nat))) :=
  ⟨_, _, q1, q2, l1, b1, T1, T2, rfl, rfl, box_far (box_set hx.1) hne, box_set (any_far hy.1 (Ne.symm hne)), rg_off h1.1 (off_set (off_set (off_set (off_set (off_set (off_set hO.1 hx.2) hx.2) hx.2) hy.2) hy.2) hy.2), h1.2.1, h1.2.2, h2, hb⟩
theorem off_k0 {q : Nat} {W5 W6 : World} (hk : Below W5.heap.size W5 W6) : OffK q W5.heap.size W5 W6 ∧ W5.heap.size ≤ W6.heap.size := ⟨off_kept (off_refl _ _ _) hk (Nat.le_refl _), hk.size⟩
theorem off_k1 {q : Nat} {W5 W6 : World} {o : Obj} (hk : Below (W5.alloc o).heap.size (W5.alloc o) W6) : OffK q W5.heap.size W5 W6 ∧ W5.heap.size ≤ W6.heap.size :=
  ⟨off_kept (off_alloc (off_refl _ _ _) (Nat.le_refl _)) hk (by simp), by have := hk.size; simp at this; omega⟩
theorem off_k2 {q : Nat} {W5 W6 : World} {o o' : Obj} (hk : Below ((W5.alloc o).alloc o').heap.size ((W5.alloc o).alloc o') W6) : OffK q W5.heap.size W5 W6 ∧ W5.heap.size ≤ W6.heap.size :=
  ⟨off_kept (off_alloc (off_alloc (off_refl _ _ _) (Nat.le_refl _)) (by simp)) hk (by simp; omega), by have := hk.size; simp at this; omega⟩
theorem qlt1 {w : World} {o : Obj} {q : Nat} (h : (w.alloc o).drew.heap.size ≤ q) : w.heap.size < q := by simp at h; omega
theorem qlt2 {w : World} {o o' : Obj} {q : Nat} (h : ((w.alloc o).alloc o').drew.heap.size ≤ q) : w.heap.size < q ∧ w.heap.size + 1 < q := by simp at h; omega

theorem hold2 {wr W w' : World} {b : Nat} {x0 x1 : Value} (hk : Below W.heap.size W w') (h : Below wr.heap.size wr W ∧ W.cell? ⟨b, 0, none⟩ = some x0 ∧ W.cell? ⟨b, 1, none⟩ = some x1) :
    Below wr.heap.size wr w' ∧ w'.cell? ⟨b, 0, none⟩ = some x0 ∧ w'.cell? ⟨b, 1, none⟩ = some x1 :=
  ⟨on h.1 h.1.size hk, (hk.cell (block_lt_of_cell h.2.1)).trans h.2.1, (hk.cell (block_lt_of_cell h.2.2)).trans h.2.2⟩
theorem hold2a {wr W : World} {b : Nat} {x0 x1 : Value} {o : Obj} (h : Below wr.heap.size wr W ∧ W.cell? ⟨b, 0, none⟩ = some x0 ∧ W.cell? ⟨b, 1, none⟩ = some x1) :
    Below wr.heap.size wr (W.alloc o) ∧ (W.alloc o).cell? ⟨b, 0, none⟩ = some x0 ∧ (W.alloc o).cell? ⟨b, 1, none⟩ = some x1 := hold2 (below_one W o) h
theorem hold2d {wr W : World} {b : Nat} {x0 x1 : Value} (h : Below wr.heap.size wr W ∧ W.cell? ⟨b, 0, none⟩ = some x0 ∧ W.cell? ⟨b, 1, none⟩ = some x1) :
    Below wr.heap.size wr W.drew ∧ W.drew.cell? ⟨b, 0, none⟩ = some x0 ∧ W.drew.cell? ⟨b, 1, none⟩ = some x1 := ⟨h.1.drew, h.2⟩
theorem hold2s {wr W : World} {b p i : Nat} {x0 x1 u : Value} (h : Below wr.heap.size wr W ∧ W.cell? ⟨b, 0, none⟩ = some x0 ∧ W.cell? ⟨b, 1, none⟩ = some x1) (hb : b < wr.heap.size) (hp : wr.heap.size ≤ p) :
    Below wr.heap.size wr (W.setCell ⟨p, i, none⟩ u) ∧ (W.setCell ⟨p, i, none⟩ u).cell? ⟨b, 0, none⟩ = some x0 ∧ (W.setCell ⟨p, i, none⟩ u).cell? ⟨b, 1, none⟩ = some x1 := by
  have hs : Below wr.heap.size W (W.setCell ⟨p, i, none⟩ u) := (Below.refl _ W).setCell (p := ⟨p, i, none⟩) hp u
  exact ⟨h.1.trans hs, (hs.cell hb).trans h.2.1, (hs.cell hb).trans h.2.2⟩
theorem hold3 {wr W w' : World} {b : Nat} {x0 x1 x2 : Value} (hk : Below W.heap.size W w') (h : Below wr.heap.size wr W ∧ W.cell? ⟨b, 0, none⟩ = some x0 ∧ W.cell? ⟨b, 1, none⟩ = some x1 ∧ W.cell? ⟨b, 2, none⟩ = some x2) :
    Below wr.heap.size wr w' ∧ w'.cell? ⟨b, 0, none⟩ = some x0 ∧ w'.cell? ⟨b, 1, none⟩ = some x1 ∧ w'.cell? ⟨b, 2, none⟩ = some x2 :=
  ⟨on h.1 h.1.size hk, (hk.cell (block_lt_of_cell h.2.1)).trans h.2.1, (hk.cell (block_lt_of_cell h.2.2.1)).trans h.2.2.1, (hk.cell (block_lt_of_cell h.2.2.2)).trans h.2.2.2⟩
theorem hold4 {wr W w' : World} {b c : Nat} {x0 x1 x2 y0 : Value} (hk : Below W.heap.size W w') (h : Below wr.heap.size wr W ∧ W.cell? ⟨b, 0, none⟩ = some x0 ∧ W.cell? ⟨b, 1, none⟩ = some x1 ∧ W.cell? ⟨b, 2, none⟩ = some x2 ∧ W.cell? ⟨c, 0, none⟩ = some y0) :
    Below wr.heap.size wr w' ∧ w'.cell? ⟨b, 0, none⟩ = some x0 ∧ w'.cell? ⟨b, 1, none⟩ = some x1 ∧ w'.cell? ⟨b, 2, none⟩ = some x2 ∧ w'.cell? ⟨c, 0, none⟩ = some y0 :=
  ⟨on h.1 h.1.size hk, (hk.cell (block_lt_of_cell h.2.1)).trans h.2.1, (hk.cell (block_lt_of_cell h.2.2.1)).trans h.2.2.1, (hk.cell (block_lt_of_cell h.2.2.2.1)).trans h.2.2.2.1, (hk.cell (block_lt_of_cell h.2.2.2.2)).trans h.2.2.2.2⟩

end Go.Proofs.Ythjbechbioeglaa
