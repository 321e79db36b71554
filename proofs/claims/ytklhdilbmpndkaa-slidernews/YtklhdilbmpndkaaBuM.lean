/- What Build keeps between its steps. -/
import Derived.Test.YtklhdilbmpndkaaHa
namespace Go.Proofs.Ytklhdilbmpndkaa
set_option maxRecDepth 20000
open Go.RowKit
set_option linter.unusedVariables false
set_option linter.unusedSimpArgs false

/-- The program's heap, of some objects, and the reference's, of the same or of those ahead of a step; the nodes' addresses. -/
structure Bu (w W : World) (g gw gb bm base Z : Nat) (obs : List Ob) (tail : List Int) (obr : List Ob) (A : Option Addr) (n c : Nat) (xs : List Value) (B : Option Addr) (cap : Nat) (ats : List Int) : Prop where
  st : St W g gw gb obs tail
  clean : Clean obs
  len : (flat obs ++ tail).length = Z
  box : Lies W bm 33 [.int .i64 (Z : Int), .slice A n c]
  own : Owned W base A n c obr xs
  count : obr.length = n
  old : Below w.heap.size w W
  room : base ≤ W.heap.size
  row : Rv W base B cap ats
  off : ∀ N0, blk B = some N0 → Off N0 A xs
  lo : w.heap.size ≤ g ∧ w.heap.size ≤ gw ∧ w.heap.size ≤ gb
  hi : g < base ∧ gw < base ∧ gb < base
  bm_ : base ≤ bm

section
variable {w W W' : World} {g gw gb bm base Z n c cap : Nat} {obs obr : List Ob} {tail : List Int} {A B : Option Addr} {xs : List Value} {ats : List Int}
theorem Bu.kept (h : Bu w W g gw gb bm base Z obs tail obr A n c xs B cap ats) (hb : Below W.heap.size W W') : Bu w W' g gw gb bm base Z obs tail obr A n c xs B cap ats :=
  ⟨h.st.kept hb, h.clean, h.len, h.box.below hb h.box.lt, h.own.kept hb, h.count, on h.old h.old.size hb, Nat.le_trans h.room hb.size, h.row.below hb, h.off, h.lo, h.hi, h.bm_⟩
theorem Bu.alloc (h : Bu w W g gw gb bm base Z obs tail obr A n c xs B cap ats) (o : Obj) : Bu w (W.alloc o) g gw gb bm base Z obs tail obr A n c xs B cap ats := h.kept (below_one W o)
theorem Bu.drew (h : Bu w W g gw gb bm base Z obs tail obr A n c xs B cap ats) : Bu w W.drew g gw gb bm base Z obs tail obr A n c xs B cap ats := h.kept ((Below.refl _ W).drew)
/-- Behind a call on the program's heap. -/
theorem Bu.heap (h : Bu w W g gw gb bm base Z obs tail obr A n c xs B cap ats) {obs2 : List Ob} {tail2 : List Int} (S : St W' g gw gb obs2 tail2) (E : Else g gw gb W W') (C : Clean obs2) (hl : (flat obs2 ++ tail2).length = Z) :
    Bu w W' g gw gb bm base Z obs2 tail2 obr A n c xs B cap ats := by
  obtain ⟨h1, h2, h3⟩ := h.hi
  obtain ⟨l1, l2, l3⟩ := h.lo
  have hb := h.bm_
  exact ⟨S, C, hl, E.lies h.box (by omega) (by omega) (by omega), h.own.else3 E h1 h2 h3, h.count, h.old.trans (E.below h.old.size l1 l2 l3), Nat.le_trans h.room E.size, h.row.off fun b hb hlt => E.block b hlt (by omega) (by omega) (by omega), h.off, h.lo, h.hi, h.bm_⟩
/-- Behind a call of the reference's, whose answer goes into the box. -/
theorem Bu.ref (h : Bu w W g gw gb bm base Z obs tail obr A n c xs B cap ats) {w2 : World} {A' : Option Addr} {n' c' : Nat} {obr' : List Ob} {xs' : List Value} (hb : Below W.heap.size W w2) (O : Owned w2 base A' n' c' obr' xs') (hn : obr'.length = n')
    (ho : ∀ N0, N0 < W.heap.size → Off N0 A xs → Off N0 A' xs') : Bu w ((w2.setCell ⟨bm, 0, none⟩ (.int .i64 (Z : Int))).setCell ⟨bm, 1, none⟩ (.slice A' n' c')) g gw gb bm base Z obs tail obr' A' n' c' xs' B cap ats := by
  have K := h.kept hb
  obtain ⟨h1, h2, h3⟩ := h.hi
  obtain ⟨l1, l2, l3⟩ := h.lo
  have hbm := h.bm_
  have hw : w.heap.size ≤ bm := by omega
  have q0 := K.box.set 0 (.int .i64 (Z : Int))
  refine ⟨K.st.put2 (by omega) (by omega) (by omega) _ _, h.clean, h.len, lies_put2 K.box, O.put2 K.box _ _, hn, (K.old.setCell (p := ⟨bm, 0, none⟩) hw _).setCell (p := ⟨bm, 1, none⟩) hw _, by simpa using K.room, ?_, fun N0 e => ?_, h.lo, h.hi, h.bm_⟩
  · refine (K.row.kept fun b cs hb hl => ?_)
    have hne : b ≠ bm := hl.apart K.box (by decide)
    exact (hl.far (p := ⟨bm, 0, none⟩) hne _).far (p := ⟨bm, 1, none⟩) hne _
  · exact ho N0 (h.row.blk_lt e).2 (h.off N0 e)
/-- One address more. -/
theorem Bu.more (h : Bu w W g gw gb bm base Z obs tail obr A n c xs B cap ats) {B' : Option Addr} {cap' : Nat} {y : Int} (R : Rv W' base B' cap' (ats ++ [y])) (G : W.grownBy W' (blk B)) (M : blk B' = blk B ∨ blk B' = some W.heap.size) (hA : ∀ ad, A = some ad → ad.block < W.heap.size) (hx : ∀ ad k j, Value.slice (some ad) k j ∈ xs → ad.block < W.heap.size) :
    Bu w W' g gw gb bm base Z obs tail obr A n c xs B' cap' (ats ++ [y]) := by
  obtain ⟨h1, h2, h3⟩ := h.hi
  obtain ⟨l1, l2, l3⟩ := h.lo
  have hbm := h.bm_
  have lg := h.st.lies.own.lt
  have lw := h.st.lies.words.lt
  have lb := h.st.lies.begins.lt
  have nb : ∀ k, k < base → some k ≠ blk B := fun k hk e => by have := (h.row.blk_lt e.symm).1; omega
  have hbox : some bm ≠ blk B := fun e => by
    obtain ⟨cs, hl, _⟩ := h.row.lies e.symm
    exact hl.apart h.box (by decide) rfl
  have own' : Owned W' base A n c obr xs := by
    cases e : blk B with
    | none => exact h.own.kept ⟨G.os, G.tape, G.output, G.size, fun k hk => G.block k hk (by rw [e]; exact fun h => by cases h)⟩
    | some N0 => exact h.own.off (h.off N0 e) fun b hb hlt => G.block b hlt (by rw [e]; exact fun h => hb (by injection h))
  refine ⟨⟨h.st.fine, h.st.lies.own.of_block (G.block g lg (nb g h1)), h.st.lies.words.of_block (G.block gw lw (nb gw h2)), h.st.lies.begins.of_block (G.block gb lb (nb gb h3)), h.st.lies.same, h.st.lies.some_, h.st.lies.most, h.st.lies.fits⟩, h.clean, h.len, h.box.of_block (G.block bm h.box.lt hbox), own', h.count, h.old.grown G h.old.size (fun k e => by have := (h.row.blk_lt e).1; omega), Nat.le_trans h.room G.size, R, fun N0 e => ?_, h.lo, h.hi, h.bm_⟩
  rcases M with e2 | e2
  · exact h.off N0 (e2.symm.trans e)
  · rw [e2] at e
    injection e with e
    subst e
    exact ⟨fun ad ea => Nat.ne_of_lt (hA ad ea), fun ad k j hm => Nat.ne_of_lt (hx ad k j hm)⟩
end

theorem CellsO.lt {w : World} {base : Nat} : ∀ {a : Nat} {obs : List Ob} {xs : List Value}, CellsO w base a obs xs → ∀ ad k j, Value.slice (some ad) k j ∈ xs → ad.block < w.heap.size
  | _, [], xs, h, ad, k, j, hm => by have : xs = [] := h; subst this; simp at hm
  | a, o :: l, xs, h, ad, k, j, hm => by
    obtain ⟨b, c, ys, e, h1, h2⟩ := h
    rw [e] at hm
    rcases List.mem_append.1 hm with hm | hm
    · simp [thing] at hm
      obtain ⟨rfl, _⟩ := hm
      obtain ⟨cs, hl⟩ := owns_block h1
      exact hl.lt
    · exact h2.lt ad k j hm
theorem Owned.lt {w : World} {base n c : Nat} {A : Option Addr} {obs : List Ob} {xs : List Value} (h : Owned w base A n c obs xs) : (∀ ad, A = some ad → ad.block < w.heap.size) ∧ ∀ ad k j, Value.slice (some ad) k j ∈ xs → ad.block < w.heap.size := by
  refine ⟨fun ad e => ?_, h.cells.lt⟩
  subst e
  rcases h.own.2 with ⟨e, _⟩ | ⟨g, cap, cur, e, _, h3, _⟩
  · cases e
  · injection e with e
    injection e with e
    subst e
    exact (Array.getElem?_eq_some_iff.1 h3).1
/-- One more, with the row's append. -/
theorem Bu.append {w W W' : World} {g gw gb bm base Z n c cap : Nat} {obs obr : List Ob} {tail : List Int} {A B : Option Addr} {xs : List Value} {ats : List Int} (h : Bu w W g gw gb bm base Z obs tail obr A n c xs B cap ats) {B' : Option Addr} {cap' : Nat} {y : Int} (R : Rv W' base B' cap' (ats ++ [y])) (G : W.grownBy W' (blk B)) (M : blk B' = blk B ∨ blk B' = some W.heap.size) :
    Bu w W' g gw gb bm base Z obs tail obr A n c xs B' cap' (ats ++ [y]) := h.more R G M h.own.lt.1 h.own.lt.2
end Go.Proofs.Ytklhdilbmpndkaa
