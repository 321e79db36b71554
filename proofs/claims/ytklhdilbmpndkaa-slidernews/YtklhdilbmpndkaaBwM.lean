/- What Build keeps while it writes. -/
import Derived.Test.YtklhdilbmpndkaaBuM
namespace Go.Proofs.Ytklhdilbmpndkaa
set_option maxRecDepth 20000
open Go.RowKit
set_option linter.unusedVariables false
set_option linter.unusedSimpArgs false

/-- As Bu, without a word on whose blocks are whose. -/
structure Bw (w W : World) (g gw gb bm base Z : Nat) (obs : List Ob) (tail : List Int) (obr : List Ob) (A : Option Addr) (n c : Nat) (xs : List Value) (B : Option Addr) (cap : Nat) (ats : List Int) : Prop where
  st : St W g gw gb obs tail
  clean : Clean obs
  len : (flat obs ++ tail).length = Z
  box : Lies W bm 33 [.int .i64 (Z : Int), .slice A n c]
  own : Owned W base A n c obr xs
  count : obr.length = n
  old : Below w.heap.size w W
  room : base ≤ W.heap.size
  row : Rv W base B cap ats
  lo : w.heap.size ≤ g ∧ w.heap.size ≤ gw ∧ w.heap.size ≤ gb
  hi : g < base ∧ gw < base ∧ gb < base
  bm_ : base ≤ bm

section
variable {w W W' : World} {g gw gb bm base Z n c cap : Nat} {obs obr : List Ob} {tail : List Int} {A B : Option Addr} {xs : List Value} {ats : List Int}
theorem Bu.bw (h : Bu w W g gw gb bm base Z obs tail obr A n c xs B cap ats) : Bw w W g gw gb bm base Z obs tail obr A n c xs B cap ats :=
  ⟨h.st, h.clean, h.len, h.box, h.own, h.count, h.old, h.room, h.row, h.lo, h.hi, h.bm_⟩
theorem Bw.kept (h : Bw w W g gw gb bm base Z obs tail obr A n c xs B cap ats) (hb : Below W.heap.size W W') : Bw w W' g gw gb bm base Z obs tail obr A n c xs B cap ats :=
  ⟨h.st.kept hb, h.clean, h.len, h.box.below hb h.box.lt, h.own.kept hb, h.count, on h.old h.old.size hb, Nat.le_trans h.room hb.size, h.row.below hb, h.lo, h.hi, h.bm_⟩
theorem Bw.alloc (h : Bw w W g gw gb bm base Z obs tail obr A n c xs B cap ats) (o : Obj) : Bw w (W.alloc o) g gw gb bm base Z obs tail obr A n c xs B cap ats := h.kept (below_one W o)
theorem Bw.drew (h : Bw w W g gw gb bm base Z obs tail obr A n c xs B cap ats) : Bw w W.drew g gw gb bm base Z obs tail obr A n c xs B cap ats := h.kept ((Below.refl _ W).drew)
theorem Bw.heap (h : Bw w W g gw gb bm base Z obs tail obr A n c xs B cap ats) {obs2 : List Ob} {tail2 : List Int} (S : St W' g gw gb obs2 tail2) (E : Else g gw gb W W') (C : Clean obs2) (hl : (flat obs2 ++ tail2).length = Z) :
    Bw w W' g gw gb bm base Z obs2 tail2 obr A n c xs B cap ats := by
  obtain ⟨h1, h2, h3⟩ := h.hi
  obtain ⟨l1, l2, l3⟩ := h.lo
  have hb := h.bm_
  exact ⟨S, C, hl, E.lies h.box (by omega) (by omega) (by omega), h.own.else3 E h1 h2 h3, h.count, h.old.trans (E.below h.old.size l1 l2 l3), Nat.le_trans h.room E.size, h.row.off fun b hb hlt => E.block b hlt (by omega) (by omega) (by omega), h.lo, h.hi, h.bm_⟩
theorem Bw.ref (h : Bw w W g gw gb bm base Z obs tail obr A n c xs B cap ats) {w2 : World} {A' : Option Addr} {n' c' : Nat} {obr' : List Ob} {xs' : List Value} (hb : Below W.heap.size W w2) (O : Owned w2 base A' n' c' obr' xs') (hn : obr'.length = n') :
    Bw w ((w2.setCell ⟨bm, 0, none⟩ (.int .i64 (Z : Int))).setCell ⟨bm, 1, none⟩ (.slice A' n' c')) g gw gb bm base Z obs tail obr' A' n' c' xs' B cap ats := by
  have K := h.kept hb
  obtain ⟨h1, h2, h3⟩ := h.hi
  obtain ⟨l1, l2, l3⟩ := h.lo
  have hbm := h.bm_
  have hw : w.heap.size ≤ bm := by omega
  refine ⟨K.st.put2 (by omega) (by omega) (by omega) _ _, h.clean, h.len, lies_put2 K.box, O.put2 K.box _ _, hn, (K.old.setCell (p := ⟨bm, 0, none⟩) hw _).setCell (p := ⟨bm, 1, none⟩) hw _, by simpa using K.room, ?_, h.lo, h.hi, h.bm_⟩
  refine (K.row.kept fun b cs hb hl => ?_)
  have hne : b ≠ bm := hl.apart K.box (by decide)
  exact (hl.far (p := ⟨bm, 0, none⟩) hne _).far (p := ⟨bm, 1, none⟩) hne _
end

/-- Between two writes: the heads are those, and the nodes' addresses lead to objects. -/
def Wr (w W : World) (g gw gb bm base Z : Nat) (tail : List Int) (B : Option Addr) (cap : Nat) (ats : List Int) (hd : List Int) : Prop :=
  ∃ (obs : List Ob) (A : Option Addr) (n c : Nat) (xs : List Value), Bw w W g gw gb bm base Z obs tail obs A n c xs B cap ats ∧ obs.map Prod.fst = hd ∧ ∀ a ∈ ats, Live obs a ∧ 0 ≤ a ∧ a ≤ 65536
theorem Wr.kept {w W W' : World} {g gw gb bm base Z cap : Nat} {tail ats hd : List Int} {B : Option Addr} (h : Wr w W g gw gb bm base Z tail B cap ats hd) (hb : Below W.heap.size W W') : Wr w W' g gw gb bm base Z tail B cap ats hd := by
  obtain ⟨obs, A, n, c, xs, T, h1, h2⟩ := h
  exact ⟨obs, A, n, c, xs, T.kept hb, h1, h2⟩
theorem rw_any {w W : World} {g gw gb bm base Z n c cap : Nat} {obs : List Ob} {tail : List Int} {A B : Option Addr} {xs : List Value} {ats : List Int} {obr : List Ob} (h : Bw w W g gw gb bm base Z obs tail obr A n c xs B cap ats) (hf : Fine obr) (hZ : (flat obr).length ≤ 65536) (a f v : Int) (hv : InR v) :
    Calls Try.prog 31 #[.agg #[.int .i64 (Z : Int), .slice A n c], .int .i64 a, .int .i64 f, .int .i64 v] W (WritePost W base Z (writeF obr a f v)) :=
  rwrite_any Z A n c obr hf h.own h.room h.count hZ a f v hv
theorem Bw.wrote {w W3 w4 : World} {g gw gb bm base Z n c cap n' c' : Nat} {obs : List Ob} {tail : List Int} {A B A' : Option Addr} {xs xs' : List Value} {ats hd : List Int} {a f v : Int} (T : Bw w W3 g gw gb bm base Z (writeF obs a f v).2 tail obs A n c xs B cap ats) (hb : Below W3.heap.size W3 w4)
    (O : Owned w4 base A' n' c' (writeF obs a f v).2 xs') (hn : (writeF obs a f v).2.length = n') (hh : obs.map Prod.fst = hd) (hl : ∀ a ∈ ats, Live obs a ∧ 0 ≤ a ∧ a ≤ 65536) :
    Wr w ((w4.setCell ⟨bm, 0, none⟩ (.int .i64 (Z : Int))).setCell ⟨bm, 1, none⟩ (.slice A' n' c')) g gw gb bm base Z tail B cap ats hd :=
  ⟨_, _, _, _, _, T.ref hb O hn, by rw [write_heads, hh], fun b hb => ⟨write_live (hl b hb).1, (hl b hb).2⟩⟩
end Go.Proofs.Ytklhdilbmpndkaa
