/- What the reference's Split answers where it refuses. The reference's Place and Split, whatever they are handed. The walk of HeapSplits. HeapSplits, whatever it is handed. -/
import Derived.Test.YtklhdilbmpndkaaGreatRPl2
import Derived.Test.YtklhdilbmpndkaaGreatGl
namespace Go.Proofs.YtklhdilbmpndkaaGreat
set_option maxRecDepth 20000
open Go.RowKit
set_option linter.unusedVariables false
set_option linter.unusedSimpArgs false

/-- What the reference's Split leaves. -/
def SplitPost (w : World) (base Z : Nat) (A : Option Addr) (xs : List Value) (obs : List Ob) (r : Int × Int × List Ob) (e : Ending) (w' : World) : Prop :=
  (∃ A' n' c' xs', e = .returned (.tuple #[.agg #[.int .i64 (Z : Int), .slice A' n' c'], .int .i64 r.1, .int .i64 r.2.1]) ∧ r.2.2.length = n' ∧ Owned w' base A' n' c' r.2.2 xs' ∧ ∀ N0, N0 < w.heap.size → Off N0 A xs → Off N0 A' xs') ∧ Below w.heap.size w w'

theorem post_same {w w' : World} {base Z n c : Nat} {A : Option Addr} {obs : List Ob} {xs : List Value} (OWN : Owned w base A n c obs xs) (hn : obs.length = n) (x : Int) (hb : Below w.heap.size w w') :
    SplitPost w base Z A xs obs (0, x, obs) (.returned (.tuple #[.agg #[.int .i64 (Z : Int), .slice A n c], .int .i64 0, .int .i64 x])) w' :=
  ⟨⟨A, n, c, xs, rfl, hn, OWN.kept hb, fun _ _ h => h⟩, hb⟩

end Go.Proofs.YtklhdilbmpndkaaGreat

namespace Go.Proofs.YtklhdilbmpndkaaGreat
set_option maxRecDepth 20000
open Go.RowKit
set_option linter.unusedVariables false
set_option linter.unusedSimpArgs false

theorem rplace_any {w : World} {base : Nat} {xs : List Value} (Z : Nat) (A : Option Addr) (n c : Nat) (obs : List Ob) (tail : List Int) (hf : Fine obs) (OWN : Owned w base A n c obs xs) (hbase : base ≤ w.heap.size) (hn : obs.length = n) (hZ : (flat obs ++ tail).length = Z) (hZ6 : Z ≤ 65536) (k l p : Int) :
    Calls Tryz.prog 41 #[.agg #[.int .i64 (Z : Int), .slice A n c], .agg #[.int .i64 k, .int .i64 l, .int .i64 p]] w (SplitPost w base Z A xs obs ((placeF obs tail k l p).1, (placeF obs tail k l p).2.1, (placeF obs tail k l p).2.2.1)) := by
  unfold placeF
  have hZ2 : (flat obs).length + tail.length = Z := by rw [← hZ]; simp
  cases hg : goodB k l p with
  | false =>
    simp only [if_true]
    exact (rplace_bad (Z : Int) A n c k l p hg).mono fun e w' ⟨he, hb⟩ => by rw [he]; exact post_same OWN hn 1 hb
  | true =>
    simp only [Bool.true_eq_false, if_false]
    obtain ⟨l, rfl⟩ := Int.eq_ofNat_of_zero_le ((good_iff k l p).1 hg).2.2.1
    rw [Int.toNat_natCast]
    by_cases h : tail.length < 1 + l
    · simp only [if_pos h]
      exact (rplace_full Z A n c (flat obs).length l k p obs hf OWN.things hn rfl (by omega) hZ6 hg (by omega)).mono fun e w' ⟨he, hb⟩ => by rw [he]; exact post_same OWN hn 6 hb
    · simp only [if_neg h]
      refine (rplace_yes Z A n c (flat obs).length l k p obs hf OWN hbase hn rfl (by omega) hZ6 hg (by omega)).mono ?_
      rintro e w' ⟨⟨A', c', xs', he, ho⟩, hb⟩
      exact ⟨⟨A', n + 1, c', xs', he, by simp [hn], ho⟩, hb⟩

end Go.Proofs.YtklhdilbmpndkaaGreat

namespace Go.Proofs.YtklhdilbmpndkaaGreat
set_option maxRecDepth 20000
open Go.RowKit
set_option linter.unusedVariables false
set_option linter.unusedSimpArgs false

theorem owns_else3 {w w' : World} {base n sz g gw gb : Nat} {t : TypeId} {v : Value} {xs : List Value} (h : w.ownsRow base t sz v n xs) (he : Else g gw gb w w') (h1 : g < base) (h2 : gw < base) (h3 : gb < base) : w'.ownsRow base t sz v n xs := by
  refine ⟨h.1, h.2.imp id ?_⟩
  rintro ⟨b, cap, cur, k1, k2, k3, k4⟩
  exact ⟨b, cap, cur, k1, k2, (he.block b (Array.getElem?_eq_some_iff.1 k3).1 (by omega) (by omega) (by omega)).trans k3, k4⟩
theorem Owned.else3 {w w' : World} {base n c g gw gb : Nat} {A : Option Addr} {obs : List Ob} {xs : List Value} (h : Owned w base A n c obs xs) (he : Else g gw gb w w') (h1 : g < base) (h2 : gw < base) (h3 : gb < base) : Owned w' base A n c obs xs :=
  ⟨owns_else3 h.own he h1 h2 h3, h.cells.of fun _ _ _ _ ho => owns_else3 ho he h1 h2 h3⟩
theorem place_total (obs : List Ob) (tail : List Int) (k l p : Int) : (flat (placeF obs tail k l p).2.2.1 ++ (placeF obs tail k l p).2.2.2).length = (flat obs ++ tail).length := by
  unfold placeF
  by_cases hg : goodB k l p = false
  · rw [if_pos hg]
  · rw [if_neg hg]
    by_cases h : tail.length < 1 + l.toNat
    · rw [if_pos h]
    · rw [if_neg h]
      simp [flat_append, flat_cons, flat_nil, zeros]
      omega

/-- Between two steps: the program's heap, and the reference's, of the same objects. -/
structure Twin (w W : World) (g gw gb bm base Z : Nat) (obs : List Ob) (tail : List Int) (A : Option Addr) (n c : Nat) (xs : List Value) : Prop where
  st : St W g gw gb obs tail
  clean : Clean obs
  len : (flat obs ++ tail).length = Z
  box : Lies W bm 34 [.int .i64 (Z : Int), .slice A n c]
  own : Owned W base A n c obs xs
  count : obs.length = n
  old : Below w.heap.size w W
  room : base ≤ W.heap.size
theorem Twin.kept {w W W' : World} {g gw gb bm base Z n c : Nat} {obs : List Ob} {tail : List Int} {A : Option Addr} {xs : List Value} (h : Twin w W g gw gb bm base Z obs tail A n c xs) (hb : Below W.heap.size W W') : Twin w W' g gw gb bm base Z obs tail A n c xs :=
  ⟨h.st.kept hb, h.clean, h.len, h.box.below hb h.box.lt, h.own.kept hb, h.count, on h.old h.old.size hb, Nat.le_trans h.room hb.size⟩
/-- The box gets another heap. -/
theorem lies_put2 {W : World} {bm : Nat} {a b u v : Value} (h : Lies W bm 34 [a, b]) : Lies ((W.setCell ⟨bm, 0, none⟩ u).setCell ⟨bm, 1, none⟩ v) bm 34 [u, v] := (h.set 0 u).set 1 v
theorem Owned.put2 {W : World} {bm base n c : Nat} {a b : Value} {A : Option Addr} {obs : List Ob} {xs : List Value} (h : Owned W base A n c obs xs) (hl : Lies W bm 34 [a, b]) (u v : Value) : Owned ((W.setCell ⟨bm, 0, none⟩ u).setCell ⟨bm, 1, none⟩ v) base A n c obs xs :=
  Owned.far (Owned.far h hl (by decide) (by decide) 0 u) (hl.set 0 u) (by decide) (by decide) 1 v
theorem St.put2 {W : World} {g gw gb bm : Nat} {obs : List Ob} {tail : List Int} (h : St W g gw gb obs tail) (h1 : g ≠ bm) (h2 : gw ≠ bm) (h3 : gb ≠ bm) (u v : Value) : St ((W.setCell ⟨bm, 0, none⟩ u).setCell ⟨bm, 1, none⟩ v) g gw gb obs tail :=
  ⟨h.fine, (h.lies.own.far (p := ⟨bm, 0, none⟩) h1 u).far (p := ⟨bm, 1, none⟩) h1 v, (h.lies.words.far (p := ⟨bm, 0, none⟩) h2 u).far (p := ⟨bm, 1, none⟩) h2 v, (h.lies.begins.far (p := ⟨bm, 0, none⟩) h3 u).far (p := ⟨bm, 1, none⟩) h3 v, h.lies.same, h.lies.some_, h.lies.most, h.lies.fits⟩

theorem Twin.put {w W : World} {g gw gb bm base Z n c : Nat} {obs : List Ob} {tail : List Int} {A : Option Addr} {xs : List Value} {a b : Value} (st : St W g gw gb obs tail) (clean : Clean obs) (len : (flat obs ++ tail).length = Z) (box : Lies W bm 34 [a, b]) (own : Owned W base A n c obs xs) (count : obs.length = n) (old : Below w.heap.size w W) (room : base ≤ W.heap.size) (h1 : g ≠ bm) (h2 : gw ≠ bm) (h3 : gb ≠ bm) (hbm : w.heap.size ≤ bm) :
    Twin w ((W.setCell ⟨bm, 0, none⟩ (.int .i64 (Z : Int))).setCell ⟨bm, 1, none⟩ (.slice A n c)) g gw gb bm base Z obs tail A n c xs :=
  ⟨st.put2 h1 h2 h3 _ _, clean, len, lies_put2 box, own.put2 box _ _, count, (old.setCell (p := ⟨bm, 0, none⟩) hbm _).setCell (p := ⟨bm, 1, none⟩) hbm _, by simpa using room⟩
theorem Twin.places {w W w3 w4 : World} {g gw gb bm base Z n c n3 c3 : Nat} {obs obs2 : List Ob} {tail tail2 : List Int} {A A3 : Option Addr} {xs xs3 : List Value} (T : Twin w W g gw gb bm base Z obs tail A n c xs) (hb3 : Below W.heap.size W w3) (O3 : Owned w3 base A3 n3 c3 obs2 xs3) (hn3 : obs2.length = n3)
    (S4 : St w4 g gw gb obs2 tail2) (E4 : Else g gw gb ((w3.setCell ⟨bm, 0, none⟩ (.int .i64 (Z : Int))).setCell ⟨bm, 1, none⟩ (.slice A3 n3 c3)) w4) (C2 : Clean obs2) (hlen : (flat obs2 ++ tail2).length = Z) (g1 : g < base) (g2 : gw < base) (g3 : gb < base) (hbm : base ≤ bm) (w1 : w.heap.size ≤ g) (w2 : w.heap.size ≤ gw) (w3' : w.heap.size ≤ gb) :
    Twin w w4 g gw gb bm base Z obs2 tail2 A3 n3 c3 xs3 := by
  have T3 := T.kept hb3
  have L := lies_put2 (u := .int .i64 (Z : Int)) (v := .slice A3 n3 c3) T3.box
  have O := O3.put2 T3.box (.int .i64 (Z : Int)) (.slice A3 n3 c3)
  have B := (T3.old.setCell (p := ⟨bm, 0, none⟩) (show w.heap.size ≤ bm by omega) (.int .i64 (Z : Int))).setCell (p := ⟨bm, 1, none⟩) (show w.heap.size ≤ bm by omega) (.slice A3 n3 c3)
  refine ⟨S4, C2, hlen, E4.lies L (by omega) (by omega) (by omega), O.else3 E4 g1 g2 g3, hn3, B.trans (E4.below B.size w1 w2 w3'), Nat.le_trans (by simpa using T3.room) E4.size⟩
theorem Twin.st2 {w W w3 : World} {g gw gb bm base Z n c n3 c3 : Nat} {obs : List Ob} {tail : List Int} {A A3 : Option Addr} {xs : List Value} (T : Twin w W g gw gb bm base Z obs tail A n c xs) (hb3 : Below W.heap.size W w3) (g1 : g < base) (g2 : gw < base) (g3 : gb < base) (hbm : base ≤ bm) : St ((w3.setCell ⟨bm, 0, none⟩ (.int .i64 (Z : Int))).setCell ⟨bm, 1, none⟩ (.slice A3 n3 c3)) g gw gb obs tail :=
  (T.kept hb3).st.put2 (by omega) (by omega) (by omega) _ _

end Go.Proofs.YtklhdilbmpndkaaGreat

namespace Go.Proofs.YtklhdilbmpndkaaGreat
set_option maxRecDepth 20000
open Go.RowKit
set_option linter.unusedVariables false
set_option linter.unusedSimpArgs false

end Go.Proofs.YtklhdilbmpndkaaGreat
