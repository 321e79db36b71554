/- The walk of HeapWalks. -/
import Derived.Test.YtibfhpbklnpknaaWalk
namespace Go.Proofs.Ytibfhpbklnpknaa
open Go.RowKit
set_option linter.unusedVariables false
set_option linter.unusedSimpArgs false

theorem HeapAt.far {w : World} {g gw gb : Nat} {zs : List Int} {top : Nat} {bs : List Bool} (h : HeapAt w g gw gb zs top bs) {p : Addr} (h1 : g ≠ p.block) (h2 : gw ≠ p.block) (h3 : gb ≠ p.block) (u : Value) : HeapAt (w.setCell p u) g gw gb zs top bs :=
  ⟨h.own.far h1 u, h.words.far h2 u, h.begins.far h3 u, h.same, h.some_, h.most, h.fits⟩
theorem St.far {w : World} {g gw gb : Nat} {obs : List Ob} {tail : List Int} (h : St w g gw gb obs tail) {p : Addr} (h1 : g ≠ p.block) (h2 : gw ≠ p.block) (h3 : gb ≠ p.block) (u : Value) : St (w.setCell p u) g gw gb obs tail := ⟨h.fine, h.lies.far h1 h2 h3 u⟩
theorem St.alloc {w : World} {g gw gb : Nat} {obs : List Ob} {tail : List Int} (h : St w g gw gb obs tail) (o : Obj) : St (w.alloc o) g gw gb obs tail := ⟨h.fine, h.lies.alloc o⟩

theorem second_end {w w2 : World} {bn bo ba n N L : Nat} {q : Int} {o : Obj} (A1 : Lies w2 bn 3 [.int .i64 ((n : Int) + 1)]) (A3 : Lies w2 bo 4 [.bool true]) (A4 : Lies w2 ba 3 [.int .i64 (N : Int)])
    (n1 : bn ≠ bo) (n2 : bn ≠ ba) (n3 : bo ≠ ba) (hb : Else bn bo ba w w2) (hq : 0 ≤ q) (hL : L = N + 1 + q.toNat) :
    Lies (((w2.setCell ⟨bo, 0, none⟩ (.bool true)).setCell ⟨ba, 0, none⟩ (.int .i64 ((N : Int) + (1 + q)))).alloc o) bn 3 [.int .i64 ((n + 1 : Nat) : Int)] ∧
    Lies (((w2.setCell ⟨bo, 0, none⟩ (.bool true)).setCell ⟨ba, 0, none⟩ (.int .i64 ((N : Int) + (1 + q)))).alloc o) bo 4 [.bool true] ∧
    Lies (((w2.setCell ⟨bo, 0, none⟩ (.bool true)).setCell ⟨ba, 0, none⟩ (.int .i64 ((N : Int) + (1 + q)))).alloc o) ba 3 [.int .i64 (L : Nat)] ∧
    Else bn bo ba w (((w2.setCell ⟨bo, 0, none⟩ (.bool true)).setCell ⟨ba, 0, none⟩ (.int .i64 ((N : Int) + (1 + q)))).alloc o) := by
  refine ⟨((A1.far n1 _).far n2 _).alloc o, ((A3.set 0 _).far n3 _).alloc o, ?_, hb.trans ⟨rfl, rfl, rfl, by simp [World.setCell], fun k hk h1 h2 h3 => ?_⟩⟩
  · have e : ((L : Nat) : Int) = (N : Int) + (1 + q) := by omega
    rw [e]
    exact ((A4.far n3.symm _).set 0 _).alloc o
  · rw [Below.heap_alloc _ _ _ (by simp [World.setCell]; omega), Below.heap_setCell _ _ _ _ h3, Below.heap_setCell _ _ _ _ h2]

end Go.Proofs.Ytibfhpbklnpknaa
