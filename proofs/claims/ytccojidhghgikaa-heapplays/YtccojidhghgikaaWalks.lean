/- The walk of HeapWalks. -/
import Derived.Test.YtccojidhghgikaaWalk
namespace Go.Proofs.Ytccojidhghgikaa
open Go.RowKit
set_option linter.unusedVariables false
set_option linter.unusedSimpArgs false

theorem enter36 (args : Array Value) (W : World) : (callFunc 36 args).run Try.prog W = .ok (.enter 36 args) W := by
  simp [callFunc, go_sem, Try.func36]
  kernel_rfl

/-- The counter of all. -/
theorem count_any (b n : Nat) (a k l p : Int) (w : World) (h : Lies w b 3 [.int .i64 (n : Int)]) (hn : n ≤ 65536) :
    Calls Try.prog 35 #[.int .i64 a, .agg #[.int .i64 k, .int .i64 l, .int .i64 p], .pointer (some ⟨b, 0, none⟩)] w fun e w' =>
      e = .returned (.bool true) ∧ w' = (w.setCell ⟨b, 0, none⟩ (.int .i64 ((n : Int) + 1))).alloc (.cells #[.int .i64 k, .int .i64 l, .int .i64 p] 23) := by
  have hc : w.cell? ⟨b, 0, none⟩ = some (.int .i64 n) := h.cell 0
  have hf : w.frozen? ⟨b, 0, none⟩ = false := h.frozen 0
  have hl := h.lt
  go_enter Try.func35, Try.ntmps35
  go_wp2
  go_ret
  exact ⟨rfl, rfl⟩

theorem HeapAt.far {w : World} {g gw gb : Nat} {zs : List Int} {top : Nat} {bs : List Bool} (h : HeapAt w g gw gb zs top bs) {p : Addr} (h1 : g ≠ p.block) (h2 : gw ≠ p.block) (h3 : gb ≠ p.block) (u : Value) : HeapAt (w.setCell p u) g gw gb zs top bs :=
  ⟨h.own.far h1 u, h.words.far h2 u, h.begins.far h3 u, h.same, h.some_, h.most, h.fits⟩
theorem St.far {w : World} {g gw gb : Nat} {obs : List Ob} {tail : List Int} (h : St w g gw gb obs tail) {p : Addr} (h1 : g ≠ p.block) (h2 : gw ≠ p.block) (h3 : gb ≠ p.block) (u : Value) : St (w.setCell p u) g gw gb obs tail := ⟨h.fine, h.lies.far h1 h2 h3 u⟩
theorem St.alloc {w : World} {g gw gb : Nat} {obs : List Ob} {tail : List Int} (h : St w g gw gb obs tail) (o : Obj) : St (w.alloc o) g gw gb obs tail := ⟨h.fine, h.lies.alloc o⟩

theorem second_end {w w2 : World} {bn bo ba n N L : Nat} {q : Int} {o : Obj} (A1 : Lies w2 bn 3 [.int .i64 ((n : Int) + 1)]) (A3 : Lies w2 bo 4 [.bool true]) (A4 : Lies w2 ba 3 [.int .i64 (N : Int)])
    (n1 : bn ≠ bo) (n2 : bn ≠ ba) (n3 : bo ≠ ba) (hb : Else bn bo ba w w2) (hq : 0 ≤ q) (hL : L = N + 1 + q.toNat) :
    Lies (((w2.setCell ⟨bo, 0, none⟩ (.bool true)).setCell ⟨ba, 0, none⟩ (.int .i64 ((N : Int) + (1 + q)))).alloc o) bn 3 [.int .i64 ((n + 1 : Nat) : Int)] ∧
    Lies (((w2.setCell ⟨bo, 0, none⟩ (.bool true)).setCell ⟨ba, 0, none⟩ (.int .i64 ((N : Int) + (1 + q)))).alloc o) bo 4 [.bool true] ∧
    Lies (((w2.setCell ⟨bo, 0, none⟩ (.bool true)).setCell ⟨ba, 0, none⟩ (.int .i64 ((N : Int) + (1 + q)))).alloc o) ba 3 [.int .i64 (L : Nat)] ∧
    Else bn bo ba w (((w2.setCell ⟨bo, 0, none⟩ (.bool true)).setCell ⟨ba, 0, none⟩ (.int .i64 ((N : Int) + (1 + q)))).alloc o) := by
  refine ⟨((A1.far n1 _).far n2 _).alloc o, ((A3.set 0 _).far n3 _).alloc o, ?_, hb.trans ⟨rfl, rfl, rfl, by simp [World.setCell], fun k hk h1 h2 h3 => ?_⟩⟩
  · have e : ((L : Nat) : Int) = (N : Int) + (1 + q) := by omega
    rw [e]
    exact ((A4.far n3.symm _).set 0 _).alloc o
  · rw [Below.heap_alloc _ _ _ (by simp [World.setCell]; omega), Below.heap_setCell _ _ _ _ h3, Below.heap_setCell _ _ _ _ h2]

set_option maxHeartbeats 1000000 in
theorem second_any {w : World} {g gw gb bn bh bo ba bm : Nat} {pre : List Ob} {o : Ob} {post : List Ob} (S : St w g gw gb (pre ++ o :: post) []) (n m N : Nat) (hN : (flat pre).length = N)
    (h1 : Lies w bn 3 [.int .i64 (n : Int)]) (h2 : Lies w bh 36 [.pointer (some ⟨g, 0, none⟩)]) (h3 : Lies w bo 4 [.bool true]) (h4 : Lies w ba 3 [.int .i64 (N : Int)]) (h5 : Lies w bm 5 [.int .u8 (m : Int)]) (hne : bn ≠ ba) (k1 : bn ≠ gw) (k2 : ba ≠ gw) (k3 : bo ≠ gb) (hn : n ≤ 65536) (hm : m ≤ 255) :
    Calls Try.prog 36 #[.int .i64 (N : Int), .agg #[.int .i64 (o.1 % 16), .int .i64 (o.1 / 65536), .int .i64 (o.1 % 65536 / 16)], .pointer (some ⟨bn, 0, none⟩), .pointer (some ⟨bh, 0, none⟩), .pointer (some ⟨bo, 0, none⟩), .pointer (some ⟨ba, 0, none⟩), .pointer (some ⟨bm, 0, none⟩)] w fun e w' =>
      e = .returned (.bool (decide (n + 1 < m))) ∧ Lies w' bn 3 [.int .i64 ((n + 1 : Nat) : Int)] ∧ Lies w' bo 4 [.bool true] ∧ Lies w' ba 3 [.int .i64 ((flat (pre ++ [o])).length : Nat)] ∧ Else bn bo ba w w' := by
  have c1 : w.cell? ⟨bn, 0, none⟩ = some (.int .i64 n) := h1.cell 0
  have f1 : w.frozen? ⟨bn, 0, none⟩ = false := h1.frozen 0
  have c2 : w.cell? ⟨bh, 0, none⟩ = some (.pointer (some ⟨g, 0, none⟩)) := h2.cell 0
  have l1 := h1.lt
  have l2 := h2.lt
  have l3 := h3.lt
  have l4 := h4.lt
  have l5 := h5.lt
  have hhd := S.fine.right.head
  have hz0 : 0 ≤ o.1 / 65536 := by have := head_nn hhd.1; omega
  have hz1 : o.1 / 65536 ≤ 4095 := by have := len_le hhd.1; unfold lenOf at this; omega
  have el : (flat (pre ++ [o])).length = N + 1 + (o.1 / 65536).toNat := by
    have := hhd.2; unfold lenOf at this
    rw [flat_append, flat_cons, flat_nil]; simp [hN]; omega
  have HEl := Lib.hid el
  have HN := Lib.hid hN
  clear el hN
  have n13 : bh ≠ bn := h2.apart h1 (by decide)
  have n14 : bo ≠ bn := h3.apart h1 (by decide)
  have n15 : bm ≠ bn := h5.apart h1 (by decide)
  have n16 : bo ≠ ba := h3.apart h4 (by decide)
  have n17 : bm ≠ bo := h5.apart h3 (by decide)
  have n18 : bm ≠ ba := h5.apart h4 (by decide)
  have S1 : St ((w.setCell ⟨bn, 0, none⟩ (.int .i64 ((n : Int) + 1))).alloc (.cells #[.int .i64 (o.1 % 16), .int .i64 (o.1 / 65536), .int .i64 (o.1 % 65536 / 16)] 23)) g gw gb (pre ++ o :: post) [] :=
    (S.far (p := ⟨bn, 0, none⟩) (S.lies.own.apart h1 (by decide)) k1.symm (S.lies.begins.apart h1 (by decide)) _).alloc _
  have A1 := (h1.set 0 (.int .i64 ((n : Int) + 1))).alloc (.cells #[.int .i64 (o.1 % 16), .int .i64 (o.1 / 65536), .int .i64 (o.1 % 65536 / 16)] 23)
  have A3 := (h3.far (p := ⟨bn, 0, none⟩) n14 (.int .i64 ((n : Int) + 1))).alloc (.cells #[.int .i64 (o.1 % 16), .int .i64 (o.1 / 65536), .int .i64 (o.1 % 65536 / 16)] 23)
  have A4 := (h4.far (p := ⟨bn, 0, none⟩) hne.symm (.int .i64 ((n : Int) + 1))).alloc (.cells #[.int .i64 (o.1 % 16), .int .i64 (o.1 / 65536), .int .i64 (o.1 % 65536 / 16)] 23)
  have A5 := (h5.far (p := ⟨bn, 0, none⟩) n15 (.int .i64 ((n : Int) + 1))).alloc (.cells #[.int .i64 (o.1 % 16), .int .i64 (o.1 / 65536), .int .i64 (o.1 % 65536 / 16)] 23)
  have A6 := Lies.new (w.setCell ⟨bn, 0, none⟩ (.int .i64 ((n : Int) + 1))) 23 [.int .i64 (o.1 % 16), .int .i64 (o.1 / 65536), .int .i64 (o.1 % 65536 / 16)]
  have hsz : (w.setCell ⟨bn, 0, none⟩ (.int .i64 ((n : Int) + 1))).heap.size = w.heap.size := by simp [World.setCell]
  rw [hsz] at A6
  have hblk : Else bn bo ba w ((w.setCell ⟨bn, 0, none⟩ (.int .i64 ((n : Int) + 1))).alloc (.cells #[.int .i64 (o.1 % 16), .int .i64 (o.1 / 65536), .int .i64 (o.1 % 65536 / 16)] 23)) :=
    ⟨rfl, rfl, rfl, by simp [World.setCell], fun k hk hb _ _ => (Below.heap_alloc _ _ k (by rw [hsz]; exact hk)).trans (Below.heap_setCell _ _ _ _ hb)⟩
  have HBk := Lib.hid hblk
  have hsz' : ((w.setCell ⟨bn, 0, none⟩ (.int .i64 ((n : Int) + 1))).alloc (.cells #[.int .i64 (o.1 % 16), .int .i64 (o.1 / 65536), .int .i64 (o.1 % 65536 / 16)] 23)).heap.size = w.heap.size + 1 := by rw [World.size_alloc, hsz]
  have HSz := Lib.hid hsz'
  clear hblk hsz'
  go_enter Try.func36, Try.ntmps36
  go_wp2_with fail
  refine (head_st S1 N HN.out).mono ?_
  rintro e w2 ⟨rfl, hb2⟩
  have D1 := A1.below hb2 A1.lt
  have D3 := A3.below hb2 A3.lt
  have D4 := A4.below hb2 A4.lt
  have D5 := A5.below hb2 A5.lt
  have D6 := A6.below hb2 A6.lt
  have z2 : w.heap.size + 1 ≤ w2.heap.size := by have := hb2.size; rw [HSz.out] at this; exact this
  have hblk2 : Else bn bo ba w w2 := HBk.out.trans (Else.of_below hb2)
  have HB2 := Lib.hid hblk2
  clear hblk2 c1 f1 c2 hb2 hsz S1
  have c1 : w2.cell? ⟨bn, 0, none⟩ = some (.int .i64 ((n : Int) + 1)) := D1.cell 0
  have c3 : w2.cell? ⟨bo, 0, none⟩ = some (.bool true) := D3.cell 0
  have f3 : w2.frozen? ⟨bo, 0, none⟩ = false := D3.frozen 0
  have c4 : w2.cell? ⟨ba, 0, none⟩ = some (.int .i64 N) := D4.cell 0
  have f4 : w2.frozen? ⟨ba, 0, none⟩ = false := D4.frozen 0
  have c5 : w2.cell? ⟨bm, 0, none⟩ = some (.int .u8 m) := D5.cell 0
  have x0 : w2.cell? ⟨w.heap.size, 0, none⟩ = some (.int .i64 (o.1 % 16)) := D6.cell 0
  have x1 : w2.cell? ⟨w.heap.size, 1, none⟩ = some (.int .i64 (o.1 / 65536)) := D6.cell 1
  have x2 : w2.cell? ⟨w.heap.size, 2, none⟩ = some (.int .i64 (o.1 % 65536 / 16)) := D6.cell 2
  have m1 := D1.lt
  have m3 := D3.lt
  have m4 := D4.lt
  have m5 := D5.lt
  have m6 := D6.lt
  have hN6 : N ≤ 65536 := by rw [← HN.out]; have := S.lies.most; simp [flat_append] at this; omega
  have n19 : w.heap.size ≠ bo := by omega
  have n20 : w.heap.size ≠ ba := by omega
  generalize hq0 : o.1 / 65536 = q at *
  generalize o.1 % 65536 / 16 = r at *
  generalize o.1 % 16 = s at *
  have HQ := Lib.hid hq0
  clear hq0 HBk HSz
  by_cases hlt : n + 1 < m
  · have d1 : decide ((n : Int) + 1 < (m : Int)) = true := by simp; omega
    have HD := Lib.hid (decide_eq_true hlt)
    go_wp2
    go_ret
    exact ⟨ret_bool HD.out.symm, second_end (w := w) (w2 := w2) D1 D3 D4 n14.symm hne n16 HB2.out hz0 HEl.out⟩
  · have d1 : decide ((n : Int) + 1 < (m : Int)) = false := by simp; omega
    have HD := Lib.hid (decide_eq_false hlt)
    go_wp2
    go_ret
    exact ⟨ret_bool HD.out.symm, second_end (w := w) (w2 := w2) D1 D3 D4 n14.symm hne n16 HB2.out hz0 HEl.out⟩
end Go.Proofs.Ytccojidhghgikaa
