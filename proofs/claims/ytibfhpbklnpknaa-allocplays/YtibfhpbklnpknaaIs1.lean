/- What the closure of Is answers, as long as all is as it should be. -/
import Derived.Test.YtibfhpbklnpknaaRWords
import Derived.Test.YtibfhpbklnpknaaRCheck
import Derived.Test.YtibfhpbklnpknaaWalks2
namespace Go.Proofs.Ytibfhpbklnpknaa
open Go.RowKit
set_option linter.unusedVariables false
set_option linter.unusedSimpArgs false

theorem enter49 (args : Array Value) (W : World) : (callFunc 38 args).run Try.prog W = .ok (.enter 38 args) W := by
  simp [callFunc, go_sem, Try.func38]
  kernel_rfl

set_option maxRecDepth 100000 in
set_option maxHeartbeats 400000 in
theorem is1_any {w0 w : World} {A : Option Addr} {obs : List Ob} {o : Ob} {bo bi bm : Nat} (s : Int) (I N n c : Nat) (T : Things w0 A obs) (hb : Below w0.heap.size w0 w) (ho : obs[I]? = some o) (hN : atI obs I = N) (hn : obs.length = n) (hn6 : n ≤ 65536)
    (h1 : Lies w bo 4 [.bool true]) (h2 : Lies w bi 3 [.int .i64 (I : Int)]) (h3 : Lies w bm 36 [.int .i64 s, .slice A n c]) (ko : w0.heap.size ≤ bo) (ki : w0.heap.size ≤ bi) :
    Calls Try.prog 38 #[.int .i64 (N : Int), .agg #[.int .i64 (o.1 % 16), .int .i64 (o.1 / 65536), .int .i64 (o.1 % 65536 / 16)], .pointer (some ⟨bo, 0, none⟩), .pointer (some ⟨bi, 0, none⟩), .pointer (some ⟨bm, 0, none⟩)] w fun e w' =>
      e = .returned (.bool true) ∧ Lies w' bo 4 [.bool true] ∧ Lies w' bi 3 [.int .i64 ((I + 1 : Nat) : Int)] ∧ Else bo bi bi w w' := by
  obtain ⟨ad, bd, cc, rfl, c0, c1, c2, c3, c4, -, hadl⟩ := T.at2 ho hb
  rw [hN] at c0
  have hI : I < n := by rw [← hn]; exact (List.getElem?_eq_some_iff.1 ho).1
  clear c4 T ho hN hn
  have n1 : bo ≠ bi := h1.apart h2 (by decide)
  have n2 : bo ≠ bm := h1.apart h3 (by decide)
  have n3 : bi ≠ bm := h2.apart h3 (by decide)
  have l1 := h1.lt
  have l2 := h2.lt
  have l3 := h3.lt
  have l4 : (ad.add (I * 5)).block < w.heap.size := by have := hb.size; omega
  have n4 : (ad.add (I * 5)).block ≠ bo := by omega
  have n5 : (ad.add (I * 5)).block ≠ bi := by omega
  have d1 : w.cell? ⟨bo, 0, none⟩ = some (.bool true) := h1.cell 0
  have d2 : w.cell? ⟨bi, 0, none⟩ = some (.int .i64 I) := h2.cell 0
  have d3 : w.cell? ⟨bm, 1, none⟩ = some (.slice (some ad) n c) := h3.cell 1
  have f1 : w.frozen? ⟨bo, 0, none⟩ = false := h1.frozen 0
  have f2 : w.frozen? ⟨bi, 0, none⟩ = false := h2.frozen 0
  have k0 : (0 : Int) ≤ (I : Int) := by omega
  have k1 : (I : Int) < (n : Int) := by omega
  have k2 : decide ((I : Int) < (n : Int)) = true := by simp; omega
  have hN' : ((N : Int) == (N : Int)) = true := by simp
  clear hb
  generalize o.1 % 65536 / 16 = r at *
  generalize o.1 / 65536 = q at *
  generalize o.1 % 16 = p at *
  obtain ⟨V, hV⟩ : ∃ V, V = (w.setCell ⟨bo, 0, none⟩ (.bool true)).alloc (.cells #[.int .i64 p, .int .i64 q, .int .i64 r] 40) := ⟨_, rfl⟩
  have hsz : (w.setCell ⟨bo, 0, none⟩ (.bool true)).heap.size = w.heap.size := by simp [World.setCell]
  have A1 : Lies V bo 4 [.bool true] := by rw [hV]; exact (h1.set 0 (.bool true)).alloc _
  have A2 : Lies V bi 3 [.int .i64 (I : Int)] := by rw [hV]; exact (h2.far (p := ⟨bo, 0, none⟩) n1.symm _).alloc _
  have A3 : Lies V bm 36 [.int .i64 s, .slice (some ad) n c] := by rw [hV]; exact (h3.far (p := ⟨bo, 0, none⟩) n2.symm _).alloc _
  have A4 : Lies V w.heap.size 40 [.int .i64 p, .int .i64 q, .int .i64 r] := by
    have := Lies.new (w.setCell ⟨bo, 0, none⟩ (.bool true)) 40 [.int .i64 p, .int .i64 q, .int .i64 r]
    rw [hsz] at this
    rw [hV]; exact this
  have hE : Else bo bi bi w V := by
    rw [hV]
    exact ⟨rfl, rfl, rfl, by simp [World.setCell], fun k hk hb _ _ => (Below.heap_alloc _ _ k (by rw [hsz]; exact hk)).trans (Below.heap_setCell _ _ _ _ hb)⟩
  have hcell : ∀ (a : Addr) (u : Value), a.block = (ad.add (I * 5)).block → w.cell? a = some u → V.cell? a = some u := fun a u ha hc =>
    (World.cell?_of_block (hE.block a.block (by rw [ha]; exact l4) (by rw [ha]; exact n4) (by rw [ha]; exact n5) (by rw [ha]; exact n5))).trans hc
  have hS : V.drew.cell? ⟨bo, 0, none⟩ = some (.bool true) ∧ V.drew.cell? ⟨bi, 0, none⟩ = some (.int .i64 I) ∧ V.drew.cell? ⟨bm, 1, none⟩ = some (.slice (some ad) n c) ∧ V.drew.cell? (ad.add (I * 5)) = some (.int .i64 N) ∧ V.drew.cell? ⟨(ad.add (I * 5)).block, (ad.add (I * 5)).off + 1, none⟩ = some (.int .i64 p) ∧ V.drew.cell? ⟨(ad.add (I * 5)).block, (ad.add (I * 5)).off + 2, none⟩ = some (.int .i64 q) ∧ V.drew.cell? ⟨(ad.add (I * 5)).block, (ad.add (I * 5)).off + 3, none⟩ = some (.int .i64 r) ∧ V.drew.cell? ⟨w.heap.size, 0, none⟩ = some (.int .i64 p) ∧ V.drew.cell? ⟨w.heap.size, 1, none⟩ = some (.int .i64 q) ∧ V.drew.cell? ⟨w.heap.size, 2, none⟩ = some (.int .i64 r) :=
    ⟨A1.cell 0, A2.cell 0, A3.cell 1, hcell _ _ rfl c0, hcell ⟨_, _, _⟩ _ rfl c1, hcell ⟨_, _, _⟩ _ rfl c2, hcell ⟨_, _, _⟩ _ rfl c3, A4.cell 0, A4.cell 1, A4.cell 2⟩
  have g1 : V.drew.cell? ⟨bi, 0, none⟩ = some (.int .i64 I) := A2.cell 0
  have g2 : V.drew.frozen? ⟨bi, 0, none⟩ = false := A2.frozen 0
  have g3 : V.drew.cell? ⟨bo, 0, none⟩ = some (.bool true) := A1.cell 0
  rw [hV] at hS g1 g2 g3
  obtain ⟨-, -, -, t4, t5, t6, t7, t8, t9, t10⟩ := hS
  clear hV A1 A2 A3 A4 hE hcell hsz
  go_enter Try.func38, Try.ntmps38
  go_wp2_with fail
  go_region_held3 (fun W => W.cell? ⟨bo, 0, none⟩ = some (.bool true) ∧ W.cell? ⟨bi, 0, none⟩ = some (.int .i64 I) ∧ W.cell? ⟨bm, 1, none⟩ = some (.slice (some ad) n c) ∧ W.cell? (ad.add (I * 5)) = some (.int .i64 N) ∧ W.cell? ⟨(ad.add (I * 5)).block, (ad.add (I * 5)).off + 1, none⟩ = some (.int .i64 p) ∧ W.cell? ⟨(ad.add (I * 5)).block, (ad.add (I * 5)).off + 2, none⟩ = some (.int .i64 q) ∧ W.cell? ⟨(ad.add (I * 5)).block, (ad.add (I * 5)).off + 3, none⟩ = some (.int .i64 r) ∧ W.cell? ⟨w.heap.size, 0, none⟩ = some (.int .i64 p) ∧ W.cell? ⟨w.heap.size, 1, none⟩ = some (.int .i64 q) ∧ W.cell? ⟨w.heap.size, 2, none⟩ = some (.int .i64 r))
    (first | go_keep)
    ((first | fail))
  go_wp2
  go_ret
  have e1 : ((I + 1 : Nat) : Int) = (I : Int) + 1 := by omega
  rw [e1]
  refine ⟨rfl, (((h1.set 0 (.bool true)).far (p := ⟨bi, 0, none⟩) n1 _).alloc _).drew, (((h2.far (p := ⟨bo, 0, none⟩) n1.symm _).set 0 _).alloc _).drew, ⟨rfl, rfl, rfl, ?_, fun k hk h1 h2 _ => ?_⟩⟩
  · simp [World.setCell]
  · exact (Below.heap_alloc _ _ k (by simp [World.setCell]; exact hk)).trans ((Below.heap_setCell _ _ _ _ h2).trans (Below.heap_setCell _ _ _ _ h1))
end Go.Proofs.Ytibfhpbklnpknaa
