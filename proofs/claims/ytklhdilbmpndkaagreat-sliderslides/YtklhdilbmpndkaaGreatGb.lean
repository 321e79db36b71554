/- What find does: it tells whether just objects stand ahead of the top, and notes where they begin. What New and Of do. The walk of HeapTails: it returns true, and turns nothing that was there. What Split, Read and Write do. What Split does where it goes. -/
import Derived.Test.YtklhdilbmpndkaaGreatGa
import Derived.Test.YtklhdilbmpndkaaGreatPlace
namespace Go.Proofs.YtklhdilbmpndkaaGreat
set_option maxRecDepth 20000
open Go.RowKit
set_option linter.unusedVariables false

/-- Where objects begin, as find notes it. -/
def noted (obs : List Ob) (n : Nat) : List Bool := marks obs ++ List.replicate n false

theorem noted_next {pre : List Ob} {a m n : Nat} {o : Ob} (ha : (flat pre).length = a) (hn : o.2.length + 1 ≤ n) :
    (noted pre n).set a true = noted (pre ++ [o]) (n - (1 + o.2.length)) := by
  have hm : (marks pre).length = a := by rw [marks_length, ha]
  unfold noted
  rw [marks_append, marks_cons]
  rw [List.set_append_right _ _ (by omega), hm, Nat.sub_self]
  obtain ⟨q, rfl⟩ : ∃ q, n = q + (1 + o.2.length) := ⟨n - (1 + o.2.length), by omega⟩
  have e : q + (1 + o.2.length) = (o.2.length + q) + 1 := by omega
  rw [Nat.add_sub_cancel, e, List.replicate_succ, List.set_cons_zero, List.append_assoc]
  simp [marks]

theorem HeapAt.mark {w : World} {g gw gb : Nat} {zs : List Int} {top : Nat} {bs : List Bool} (h : HeapAt w g gw gb zs top bs) (a : Nat) : HeapAt (w.setCell ⟨gb, a, none⟩ (.bool true)) g gw gb zs top (bs.set a true) := by
  refine ⟨h.own.far (h.own.apart h.begins (by decide)) _, h.words.far (h.words.apart h.begins (by decide)) _, ?_, by simpa using h.same, h.some_, h.most, h.fits⟩
  have := h.begins.set a (.bool true)
  simpa [List.map_set] using this
theorem marked_else {g gw gb : Nat} (w : World) (a : Nat) (u : Value) : Else g gw gb w (w.setCell ⟨gb, a, none⟩ u) :=
  ⟨rfl, rfl, rfl, by simp [World.setCell], fun j hj h1 h2 h3 => Below.heap_setCell _ _ _ _ h3⟩

end Go.Proofs.YtklhdilbmpndkaaGreat

namespace Go.Proofs.YtklhdilbmpndkaaGreat
set_option maxRecDepth 20000
open Go.RowKit
set_option linter.unusedVariables false

theorem undrawn {w w' : World} (h : Below w.drew.heap.size w.drew w') : Below w.heap.size w w' := ⟨h.os, h.tape, h.output, h.size, h.block⟩
theorem Row.drew {w : World} {A : Option Addr} {zs : List Int} (h : Row w A zs) : Row w.drew A zs := h
theorem Row.alloc {w : World} {A : Option Addr} {zs : List Int} (h : Row w A zs) (o : Obj) : Row (w.alloc o) A zs := h.kept ((Below.refl _ _).alloc (Nat.le_refl _) _)

theorem made {w : World} {q r n top : Nat} {zs : List Int} (hq : Lies w q 3 (zs.map (Value.int .i64))) (hr : Lies w r 4 (noBits zs.length)) (h1 : 1 ≤ zs.length) (h2 : zs.length ≤ 65536) (h3 : top ≤ zs.length) :
    HeapAt (w.alloc (.cells #[.slice (some ⟨q, 0, none⟩) zs.length zs.length, .int .i64 top, .slice (some ⟨r, 0, none⟩) zs.length zs.length] 84)) w.heap.size q r zs top (noted [] zs.length) := by
  refine ⟨Lies.new w 84 [_, _, _], hq.alloc _, ?_, by simp [noted, marks], h1, h2, h3⟩
  have := hr.alloc (.cells #[.slice (some ⟨q, 0, none⟩) zs.length zs.length, .int .i64 top, .slice (some ⟨r, 0, none⟩) zs.length zs.length] 84)
  rw [noBits_eq] at this
  exact this

set_option maxHeartbeats 1000000 in
theorem new_bad (n : Int) (w : World) (hn : ¬ (1 ≤ n ∧ n ≤ 65536)) :
    Calls Tryz.prog 21 #[.int .i64 n] w fun e w' => e = .returned (.tuple #[.pointer none, .int .i64 1]) ∧ Below w.heap.size w w' := by
  have hs : decide (1 ≤ n ∧ n ≤ 65536) = false := decide_eq_false hn
  go_enter Tryz.func21, Tryz.ntmps21
  go_wp2_with fail
  refine (maySize_any _ _).mono ?_
  rintro e w' ⟨rfl, rfl⟩
  rw [hs]
  go_wp2
  go_ret2
  exact ⟨rfl, Below.refl _ _⟩

set_option maxHeartbeats 1000000 in
theorem new_yes (n : Nat) (w : World) (h1 : 1 ≤ n) (h2 : n ≤ 65536) :
    Calls Tryz.prog 21 #[.int .i64 n] w fun e w' => ∃ g gw gb, e = .returned (.tuple #[.pointer (some ⟨g, 0, none⟩), .int .i64 0]) ∧ Below w.heap.size w w' ∧ w.heap.size ≤ g ∧ w.heap.size ≤ gw ∧ w.heap.size ≤ gb ∧
      HeapAt w' g gw gb (List.replicate n 0) 0 (noted [] n) := by
  have hs : decide (1 ≤ (n : Int) ∧ (n : Int) ≤ 65536) = true := by simp; omega
  have hmk := make75 n h2
  have hmk' := make51 n h2
  go_enter Tryz.func21, Tryz.ntmps21
  go_wp2_with fail
  refine (maySize_any _ _).mono ?_
  rintro e w' ⟨rfl, rfl⟩
  rw [hs]
  go_wp2_with fail
  go_region
  all_goals go_wp2
  all_goals go_ret2
  · have hL : Lies ((w.alloc (.cells (noughts n).toArray 3)).alloc (.cells (noBits n).toArray 4)) w.heap.size 3 ((List.replicate n (0 : Int)).map (Value.int .i64)) := by
      have := (Lies.new w 3 (noughts n)).alloc (.cells (noBits n).toArray 4)
      rw [noughts_eq] at this ⊢
      exact this
    have hN : Lies ((w.alloc (.cells (noughts n).toArray 3)).alloc (.cells (noBits n).toArray 4)) (w.heap.size + 1) 4 (noBits (List.replicate n (0 : Int)).length) := by
      have := Lies.new (w.alloc (.cells (noughts n).toArray 3)) 4 (noBits n)
      rw [World.size_alloc] at this
      simpa using this
    have HM := made (top := 0) (n := 0) hL hN (by simpa using h1) (by simpa using h2) (by simp)
    simp only [List.length_replicate, World.size_alloc] at HM
    refine ⟨w.heap.size + 1 + 1, w.heap.size, w.heap.size + 1, rfl, ?_, by omega, by omega, by omega, ⟨HM.own, HM.words, HM.begins, HM.same, HM.some_, HM.most, HM.fits⟩⟩
    exact ((((Below.refl _ w).alloc (Nat.le_refl _) _).alloc (by simp) _).alloc (by simp; omega) _).drew
  · have hL : Lies ((w.alloc (.cells (noBits n).toArray 4)).alloc (.cells (noughts n).toArray 3)) (w.heap.size + 1) 3 ((List.replicate n (0 : Int)).map (Value.int .i64)) := by
      have := Lies.new (w.alloc (.cells (noBits n).toArray 4)) 3 (noughts n)
      rw [World.size_alloc] at this
      rw [noughts_eq] at this ⊢
      exact this
    have hN : Lies ((w.alloc (.cells (noBits n).toArray 4)).alloc (.cells (noughts n).toArray 3)) w.heap.size 4 (noBits (List.replicate n (0 : Int)).length) := by
      have := (Lies.new w 4 (noBits n)).alloc (.cells (noughts n).toArray 3)
      simpa using this
    have HM := made (top := 0) (n := 0) hL hN (by simpa using h1) (by simpa using h2) (by simp)
    simp only [List.length_replicate, World.size_alloc] at HM
    refine ⟨w.heap.size + 1 + 1, w.heap.size + 1, w.heap.size, rfl, ?_, by omega, by omega, by omega, ⟨HM.own, HM.words, HM.begins, HM.same, HM.some_, HM.most, HM.fits⟩⟩
    exact ((((Below.refl _ w).alloc (Nat.le_refl _) _).alloc (by simp) _).alloc (by simp; omega) _).drew
end Go.Proofs.YtklhdilbmpndkaaGreat

namespace Go.Proofs.YtklhdilbmpndkaaGreat
set_option maxRecDepth 20000
open Go.RowKit
set_option linter.unusedVariables false

theorem cleared_at (zs : List Int) (i n j : Nat) (h : i + n ≤ zs.length) : (cleared zs i n).getD j 0 = if i ≤ j ∧ j < i + n then 0 else zs.getD j 0 := by
  unfold cleared
  simp only [List.getD, List.getElem?_append, List.length_take, List.length_replicate, List.getElem?_take, List.getElem?_replicate, List.getElem?_drop]
  have hm : min i zs.length = i := by omega
  rw [hm]
  by_cases h1 : j < i
  · rw [if_pos h1, if_pos h1, if_neg (by omega)]
  · rw [if_neg h1]
    by_cases h2 : j - i < n
    · rw [if_pos h2, if_pos h2, if_pos (by omega)]; rfl
    · rw [if_neg h2, if_neg (by omega)]
      have : i + n + (j - i - n) = j := by omega
      rw [this]
theorem laid_at (zs : List Int) (i l j : Nat) (v : Int) (h : i + (1 + l) ≤ zs.length) : (laid zs i l v).getD j 0 = if j = i then v else if i < j ∧ j ≤ i + l then 0 else zs.getD j 0 := by
  unfold laid
  have hl : (cleared zs i (1 + l)).length = zs.length := cleared_length _ _ _ h
  by_cases h1 : j = i
  · subst h1
    rw [if_pos rfl]
    simp [List.getD, hl, show j < zs.length by omega]
  · have e : ((cleared zs i (1 + l)).set i v).getD j 0 = (cleared zs i (1 + l)).getD j 0 := by
      simp [List.getD, Ne.symm h1]
    rw [if_neg h1, e, cleared_at _ _ _ _ h]
    by_cases h2 : i < j ∧ j ≤ i + l
    · rw [if_pos (by omega), if_pos h2]
    · rw [if_neg (by omega), if_neg h2]

theorem nil_eq (w : World) : (binOp .eql 29 (.pointer none) (.pointer none)).run Tryz.prog w = .ok (.bool true) w := by kernel_rfl

end Go.Proofs.YtklhdilbmpndkaaGreat

namespace Go.Proofs.YtklhdilbmpndkaaGreat
set_option maxRecDepth 20000
open Go.RowKit
set_option linter.unusedVariables false

theorem hasField_b (k l p f : Int) (w : World) (b : Bool) (hb : decide (0 ≤ f ∧ f < l) = b) :
    Calls Tryz.prog 78 #[.agg #[.int .i64 k, .int .i64 l, .int .i64 p], .int .i64 f] w fun e w' => e = .returned (.bool b) ∧ Below w.heap.size w w' :=
  (hasField_any k l p f w).mono fun e w' ⟨he, hw⟩ => ⟨by rw [he, hb], by rw [hw]; exact (Below.refl _ _).alloc (Nat.le_refl _) _⟩

theorem room_i (k l p : Int) (w : World) (h0 : 0 ≤ l) (h1 : l ≤ 4095) :
    Calls Tryz.prog 74 #[.agg #[.int .i64 k, .int .i64 l, .int .i64 p]] w fun e w' => e = .returned (.int .i64 (1 + l)) ∧ Below w.heap.size w w' :=
  (room_any k l p w h0 h1).mono fun e w' ⟨he, hw⟩ => ⟨he, by rw [hw]; exact (Below.refl _ _).alloc (Nat.le_refl _) _⟩

end Go.Proofs.YtklhdilbmpndkaaGreat

namespace Go.Proofs.YtklhdilbmpndkaaGreat
set_option maxRecDepth 20000
open Go.RowKit
set_option linter.unusedVariables false

end Go.Proofs.YtklhdilbmpndkaaGreat
