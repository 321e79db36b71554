/- A worker touches a cell: load, add, store. load, add and store of a worker, whole. turn: what a worker does next. What a worker is about to do, and what turn makes of it. Where objects, regions and noughts lie. -/
import Derived.Test.YtklhdilbmpndkaaGreatGs
import Derived.Lib.QuietBelow
import Derived.StillTail
import Derived.StillTailTactics
namespace Go.Proofs.YtklhdilbmpndkaaGreat
set_option maxRecDepth 20000
open Go.RowKit
set_option linter.unusedVariables false
set_option linter.unusedSimpArgs false


/-- All but the sliding's own block and the cells' are as they were. -/
structure Bt (C : Cx) (w w' : World) : Prop where
  os : w'.os = w.os
  tape : w'.tape = w.tape
  output : w'.output = w.output
  size : w.heap.size ≤ w'.heap.size
  block : ∀ k, k < w.heap.size → k ≠ C.S → k ≠ C.g1 → k ≠ C.gw1 → k ≠ C.g2 → k ≠ C.gw2 → w'.heap[k]? = w.heap[k]?
theorem Bt.trans {C : Cx} {a b c : World} (h : Bt C a b) (k : Bt C b c) : Bt C a c :=
  ⟨k.os.trans h.os, k.tape.trans h.tape, k.output.trans h.output, Nat.le_trans h.size k.size, fun i hi h1 h2 h3 h4 h5 => (k.block i (Nat.lt_of_lt_of_le hi h.size) h1 h2 h3 h4 h5).trans (h.block i hi h1 h2 h3 h4 h5)⟩
theorem Bt.else1 {C : Cx} {w w' : World} (h : Ce.Else C.g1 C.gw1 none w w') : Bt C w w' := ⟨h.os, h.tape, h.output, h.size, fun k hk _ h2 h3 _ _ => h.block k hk h2 h3 (by simp)⟩
theorem Bt.else2 {C : Cx} {w w' : World} (h : Ce.Else C.g2 C.gw2 none w w') : Bt C w w' := ⟨h.os, h.tape, h.output, h.size, fun k hk _ _ _ h4 h5 => h.block k hk h4 h5 (by simp)⟩
theorem Bt.set (C : Cx) (w : World) (i : Nat) (u : Value) : Bt C w (w.setCell ⟨C.S, i, none⟩ u) := ⟨rfl, rfl, rfl, by simp, fun k _ h1 _ _ _ _ => Below.heap_setCell w ⟨C.S, i, none⟩ u k h1⟩
theorem Bt.below {C : Cx} {w w' : World} (h : Below w.heap.size w w') : Bt C w w' := ⟨h.os, h.tape, h.output, h.size, fun k hk _ _ _ _ _ => h.block k hk⟩
theorem Bt.refl (C : Cx) (w : World) : Bt C w w := ⟨rfl, rfl, rfl, Nat.le_refl _, fun _ _ _ _ _ _ _ => rfl⟩
section
variable {w0 : W2} {w w' : World} {C : Cx} {M : Ms}
theorem Sl.turn (h : Sl w0 w C M) (hb : Bt C w w') {zs sg : List Int} {l t m : Int} (own : Lies w' C.S 74 [.pointer (some ⟨C.b, 0, none⟩), .pointer (some ⟨C.g1, 0, none⟩), .pointer (some ⟨C.g2, 0, none⟩), .slice (some ⟨C.sb, 0, none⟩) (C.K + 1) C.bcap, .slice (some ⟨C.wb, 0, none⟩) C.n C.wcap, .int .i64 l, .int .i64 t, .int .i64 m]) (a1 : Ce.At w' w0.heap.size C.g1 C.gw1 zs none 0 []) (a2 : Ce.At w' w0.heap.size C.g2 C.gw2 sg none 0 []) :
    Sl w0 w' C { M with cells := zs, signs := sg, left := l, touches := t, moved := m } := by
  obtain ⟨cs, h1, h2⟩ := h.wrow
  have hs := h.s_ne
  have hc := h.c_ne
  have hh := h.hi
  have hB := h.old.size
  refine ⟨h.fo, h.old.trans ⟨hb.os, hb.tape, hb.output, hb.size, fun k hk => hb.block k (by omega) (by have := h.loS; omega) (by have := h.words.lo; omega) (by have := h.words.lo'; omega) (by have := h.signs.lo; omega) (by have := h.signs.lo'; omega)⟩, own, a1, a2,
    h.bg_block fun k e => hb.block k (by rw [e]; have := h.size; omega) (by rw [e]; exact hs.2.2.2.2.1.symm) (by rw [e]; exact hc.2.2.1.symm) (by rw [e]; exact h.sw.1) (by rw [e]; exact hc.2.2.2.1.symm) (by rw [e]; exact h.sw.2),
    ⟨cs, h1.of_block (hb.block _ h1.lt hs.2.2.2.2.2.symm hc.2.2.2.2.1 hc.2.2.2.2.2.1 hc.2.2.2.2.2.2.1 hc.2.2.2.2.2.2.2.1), h2⟩, fun i hi => ?_, h.inj, fun i hi => ?_, h.gg, h.ww, h.sw, h.loS, h.low, h.hi, Nat.le_trans h.size hb.size, h.n1, h.n2, h.hi1, fun b hB1 hB2 => (hb.block b (Nat.lt_of_lt_of_le hB2 h.size) (by have := h.hi1; omega) (by have := h.hi1; omega) (by have := h.hi1; omega) (by have := h.hi1; omega) (by have := h.hi1; omega)).trans (h.hik b hB1 hB2)⟩
  · obtain ⟨n1, n2, n3, n4, n5, n6, n7⟩ := h.wk_ne hi
    exact (h.wks i hi).of_block (hb.block _ (h.wks i hi).lt n1 n2 n3 n4 n5)
  · exact ⟨(h.rows i hi).1.kept fun b hb2 hl => hb.block b hl (by omega) (by omega) (by omega) (by omega) (by omega), (h.rows i hi).2.kept fun b hb2 hl => hb.block b hl (by omega) (by omega) (by omega) (by omega) (by omega)⟩
theorem ce_block' {w w' : World} {base g gw c : Nat} {zs : List Int} {A : Option Addr} {ts : List Ce.Tc} (h : Ce.At w base g gw zs A c ts) (e : ∀ k, k < w.heap.size → k ≠ C.S → w'.heap[k]? = w.heap[k]?) (h1 : g ≠ C.S) (h2 : gw ≠ C.S) (h3 : ∀ k, blk A = some k → k ≠ C.S) : Ce.At w' base g gw zs A c ts := by
  refine ⟨h.own.of_block (e _ h.own.lt h1), h.words.of_block (e _ h.words.lt h2), Ce.owns_of_block h.log fun k hk => ?_, h.some_, h.most, h.lo, h.lo'⟩
  rw [Ce.own_blk] at hk
  exact e k (h.row_of k hk).2.1 (h3 k hk)
end

set_option maxRecDepth 100000 in
set_option maxHeartbeats 2000000 in
theorem touched1 {w0 : W2} {w w2 : World} {C : Cx} {M : Ms} (h : Sl w0 w C M) (hb : Bt C w w2) {zs : List Int} {A : Option Addr} {c : Nat} {ts : List Ce.Tc} {l : Int} (own : Lies w2 C.S 74 [.pointer (some ⟨C.b, 0, none⟩), .pointer (some ⟨C.g1, 0, none⟩), .pointer (some ⟨C.g2, 0, none⟩), .slice (some ⟨C.sb, 0, none⟩) (C.K + 1) C.bcap, .slice (some ⟨C.wb, 0, none⟩) C.n C.wcap, .int .i64 l, .int .i64 M.touches, .int .i64 M.moved]) (a1 : Ce.At w2 w0.heap.size C.g1 C.gw1 zs A c ts) (hA : ∀ k, blk A = some k → w.heap.size ≤ k) (a2 : Ce.At w2 w0.heap.size C.g2 C.gw2 M.signs none 0 []) (j : Nat) (hj : j < C.n) :
    Calls Tryz.prog 91 #[.pointer (some ⟨C.wk j, 0, none⟩), .pointer (some ⟨C.g1, 0, none⟩)] w2 fun e w' => e = .returned (.tuple #[]) ∧ Sl w0 w' C { M with cells := zs, left := l, touches := IntKind.i64.wrap (M.touches + 1) } ∧ Bt C w w' := by
  obtain ⟨n1, n2, n3, n4, n5, n6, n7⟩ := h.wk_ne hj
  obtain ⟨s1, s2, s3, s4, s5, s6⟩ := h.s_ne
  obtain ⟨k1, k2, k3, k4, k5, k6, k7, k8, k9⟩ := h.c_ne
  have hgg := h.gg
  have hww := h.ww
  have hsl := h.own.lt
  have LW := (h.wks j hj).of_block (hb.block _ (h.wks j hj).lt n1 n2 n3 n4 n5)
  have c0 : w2.cell? ⟨C.wk j, 0, none⟩ = some (.pointer (some ⟨C.S, 0, none⟩)) := LW.cell 0
  have c1 : w2.cell? ⟨C.S, 6, none⟩ = some (.int .i64 M.touches) := own.cell 6
  have c2 := own.frozen 6
  have c3 := own.lt
  obtain ⟨tt, htt⟩ : ∃ tt, IntKind.i64.wrap (M.touches + 1) = tt := ⟨_, rfl⟩
  have own3 := own.set 6 (.int .i64 tt)
  have e3 : ∀ k, k < w2.heap.size → k ≠ C.S → (w2.setCell ⟨C.S, 6, none⟩ (.int .i64 tt)).heap[k]? = w2.heap[k]? := fun k _ hk => Below.heap_setCell w2 ⟨C.S, 6, none⟩ _ k hk
  have A1 := ce_block' a1 e3 (by omega) (by omega) (fun k hk => by have := hA k hk; omega)
  have A2 := ce_block' a2 e3 (by omega) (by omega) (fun k hk => by cases hk)
  have HCL := Lib.hid (Ce.clear_any A1)
  have HB3 := Lib.hid (hb.trans (Bt.set C w2 6 (.int .i64 tt)))
  have HO := Lib.hid own3
  have HA2 := Lib.hid A2
  have HH := Lib.hid h
  obtain ⟨w3, hw3⟩ : ∃ w3, w2.setCell ⟨C.S, 6, none⟩ (.int .i64 tt) = w3 := ⟨_, rfl⟩
  rw [hw3] at HCL HB3 HO HA2
  have HW3 := Lib.hid hw3
  rw [htt]
  have HTT := Lib.hid htt
  clear own3 e3 A1 A2 LW own a1 a2 hA hb h hw3
  go_enter Tryz.func91, Tryz.ntmps91
  go_upto_region 1 with fail
  rw [HW3.out]
  go_wp2_with fail
  refine HCL.out.mono ?_
  rintro e w4 ⟨rfl, A4, E4⟩
  have hB4 := HB3.out.trans (Bt.else1 E4)
  have O4 := HO.out.of_block (E4.block _ HO.out.lt (by omega) (by omega) (by simp))
  have A5 : Ce.At w4 w0.heap.size C.g2 C.gw2 M.signs none 0 [] := ce_block HA2.out (E4.block _ HA2.out.own.lt (by omega) (by omega) (by simp)) (E4.block _ HA2.out.words.lt (by omega) (by omega) (by simp))
  have HSL := Lib.hid (HH.out.turn hB4 O4 A4 A5)
  have HB := Lib.hid hB4
  clear A4 E4 O4 A5 hB4
  go_wp2_with fail
  go_end0
  exact ⟨rfl, HSL.out, HB.out⟩

set_option maxRecDepth 100000 in
set_option maxHeartbeats 2000000 in
theorem touched2 {w0 : W2} {w w2 : World} {C : Cx} {M : Ms} (h : Sl w0 w C M) (hb : Bt C w w2) {zs : List Int} {A : Option Addr} {c : Nat} {ts : List Ce.Tc} {l : Int} (own : Lies w2 C.S 74 [.pointer (some ⟨C.b, 0, none⟩), .pointer (some ⟨C.g1, 0, none⟩), .pointer (some ⟨C.g2, 0, none⟩), .slice (some ⟨C.sb, 0, none⟩) (C.K + 1) C.bcap, .slice (some ⟨C.wb, 0, none⟩) C.n C.wcap, .int .i64 l, .int .i64 M.touches, .int .i64 M.moved]) (a1 : Ce.At w2 w0.heap.size C.g2 C.gw2 zs A c ts) (hA : ∀ k, blk A = some k → w.heap.size ≤ k) (a2 : Ce.At w2 w0.heap.size C.g1 C.gw1 M.cells none 0 []) (j : Nat) (hj : j < C.n) :
    Calls Tryz.prog 91 #[.pointer (some ⟨C.wk j, 0, none⟩), .pointer (some ⟨C.g2, 0, none⟩)] w2 fun e w' => e = .returned (.tuple #[]) ∧ Sl w0 w' C { M with signs := zs, left := l, touches := IntKind.i64.wrap (M.touches + 1) } ∧ Bt C w w' := by
  obtain ⟨n1, n2, n3, n4, n5, n6, n7⟩ := h.wk_ne hj
  obtain ⟨s1, s2, s3, s4, s5, s6⟩ := h.s_ne
  obtain ⟨k1, k2, k3, k4, k5, k6, k7, k8, k9⟩ := h.c_ne
  have hgg := h.gg
  have hww := h.ww
  have hsl := h.own.lt
  have LW := (h.wks j hj).of_block (hb.block _ (h.wks j hj).lt n1 n2 n3 n4 n5)
  have c0 : w2.cell? ⟨C.wk j, 0, none⟩ = some (.pointer (some ⟨C.S, 0, none⟩)) := LW.cell 0
  have c1 : w2.cell? ⟨C.S, 6, none⟩ = some (.int .i64 M.touches) := own.cell 6
  have c2 := own.frozen 6
  have c3 := own.lt
  obtain ⟨tt, htt⟩ : ∃ tt, IntKind.i64.wrap (M.touches + 1) = tt := ⟨_, rfl⟩
  have own3 := own.set 6 (.int .i64 tt)
  have e3 : ∀ k, k < w2.heap.size → k ≠ C.S → (w2.setCell ⟨C.S, 6, none⟩ (.int .i64 tt)).heap[k]? = w2.heap[k]? := fun k _ hk => Below.heap_setCell w2 ⟨C.S, 6, none⟩ _ k hk
  have A1 := ce_block' a1 e3 (by omega) (by omega) (fun k hk => by have := hA k hk; omega)
  have A2 := ce_block' a2 e3 (by omega) (by omega) (fun k hk => by cases hk)
  have HCL := Lib.hid (Ce.clear_any A1)
  have HB3 := Lib.hid (hb.trans (Bt.set C w2 6 (.int .i64 tt)))
  have HO := Lib.hid own3
  have HA2 := Lib.hid A2
  have HH := Lib.hid h
  obtain ⟨w3, hw3⟩ : ∃ w3, w2.setCell ⟨C.S, 6, none⟩ (.int .i64 tt) = w3 := ⟨_, rfl⟩
  rw [hw3] at HCL HB3 HO HA2
  have HW3 := Lib.hid hw3
  rw [htt]
  have HTT := Lib.hid htt
  clear own3 e3 A1 A2 LW own a1 a2 hA hb h hw3
  go_enter Tryz.func91, Tryz.ntmps91
  go_upto_region 1 with fail
  rw [HW3.out]
  go_wp2_with fail
  refine HCL.out.mono ?_
  rintro e w4 ⟨rfl, A4, E4⟩
  have hB4 := HB3.out.trans (Bt.else2 E4)
  have O4 := HO.out.of_block (E4.block _ HO.out.lt (by omega) (by omega) (by simp))
  have A5 : Ce.At w4 w0.heap.size C.g1 C.gw1 M.cells none 0 [] := ce_block HA2.out (E4.block _ HA2.out.own.lt (by omega) (by omega) (by simp)) (E4.block _ HA2.out.words.lt (by omega) (by omega) (by simp))
  have HSL := Lib.hid (HH.out.turn hB4 O4 A5 A4)
  have HB := Lib.hid hB4
  clear A4 E4 O4 A5 hB4
  go_wp2_with fail
  go_end0
  exact ⟨rfl, HSL.out, HB.out⟩
end Go.Proofs.YtklhdilbmpndkaaGreat

namespace Go.Proofs.YtklhdilbmpndkaaGreat
set_option maxRecDepth 20000
open Go.RowKit Go.Sort
set_option linter.unusedVariables false
set_option linter.unusedSimpArgs false


theorem did_parts {w w' : World} {base g gw : Nat} {zs : List Int} {ts : List Ce.Tc} (d : Ce.Did w w' base g gw none zs ts) : ∃ A c, Ce.At w' base g gw zs A c ts ∧ Ce.Else g gw none w w' ∧ ∀ k, blk A = some k → w.heap.size ≤ k := by
  obtain ⟨A, c, h1, h2, h3⟩ := d
  refine ⟨A, c, h1, h2, fun k hk => ?_⟩
  have hk' : Ce.blk A = some k := hk
  rcases h3 with h | ⟨q, h, hq⟩
  · rw [h] at hk'; cases hk'
  · rw [h] at hk'; injection hk' with e; omega
section
variable {w0 : W2} {w : World} {C : Cx} {M : Ms}

set_option maxRecDepth 100000 in
set_option maxHeartbeats 2000000 in
theorem wload1 (h : Sl w0 w C M) (j p : Nat) (hj : j < C.n) (hp : p < M.cells.length) : Calls Tryz.prog 94 #[.pointer (some ⟨C.wk j, 0, none⟩), .pointer (some ⟨C.g1, 0, none⟩), .int .i64 (p : Nat)] w fun e w' => e = .returned (.int .i64 (M.cells.getD p 0)) ∧ Sl w0 w' C { M with touches := IntKind.i64.wrap (M.touches + 1) } ∧ Bt C w w' := by
  have hn := h.n2
  have c0 : w.cell? ⟨C.wk j, 1, none⟩ = some (.int .i64 (j : Nat)) := (h.wks j hj).cell 1
  obtain ⟨z, hz⟩ : ∃ z, M.cells.getD p 0 = z := ⟨_, rfl⟩
  have HL := Lib.hid (Ce.load_yes h.words (by simp) (j : Int) p (by omega) (by omega) hp z hz)
  rw [hz]
  have HH := Lib.hid h
  clear h hz
  go_enter Tryz.func94, Tryz.ntmps94
  go_wp2_with fail
  refine HL.out.mono ?_
  rintro e w2 ⟨rfl, D⟩
  obtain ⟨A, c, A2, E2, hA⟩ := did_parts D
  obtain ⟨s1, s2, s3, s4, s5, s6⟩ := HH.out.s_ne
  obtain ⟨k1, k2, k3, k4, k5, k6, k7, k8, k9⟩ := HH.out.c_ne
  have hgg := HH.out.gg
  have hww := HH.out.ww
  have HT := Lib.hid (touched1 HH.out (Bt.else1 E2) (HH.out.own.of_block (E2.block _ HH.out.own.lt (by omega) (by omega) (by simp))) A2 hA (ce_block HH.out.signs (E2.block _ HH.out.signs.own.lt (by omega) (by omega) (by simp)) (E2.block _ HH.out.signs.words.lt (by omega) (by omega) (by simp))) j hj)
  clear D A2 E2 hA HL c0
  go_wp2_with fail
  refine HT.out.mono ?_
  rintro e w3 ⟨rfl, h3, b3⟩
  have H3 := Lib.hid h3
  have HB3 := Lib.hid b3
  clear h3 b3 HT
  go_wp2_with fail
  go_ret
  exact ⟨rfl, H3.out, HB3.out⟩

set_option maxRecDepth 100000 in
set_option maxHeartbeats 2000000 in
theorem wload2 (h : Sl w0 w C M) (j p : Nat) (hj : j < C.n) (hp : p < M.signs.length) : Calls Tryz.prog 94 #[.pointer (some ⟨C.wk j, 0, none⟩), .pointer (some ⟨C.g2, 0, none⟩), .int .i64 (p : Nat)] w fun e w' => e = .returned (.int .i64 (M.signs.getD p 0)) ∧ Sl w0 w' C { M with touches := IntKind.i64.wrap (M.touches + 1) } ∧ Bt C w w' := by
  have hn := h.n2
  have c0 : w.cell? ⟨C.wk j, 1, none⟩ = some (.int .i64 (j : Nat)) := (h.wks j hj).cell 1
  obtain ⟨z, hz⟩ : ∃ z, M.signs.getD p 0 = z := ⟨_, rfl⟩
  have HL := Lib.hid (Ce.load_yes h.signs (by simp) (j : Int) p (by omega) (by omega) hp z hz)
  rw [hz]
  have HH := Lib.hid h
  clear h hz
  go_enter Tryz.func94, Tryz.ntmps94
  go_wp2_with fail
  refine HL.out.mono ?_
  rintro e w2 ⟨rfl, D⟩
  obtain ⟨A, c, A2, E2, hA⟩ := did_parts D
  obtain ⟨s1, s2, s3, s4, s5, s6⟩ := HH.out.s_ne
  obtain ⟨k1, k2, k3, k4, k5, k6, k7, k8, k9⟩ := HH.out.c_ne
  have hgg := HH.out.gg
  have hww := HH.out.ww
  have HT := Lib.hid (touched2 HH.out (Bt.else2 E2) (HH.out.own.of_block (E2.block _ HH.out.own.lt (by omega) (by omega) (by simp))) A2 hA (ce_block HH.out.words (E2.block _ HH.out.words.own.lt (by omega) (by omega) (by simp)) (E2.block _ HH.out.words.words.lt (by omega) (by omega) (by simp))) j hj)
  clear D A2 E2 hA HL c0
  go_wp2_with fail
  refine HT.out.mono ?_
  rintro e w3 ⟨rfl, h3, b3⟩
  have H3 := Lib.hid h3
  have HB3 := Lib.hid b3
  clear h3 b3 HT
  go_wp2_with fail
  go_ret
  exact ⟨rfl, H3.out, HB3.out⟩

set_option maxRecDepth 100000 in
set_option maxHeartbeats 2000000 in
theorem wadd2 (h : Sl w0 w C M) (j p : Nat) (n : Int) (hj : j < C.n) (hp : p < M.signs.length) : Calls Tryz.prog 60 #[.pointer (some ⟨C.wk j, 0, none⟩), .pointer (some ⟨C.g2, 0, none⟩), .int .i64 (p : Nat), .int .i64 n] w fun e w' => e = .returned (.int .i64 (M.signs.getD p 0)) ∧ Sl w0 w' C { M with signs := M.signs.set p (wrap64 (M.signs.getD p 0 + n)), touches := IntKind.i64.wrap (M.touches + 1) } ∧ Bt C w w' := by
  have hn := h.n2
  have c0 : w.cell? ⟨C.wk j, 1, none⟩ = some (.int .i64 (j : Nat)) := (h.wks j hj).cell 1
  obtain ⟨z, hz⟩ : ∃ z, M.signs.getD p 0 = z := ⟨_, rfl⟩
  have HL := Lib.hid (Ce.add_yes h.signs (by simp) (j : Int) p n (by omega) (by omega) hp z hz)
  rw [hz]
  have HH := Lib.hid h
  clear h hz
  go_enter Tryz.func60, Tryz.ntmps60
  go_wp2_with fail
  refine HL.out.mono ?_
  rintro e w2 ⟨rfl, D⟩
  obtain ⟨A, c, A2, E2, hA⟩ := did_parts D
  obtain ⟨s1, s2, s3, s4, s5, s6⟩ := HH.out.s_ne
  obtain ⟨k1, k2, k3, k4, k5, k6, k7, k8, k9⟩ := HH.out.c_ne
  have hgg := HH.out.gg
  have hww := HH.out.ww
  have HT := Lib.hid (touched2 HH.out (Bt.else2 E2) (HH.out.own.of_block (E2.block _ HH.out.own.lt (by omega) (by omega) (by simp))) A2 hA (ce_block HH.out.words (E2.block _ HH.out.words.own.lt (by omega) (by omega) (by simp)) (E2.block _ HH.out.words.words.lt (by omega) (by omega) (by simp))) j hj)
  clear D A2 E2 hA HL c0
  go_wp2_with fail
  refine HT.out.mono ?_
  rintro e w3 ⟨rfl, h3, b3⟩
  have H3 := Lib.hid h3
  have HB3 := Lib.hid b3
  clear h3 b3 HT
  go_wp2_with fail
  go_ret
  exact ⟨rfl, H3.out, HB3.out⟩

set_option maxRecDepth 100000 in
set_option maxHeartbeats 2000000 in
theorem wstore1 (h : Sl w0 w C M) (j p : Nat) (x : Int) (hj : j < C.n) (hp : p < M.cells.length) : Calls Tryz.prog 108 #[.pointer (some ⟨C.wk j, 0, none⟩), .int .i64 (p : Nat), .int .i64 x] w fun e w' => e = .returned (.tuple #[]) ∧ Sl w0 w' C { M with cells := M.cells.set p x, left := IntKind.i64.wrap (M.left - 1), touches := IntKind.i64.wrap (M.touches + 1) } ∧ Bt C w w' := by
  have hn := h.n2
  have z0 : w.cell? ⟨C.wk j, 0, none⟩ = some (.pointer (some ⟨C.S, 0, none⟩)) := (h.wks j hj).cell 0
  have z1 : w.cell? ⟨C.wk j, 1, none⟩ = some (.int .i64 (j : Nat)) := (h.wks j hj).cell 1
  have z2 : w.cell? ⟨C.S, 1, none⟩ = some (.pointer (some ⟨C.g1, 0, none⟩)) := h.own.cell 1
  have HH := Lib.hid h
  obtain ⟨L0, hL0⟩ : ∃ L0, M.left = L0 := ⟨_, rfl⟩
  obtain ⟨l1, hl1⟩ : ∃ l1, IntKind.i64.wrap (L0 - 1) = l1 := ⟨_, rfl⟩
  rw [hL0, hl1]
  have HL0 := Lib.hid hL0
  have HL1 := Lib.hid hl1
  clear h hL0 hl1
  go_enter Tryz.func108, Tryz.ntmps108
  go_upto_region 0 with fail
  have b1 : Below w.heap.size w w.drew := (Below.refl _ w).drew
  have HST := Lib.hid (Ce.store_yes (HH.out.kept b1).words (by simp) (j : Int) p x (by omega) (by omega) hp)
  go_still_tail 13, (by kernel_rfl)
  change wpList _ _ _ _ _ w.drew
  go_wp2_with fail
  refine HST.out.mono ?_
  rintro e w2 ⟨rfl, D⟩
  obtain ⟨A, c, A2, E2, hA⟩ := did_parts D
  have h1 := HH.out.kept b1
  obtain ⟨n1, n2, n3, n4, n5, n6, n7⟩ := h1.wk_ne hj
  obtain ⟨s1, s2, s3, s4, s5, s6⟩ := h1.s_ne
  obtain ⟨k1, k2, k3, k4, k5, k6, k7, k8, k9⟩ := h1.c_ne
  have hgg := h1.gg
  have hww := h1.ww
  have hsl := h1.own.lt
  have HH1 := Lib.hid h1
  have hl := HL0.out
  have own2 := h1.own.of_block (E2.block _ h1.own.lt (by omega) (by omega) (by simp))
  rw [hl] at own2
  have LW := (h1.wks j hj).of_block (E2.block _ (h1.wks j hj).lt (by omega) (by omega) (by simp))
  have own3 := own2.set 5 (.int .i64 l1)
  have e3 : ∀ k, k < w2.heap.size → k ≠ C.S → (w2.setCell ⟨C.S, 5, none⟩ (.int .i64 l1)).heap[k]? = w2.heap[k]? := fun k _ hk => Below.heap_setCell w2 ⟨C.S, 5, none⟩ _ k hk
  have A3 := ce_block' A2 e3 (by omega) (by omega) (fun k hk => by have := hA k hk; omega)
  have A4 := ce_block' (ce_block h1.signs (E2.block _ h1.signs.own.lt (by omega) (by omega) (by simp)) (E2.block _ h1.signs.words.lt (by omega) (by omega) (by simp))) e3 (by omega) (by omega) (fun k hk => by cases hk)
  have HB3 := Lib.hid ((Bt.else1 E2).trans (Bt.set C w2 5 (.int .i64 l1)))
  have c0 : w2.cell? ⟨C.wk j, 0, none⟩ = some (.pointer (some ⟨C.S, 0, none⟩)) := LW.cell 0
  have c1 : w2.cell? ⟨C.S, 5, none⟩ = some (.int .i64 L0) := own2.cell 5
  have c2 := own2.frozen 5
  have c3 := own2.lt
  have HT := Lib.hid (touched1 h1 HB3.out own3 A3 hA A4 j hj)
  have LW3 := LW.far (p := ⟨C.S, 5, none⟩) n1 (.int .i64 l1)
  obtain ⟨w3, hw3⟩ : ∃ w3, w2.setCell ⟨C.S, 5, none⟩ (.int .i64 l1) = w3 := ⟨_, rfl⟩
  have HW3 := Lib.hid hw3
  rw [hw3] at own3 HT LW3
  have x0 : w3.cell? ⟨C.wk j, 0, none⟩ = some (.pointer (some ⟨C.S, 0, none⟩)) := LW3.cell 0
  have x1 : w3.cell? ⟨C.S, 1, none⟩ = some (.pointer (some ⟨C.g1, 0, none⟩)) := own3.cell 1
  have HL1' := HL1.out
  clear D A2 E2 hA h1 own2 LW own3 e3 A3 A4 hw3 LW3 HST z0 z1 z2 hl
  go_upto_region 2 with fail
  rw [HW3.out]
  go_wp2_with fail
  refine HT.out.mono ?_
  rintro e w4 ⟨rfl, h4, b4⟩
  have H4 := Lib.hid h4
  have HB4 := Lib.hid ((Bt.below (C := C) b1).trans b4)
  clear h4 b4 HT
  go_wp2_with fail
  go_end0
  exact ⟨rfl, H4.out, HB4.out⟩
end
end Go.Proofs.YtklhdilbmpndkaaGreat

namespace Go.Proofs.YtklhdilbmpndkaaGreat
set_option maxRecDepth 20000
open Go.RowKit Go.Sort
attribute [local go_sem] store_func
set_option linter.unusedVariables false
set_option linter.unusedSimpArgs false


def Ms.upd (M : Ms) (j : Nat) (k : Wk) : Ms := { M with wks := fun x => if x = j then k else M.wks x }
theorem upd_upd (M : Ms) (j : Nat) (a b : Wk) : (M.upd j a).upd j b = M.upd j b := by
  unfold Ms.upd
  congr 1
  funext x
  by_cases h : x = j <;> simp [h]
theorem upd_left (M : Ms) (j : Nat) (k : Wk) : (M.upd j k).left = M.left ∧ (M.upd j k).cells = M.cells ∧ (M.upd j k).signs = M.signs ∧ (M.upd j k).touches = M.touches ∧ (M.upd j k).moved = M.moved := ⟨rfl, rfl, rfl, rfl, rfl⟩
theorem upd_at (M : Ms) (j : Nat) (k : Wk) : (M.upd j k).wks j = k := by simp [Ms.upd]
section
variable {w0 : W2} {w : World} {C : Cx} {M : Ms} {j0 : Nat} {k0 : Wk}
theorem Sl.upd (h : Sl w0 w C M) {j : Nat} (hj : j < C.n) (i : Nat) (u : Value) (k : Wk) (he : ((M.wks j).cells C.S j).set i u = k.cells C.S j) (hr : Sq w C.B2 k.SB k.sc k.stays ∧ Sq w C.B2 k.AB k.ac k.awaiting) :
    Sl w0 (w.setCell ⟨C.wk j, i, none⟩ u) C (M.upd j k) := h.setW hj i u k he hr
theorem Sl.upd2 (h : Sl w0 w C (M.upd j0 k0)) (hj : j0 < C.n) (i : Nat) (u : Value) (k : Wk) (he : (k0.cells C.S j0).set i u = k.cells C.S j0) (hr : Sq w C.B2 k.SB k.sc k.stays ∧ Sq w C.B2 k.AB k.ac k.awaiting) :
    Sl w0 (w.setCell ⟨C.wk j0, i, none⟩ u) C (M.upd j0 k) := by
  have := h.upd hj i u k (by rw [upd_at]; exact he) hr
  rw [upd_upd] at this; exact this
/-- Its next step is another one. -/
theorem Sl.next (h : Sl w0 w C M) {j : Nat} (hj : j < C.n) (f : Nat) : Sl w0 (w.setCell ⟨C.wk j, 2, none⟩ (.func (.func f) #[] #[])) C (M.upd j { M.wks j with next := f }) :=
  h.upd hj 2 _ _ rfl (h.rows j hj)

set_option maxRecDepth 100000 in
set_option maxHeartbeats 2000000 in
theorem turn_tell (h : Sl w0 w C M) (j : Nat) (hj : j < C.n) (ha : 0 < (M.wks j).awaiting.length) : Calls Tryz.prog 64 #[.pointer (some ⟨C.wk j, 0, none⟩)] w fun e w' => e = .returned (.tuple #[]) ∧ Sl w0 w' C (M.upd j { M.wks j with next := 95 }) := by
  have L := h.wks j hj
  have z0 : w.cell? ⟨C.wk j, 14, none⟩ = some (.slice (M.wks j).AB (M.wks j).awaiting.length (M.wks j).ac) := L.cell 14
  have z1 : w.cell? ⟨C.wk j, 2, none⟩ = some (.func (.func (M.wks j).next) #[] #[]) := L.cell 2
  have z2 := L.frozen 2
  have z3 := L.lt
  have HN := Lib.hid (h.next hj 95)
  obtain ⟨n, hn⟩ : ∃ n, (M.wks j).awaiting.length = n := ⟨_, rfl⟩
  rw [hn] at z0 ha
  have d0 : decide ((0 : Int) < (n : Int)) = true := by simp; omega
  clear h L hn
  go_enter Tryz.func64, Tryz.ntmps64
  go_wp2
  go_end0
  exact ⟨rfl, HN.out⟩

set_option maxRecDepth 100000 in
set_option maxHeartbeats 2000000 in
theorem turn_nought (h : Sl w0 w C M) (j : Nat) (hj : j < C.n) (ha : (M.wks j).awaiting.length = 0) (hs : (M.wks j).stays.length = 0) (hf : (M.wks j).frm < (M.wks j).upTo) : Calls Tryz.prog 64 #[.pointer (some ⟨C.wk j, 0, none⟩)] w fun e w' => e = .returned (.tuple #[]) ∧ Sl w0 w' C (M.upd j { M.wks j with next := 97 }) := by
  have L := h.wks j hj
  have z0 : w.cell? ⟨C.wk j, 14, none⟩ = some (.slice (M.wks j).AB (M.wks j).awaiting.length (M.wks j).ac) := L.cell 14
  have z1 : w.cell? ⟨C.wk j, 2, none⟩ = some (.func (.func (M.wks j).next) #[] #[]) := L.cell 2
  have z4 : w.cell? ⟨C.wk j, 4, none⟩ = some (.slice (M.wks j).SB (M.wks j).stays.length (M.wks j).sc) := L.cell 4
  have z5 : w.cell? ⟨C.wk j, 5, none⟩ = some (.int .i64 (M.wks j).frm) := L.cell 5
  have z6 : w.cell? ⟨C.wk j, 6, none⟩ = some (.int .i64 (M.wks j).upTo) := L.cell 6
  rw [ha] at z0
  rw [hs] at z4
  have HN := Lib.hid ((h.kept ((Below.refl _ w).drew)).next hj 97)
  have z2 := L.frozen 2
  have z3 := L.lt
  obtain ⟨fr, hfr⟩ : ∃ fr, (M.wks j).frm = fr := ⟨_, rfl⟩
  obtain ⟨up, hup⟩ : ∃ up, (M.wks j).upTo = up := ⟨_, rfl⟩
  rw [hfr] at z5
  rw [hup] at z6
  have d2 : decide (fr < up) = true := by rw [← hfr, ← hup]; simp [hf]
  clear h L ha hs hf hfr hup
  go_enter Tryz.func64, Tryz.ntmps64
  go_upto_region 7 with fail
  go_still_tail 9, (by kernel_rfl)
  change wpList _ _ _ _ _ w.drew
  go_wp2
  go_end0
  exact ⟨rfl, HN.out⟩
set_option maxRecDepth 100000 in
set_option maxHeartbeats 2000000 in
theorem turn_claim (h : Sl w0 w C M) (j : Nat) (hj : j < C.n) (ha : (M.wks j).awaiting.length = 0) (hs : (M.wks j).stays.length = 0) (hf : ¬ (M.wks j).frm < (M.wks j).upTo) : Calls Tryz.prog 64 #[.pointer (some ⟨C.wk j, 0, none⟩)] w fun e w' => e = .returned (.tuple #[]) ∧ Sl w0 w' C (M.upd j { M.wks j with next := 30 }) := by
  have L := h.wks j hj
  have z0 : w.cell? ⟨C.wk j, 14, none⟩ = some (.slice (M.wks j).AB (M.wks j).awaiting.length (M.wks j).ac) := L.cell 14
  have z1 : w.cell? ⟨C.wk j, 2, none⟩ = some (.func (.func (M.wks j).next) #[] #[]) := L.cell 2
  have z4 : w.cell? ⟨C.wk j, 4, none⟩ = some (.slice (M.wks j).SB (M.wks j).stays.length (M.wks j).sc) := L.cell 4
  have z5 : w.cell? ⟨C.wk j, 5, none⟩ = some (.int .i64 (M.wks j).frm) := L.cell 5
  have z6 : w.cell? ⟨C.wk j, 6, none⟩ = some (.int .i64 (M.wks j).upTo) := L.cell 6
  rw [ha] at z0
  rw [hs] at z4
  have HN := Lib.hid ((h.kept ((Below.refl _ w).drew)).next hj 30)
  have z2 := L.frozen 2
  have z3 := L.lt
  obtain ⟨fr, hfr⟩ : ∃ fr, (M.wks j).frm = fr := ⟨_, rfl⟩
  obtain ⟨up, hup⟩ : ∃ up, (M.wks j).upTo = up := ⟨_, rfl⟩
  rw [hfr] at z5
  rw [hup] at z6
  have d2 : decide (fr < up) = false := by rw [← hfr, ← hup]; simp [hf]
  clear h L ha hs hf hfr hup
  go_enter Tryz.func64, Tryz.ntmps64
  go_upto_region 7 with fail
  go_still_tail 9, (by kernel_rfl)
  change wpList _ _ _ _ _ w.drew
  go_wp2
  go_end0
  exact ⟨rfl, HN.out⟩
set_option maxRecDepth 100000 in
set_option maxHeartbeats 4000000 in
theorem turn_take (h : Sl w0 w C M) (j : Nat) (hj : j < C.n) (ha : (M.wks j).awaiting.length = 0) (p r : Nat) (st : List Int) (hs : (M.wks j).stays = (p : Int) :: st) (hp : isK C.f (adr 0 C.obs) p = true) (hr : goS C.f (adr 0 C.obs) p = r) :
    Calls Tryz.prog 64 #[.pointer (some ⟨C.wk j, 0, none⟩)] w fun e w' => e = .returned (.tuple #[]) ∧ ∃ SB, Sl w0 w' C (M.upd j { M.wks j with next := 96, SB := SB, sc := (M.wks j).sc - 1, stays := st, at_ := (p : Nat), to_ := (r : Nat), many := 0 }) := by
  have L := h.wks j hj
  have z0 : w.cell? ⟨C.wk j, 14, none⟩ = some (.slice (M.wks j).AB (M.wks j).awaiting.length (M.wks j).ac) := L.cell 14
  have z4 : w.cell? ⟨C.wk j, 4, none⟩ = some (.slice (M.wks j).SB (M.wks j).stays.length (M.wks j).sc) := L.cell 4
  have z7 : w.cell? ⟨C.wk j, 7, none⟩ = some (.int .i64 (M.wks j).at_) := L.cell 7
  have z12 : w.cell? ⟨C.wk j, 12, none⟩ = some (.int .i64 (M.wks j).many) := L.cell 12
  have f4 := L.frozen 4
  have f7 := L.frozen 7
  have f12 := L.frozen 12
  have z3 := L.lt
  have hsq := (h.rows j hj).1
  rw [hs] at hsq
  obtain ⟨q, o, hSB, hcell, hql, hqB⟩ := hsq.head
  have hcap := hsq.1
  simp only [List.length_cons] at hcap
  rw [ha] at z0
  rw [hs, hSB] at z4
  simp only [List.length_cons] at z4
  have HH := Lib.hid h
  have HSB := Lib.hid hSB
  have HST := Lib.hid hs
  have hjB := h.hi.2.2.2.2.2.2.2 j hj
  obtain ⟨sl, hsl⟩ : ∃ sl, st.length = sl := ⟨_, rfl⟩
  obtain ⟨sc, hsc⟩ : ∃ sc, (M.wks j).sc = sc := ⟨_, rfl⟩
  rw [hsl] at hcap z4
  rw [hsc] at hcap z4
  have HSL := Lib.hid hsl
  have HSC := Lib.hid hsc
  have HR := Lib.hid hr
  have HP := Lib.hid hp
  have i0 : (0 : Int) < ((sl + 1 : Nat) : Int) := by omega
  have i1 : (1 : Int) ≤ ((sl + 1 : Nat) : Int) := by omega
  have i2 : ((sl + 1 : Nat) : Int) ≤ (sc : Int) := by omega
  have i3 : (1 : Int) ≤ (sc : Int) := by omega
  clear h L ha hs hsq hSB hsl hsc hp hr
  by_cases hc : sc = 1
  · obtain rfl : sl = 0 := by omega
    have hs0 : st = [] := List.eq_nil_of_length_eq_zero HSL.out
    subst hs0
    subst hc
    have S1 := HH.out.upd hj 7 (.int .i64 (p : Nat)) { M.wks j with at_ := (p : Nat) } rfl (HH.out.rows j hj)
    have S2 := S1.upd2 hj 12 (.int .i64 0) { M.wks j with at_ := (p : Nat), many := 0 } rfl (by have := S1.rows j hj; rw [upd_at] at this; exact this)
    have hsq2 := S2.rows j hj
    rw [upd_at] at hsq2
    have hst1 : Sq ((w.setCell ⟨C.wk j, 7, none⟩ (.int .i64 (p : Nat))).setCell ⟨C.wk j, 12, none⟩ (.int .i64 0)) C.B2 (some ⟨q, o, none⟩) 1 ((p : Int) :: []) := by
      have h1 := hsq2.1
      simp only [HST.out, HSB.out, HSC.out] at h1
      exact h1
    have S3 := S2.upd2 hj 4 (.slice (some ⟨q, o, none⟩) 0 0) { M.wks j with at_ := (p : Nat), many := 0, SB := (some ⟨q, o, none⟩), sc := 0, stays := [] } (by unfold Wk.cells; simp [HSL.out]) ⟨hst1.tail (some ⟨q, o, none⟩) (fun hne => absurd rfl hne), hsq2.2⟩
    have S4 := S3.kept ((Below.refl _ _).drew)
    obtain ⟨w4, hw4⟩ : ∃ w4, (((w.setCell ⟨C.wk j, 7, none⟩ (.int .i64 (p : Nat))).setCell ⟨C.wk j, 12, none⟩ (.int .i64 0)).setCell ⟨C.wk j, 4, none⟩ (.slice (some ⟨q, o, none⟩) 0 0)).drew = w4 := ⟨_, rfl⟩
    rw [hw4] at S4
    have HS4 := Lib.hid S4
    have HW4 := Lib.hid hw4
    clear S1 S2 hsq2 hst1 S3 S4 hw4
    go_enter Tryz.func64, Tryz.ntmps64
    go_upto_region 4 with fail
    go_region
    rw [HW4.out]
    have LW := HS4.out.wks j hj
    rw [upd_at] at LW
    have y0 : w4.cell? ⟨C.wk j, 0, none⟩ = some (.pointer (some ⟨C.S, 0, none⟩)) := LW.cell 0
    have y7 : w4.cell? ⟨C.wk j, 7, none⟩ = some (.int .i64 (p : Nat)) := LW.cell 7
    have y1 : w4.cell? ⟨C.S, 0, none⟩ = some (.pointer (some ⟨C.b, 0, none⟩)) := HS4.out.own.cell 0
    have HTO := Lib.hid (fun V (hV : Below w4.heap.size w4 V) => to_yes ((HS4.out.fo.kept HS4.out.old).kept hV) p r HP.out HR.out)
    clear LW z0 z4 z7 z12 f4 f7 f12 z3 hcell
    go_upto_region 5 with fail
    go_region_with ((first | (go_at_call 53; refine (HTO.out _ (by first | exact (Below.refl _ _).drew | exact Below.refl _ _)).mono ?_; rintro e w5 ⟨rfl, hb5⟩; (have hb55 := on ((Below.refl w4.heap.size w4).drew) (Nat.le_refl _) hb5); (have S5 := HS4.out.kept hb55); (have LW5 := S5.wks j hj); rw [upd_at] at LW5; (have y85 : w5.cell? ⟨C.wk j, 8, none⟩ = some (.int .i64 (M.wks j).to_) := LW5.cell 8); (have f85 := LW5.frozen 8); (have y25 : w5.cell? ⟨C.wk j, 2, none⟩ = some (.func (.func (M.wks j).next) #[] #[]) := LW5.cell 2); (have f25 := LW5.frozen 2); (have l85 := LW5.lt); (have HS5 := Lib.hid S5); clear S5 LW5 hb5) | fail))
    all_goals
      have S6 := HS5.out.upd2 hj 8 (.int .i64 (r : Nat)) { M.wks j with at_ := (p : Nat), to_ := (r : Nat), many := 0, SB := (some ⟨q, o, none⟩), sc := 0, stays := [] } rfl (by have := HS5.out.rows j hj; rw [upd_at] at this; exact this)
      have S7 := S6.upd2 hj 2 (.func (.func 96) #[] #[]) { M.wks j with next := 96, at_ := (p : Nat), to_ := (r : Nat), many := 0, SB := (some ⟨q, o, none⟩), sc := 0, stays := [] } rfl (by have := S6.rows j hj; rw [upd_at] at this; exact this)
      go_wp2_with fail
      go_end0
      exact ⟨rfl, (some ⟨q, o, none⟩), by rw [HSC.out]; exact S7⟩
  · have hc2 : ¬ (sc - 1 = 0) := by omega
    have S1 := HH.out.upd hj 7 (.int .i64 (p : Nat)) { M.wks j with at_ := (p : Nat) } rfl (HH.out.rows j hj)
    have S2 := S1.upd2 hj 12 (.int .i64 0) { M.wks j with at_ := (p : Nat), many := 0 } rfl (by have := S1.rows j hj; rw [upd_at] at this; exact this)
    have hsq2 := S2.rows j hj
    rw [upd_at] at hsq2
    have hst1 : Sq ((w.setCell ⟨C.wk j, 7, none⟩ (.int .i64 (p : Nat))).setCell ⟨C.wk j, 12, none⟩ (.int .i64 0)) C.B2 (some ⟨q, o, none⟩) sc ((p : Int) :: st) := by
      have h1 := hsq2.1
      simp only [HST.out, HSB.out, HSC.out] at h1
      exact h1
    have S3 := S2.upd2 hj 4 (.slice (some ⟨q, o + 1, none⟩) sl (sc - 1)) { M.wks j with at_ := (p : Nat), many := 0, SB := (some ⟨q, o + 1, none⟩), sc := (sc - 1), stays := st } (by unfold Wk.cells; simp [HSL.out]) ⟨hst1.tail (some ⟨q, o + 1, none⟩) (fun _ => rfl), hsq2.2⟩
    have S4 := S3.kept ((Below.refl _ _).drew)
    obtain ⟨w4, hw4⟩ : ∃ w4, (((w.setCell ⟨C.wk j, 7, none⟩ (.int .i64 (p : Nat))).setCell ⟨C.wk j, 12, none⟩ (.int .i64 0)).setCell ⟨C.wk j, 4, none⟩ (.slice (some ⟨q, o + 1, none⟩) sl (sc - 1))).drew = w4 := ⟨_, rfl⟩
    rw [hw4] at S4
    have HS4 := Lib.hid S4
    have HW4 := Lib.hid hw4
    clear S1 S2 hsq2 hst1 S3 S4 hw4
    go_enter Tryz.func64, Tryz.ntmps64
    go_upto_region 4 with fail
    go_region
    rw [HW4.out]
    have LW := HS4.out.wks j hj
    rw [upd_at] at LW
    have y0 : w4.cell? ⟨C.wk j, 0, none⟩ = some (.pointer (some ⟨C.S, 0, none⟩)) := LW.cell 0
    have y7 : w4.cell? ⟨C.wk j, 7, none⟩ = some (.int .i64 (p : Nat)) := LW.cell 7
    have y1 : w4.cell? ⟨C.S, 0, none⟩ = some (.pointer (some ⟨C.b, 0, none⟩)) := HS4.out.own.cell 0
    have HTO := Lib.hid (fun V (hV : Below w4.heap.size w4 V) => to_yes ((HS4.out.fo.kept HS4.out.old).kept hV) p r HP.out HR.out)
    clear LW z0 z4 z7 z12 f4 f7 f12 z3 hcell
    go_upto_region 5 with fail
    go_region_with ((first | (go_at_call 53; refine (HTO.out _ (by first | exact (Below.refl _ _).drew | exact Below.refl _ _)).mono ?_; rintro e w5 ⟨rfl, hb5⟩; (have hb55 := on ((Below.refl w4.heap.size w4).drew) (Nat.le_refl _) hb5); (have S5 := HS4.out.kept hb55); (have LW5 := S5.wks j hj); rw [upd_at] at LW5; (have y85 : w5.cell? ⟨C.wk j, 8, none⟩ = some (.int .i64 (M.wks j).to_) := LW5.cell 8); (have f85 := LW5.frozen 8); (have y25 : w5.cell? ⟨C.wk j, 2, none⟩ = some (.func (.func (M.wks j).next) #[] #[]) := LW5.cell 2); (have f25 := LW5.frozen 2); (have l85 := LW5.lt); (have HS5 := Lib.hid S5); clear S5 LW5 hb5) | fail))
    all_goals
      have S6 := HS5.out.upd2 hj 8 (.int .i64 (r : Nat)) { M.wks j with at_ := (p : Nat), to_ := (r : Nat), many := 0, SB := (some ⟨q, o + 1, none⟩), sc := (sc - 1), stays := st } rfl (by have := HS5.out.rows j hj; rw [upd_at] at this; exact this)
      have S7 := S6.upd2 hj 2 (.func (.func 96) #[] #[]) { M.wks j with next := 96, at_ := (p : Nat), to_ := (r : Nat), many := 0, SB := (some ⟨q, o + 1, none⟩), sc := (sc - 1), stays := st } rfl (by have := S6.rows j hj; rw [upd_at] at this; exact this)
      go_wp2_with fail
      go_end0
      exact ⟨rfl, (some ⟨q, o + 1, none⟩), by rw [HSC.out]; exact S7⟩
end
end Go.Proofs.YtklhdilbmpndkaaGreat

namespace Go.Proofs.YtklhdilbmpndkaaGreat
set_option maxRecDepth 20000
open Go.RowKit Go.Sort
attribute [local go_sem] store_func
set_option linter.unusedVariables false
set_option linter.unusedSimpArgs false


/-- What a worker is about to do. -/
inductive Ph
  | claim
  | rest
  | await (r : Nat)
  | take (r : Nat) (x : Nat × Ob) (i : Nat) (st : List (Nat × Ob)) (fr : Nat)
  | put (r : Nat) (x : Nat × Ob) (i : Nat) (v : Int) (st : List (Nat × Ob)) (fr : Nat)
  | tell (r : Nat) (a : Nat) (aw : List Nat) (st : List (Nat × Ob)) (fr : Nat)
  | nought (r : Nat) (fr : Nat)
def Cx.L (C : Cx) : List (Nat × Ob) := adr 0 C.obs
def Cx.fr0 (C : Cx) (r : Nat) : Nat := max (bgR C.W C.L C.top r) C.T
def Cx.up (C : Cx) (r : Nat) : Nat := bgR C.W C.L C.top (r + 1)
def Cx.sts (C : Cx) (r : Nat) : List (Nat × Ob) := inR C.f C.W r C.L
def addrs (st : List (Nat × Ob)) : List Int := st.map fun x => (x.1 : Int)
def hasHead (k : Wk) (x : Nat × Ob) : Prop := k.hk = x.2.1 % 16 ∧ k.hl = (x.2.2.length : Nat) ∧ k.hp = (ptrs x.2.1 : Nat)
def Lk (C : Cx) (k : Wk) : Ph → Prop
  | .claim => k.next = 30 ∧ k.stays = [] ∧ k.awaiting = []
  | .rest => k.next = 61
  | .await r => k.next = 63 ∧ k.region = (r : Nat) ∧ k.stays = addrs (C.sts r) ∧ k.awaiting = [] ∧ k.frm = (C.fr0 r : Nat) ∧ k.upTo = (C.up r : Nat)
  | .take r x i st fr => k.next = 96 ∧ k.stays = addrs st ∧ k.awaiting = [] ∧ k.frm = (fr : Nat) ∧ k.upTo = (C.up r : Nat) ∧ k.at_ = (x.1 : Nat) ∧ k.to_ = (goS C.f C.L x.1 : Nat) ∧ k.many = (i : Nat) ∧ (1 ≤ i → hasHead k x)
  | .put r x i v st fr => k.next = 107 ∧ k.stays = addrs st ∧ k.awaiting = [] ∧ k.frm = (fr : Nat) ∧ k.upTo = (C.up r : Nat) ∧ k.at_ = (x.1 : Nat) ∧ k.to_ = (goS C.f C.L x.1 : Nat) ∧ k.many = (i : Nat) ∧ hasHead k x ∧ k.word = v
  | .tell r a aw st fr => k.next = 95 ∧ k.stays = addrs st ∧ k.awaiting = natZ (a :: aw) ∧ k.frm = (fr : Nat) ∧ k.upTo = (C.up r : Nat)
  | .nought r fr => k.next = 97 ∧ k.stays = [] ∧ k.awaiting = [] ∧ k.frm = (fr : Nat) ∧ k.upTo = (C.up r : Nat)
/-- What turn makes of what is left. -/
def turnP (C : Cx) (r : Nat) : List Nat → List (Nat × Ob) → Nat → Ph
  | a :: aw, st, fr => .tell r a aw st fr
  | [], x :: st, fr => .take r x 0 st fr
  | [], [], fr => if fr < C.up r then .nought r fr else .claim
section
variable {w0 : W2} {w : World} {C : Cx} {M : Ms}
theorem turn_ph (h : Sl w0 w C M) (j : Nat) (hj : j < C.n) (r fr : Nat) (aw : List Nat) (st : List (Nat × Ob)) (ha : (M.wks j).awaiting = natZ aw) (hs : (M.wks j).stays = addrs st) (hf : (M.wks j).frm = (fr : Nat)) (hu : (M.wks j).upTo = (C.up r : Nat)) (hk : ∀ x ∈ st, isK C.f C.L x.1 = true) :
    Calls Tryz.prog 64 #[.pointer (some ⟨C.wk j, 0, none⟩)] w fun e w' => e = .returned (.tuple #[]) ∧ ∃ k', Sl w0 w' C (M.upd j k') ∧ Lk C k' (turnP C r aw st fr) := by
  match aw, st with
  | a :: aw, st =>
    refine (turn_tell h j hj (by rw [ha]; simp [natZ])).mono ?_
    rintro e w' ⟨he, hS⟩
    exact ⟨he, _, hS, rfl, hs, ha, hf, hu⟩
  | [], x :: st =>
    refine (turn_take h j hj (by rw [ha]; rfl) x.1 _ (addrs st) (by rw [hs]; rfl) (hk x (by simp)) rfl).mono ?_
    rintro e w' ⟨he, SB, hS⟩
    exact ⟨he, _, hS, rfl, rfl, ha, hf, hu, rfl, rfl, rfl, fun h => absurd h (by simp)⟩
  | [], [] =>
    by_cases hlt : fr < C.up r
    · refine (turn_nought h j hj (by rw [ha]; rfl) (by rw [hs]; rfl) (by rw [hf, hu]; omega)).mono ?_
      rintro e w' ⟨he, hS⟩
      have e2 : turnP C r [] [] fr = .nought r fr := by show (if fr < C.up r then Ph.nought r fr else Ph.claim) = _; rw [if_pos hlt]
      rw [e2]
      exact ⟨he, _, hS, rfl, hs, ha, hf, hu⟩
    · refine (turn_claim h j hj (by rw [ha]; rfl) (by rw [hs]; rfl) (by rw [hf, hu]; omega)).mono ?_
      rintro e w' ⟨he, hS⟩
      have e2 : turnP C r [] [] fr = .claim := by show (if fr < C.up r then Ph.nought r fr else Ph.claim) = _; rw [if_neg hlt]
      rw [e2]
      exact ⟨he, _, hS, rfl, hs, ha⟩

set_option maxRecDepth 100000 in
set_option maxHeartbeats 2000000 in
theorem await_any (h : Sl w0 w C M) (j : Nat) (hj : j < C.n) (r : Nat) (hl : Lk C (M.wks j) (.await r)) (hr : r + 1 < M.signs.length) (hr2 : r ≤ 65536) (hk : ∀ x ∈ C.sts r, isK C.f C.L x.1 = true) :
    Calls Tryz.prog 63 #[.pointer (some ⟨C.wk j, 0, none⟩)] w fun e w' => e = .returned (.tuple #[]) ∧ ∃ k', Sl w0 w' C ({ M with touches := IntKind.i64.wrap (M.touches + 1) }.upd j k') ∧ Lk C k' (if M.signs.getD (r + 1) 0 = 0 then turnP C r [] (C.sts r) (C.fr0 r) else .await r) := by
  obtain ⟨l1, l2, l3, l4, l5, l6⟩ := hl
  have L := h.wks j hj
  have z0 : w.cell? ⟨C.wk j, 0, none⟩ = some (.pointer (some ⟨C.S, 0, none⟩)) := L.cell 0
  have z3 : w.cell? ⟨C.wk j, 3, none⟩ = some (.int .i64 (r : Nat)) := by rw [← l2]; exact L.cell 3
  have zS : w.cell? ⟨C.S, 2, none⟩ = some (.pointer (some ⟨C.g2, 0, none⟩)) := h.own.cell 2
  have hrw : (1 : Int) + (r : Int) = ((r + 1 : Nat) : Int) := by omega
  have HH := Lib.hid h
  have HWL := Lib.hid (fun V (hV : Below w.heap.size w V) => wload2 (h.kept hV) j (r + 1) hj hr)
  obtain ⟨z, hz⟩ : ∃ z, M.signs.getD (r + 1) 0 = z := ⟨_, rfl⟩
  rw [hz] at HWL ⊢
  have H3 := Lib.hid l3
  have H4 := Lib.hid l4
  have H5 := Lib.hid l5
  have H6 := Lib.hid l6
  have HL := Lib.hid (show Lk C (M.wks j) (.await r) from ⟨l1, l2, l3, l4, l5, l6⟩)
  clear h L hz l1 l2 l3 l4 l5 l6
  go_enter Tryz.func63, Tryz.ntmps63
  go_upto_region 0 with fail
  go_still_tail 13, (by kernel_rfl)
  change wpList _ _ _ _ _ w.drew
  go_wp2_with fail
  refine (HWL.out _ (Below.refl _ w).drew).mono ?_
  rintro e w2 ⟨rfl, h2, -⟩
  have H2 := Lib.hid h2
  have e2 : ({ M with touches := IntKind.i64.wrap (M.touches + 1) } : Ms).wks j = M.wks j := rfl
  by_cases hz0 : z = 0
  · subst hz0
    have HT := Lib.hid (turn_ph h2 j hj r (C.fr0 r) [] (C.sts r) H4.out H3.out H5.out H6.out hk)
    have d0 : ((0 : Int) == 0) = true := by decide
    clear h2 z0 z3 zS
    go_wp2_with fail
    refine HT.out.mono ?_
    rintro e w3 ⟨rfl, k', h3, l3⟩
    have H3' := Lib.hid h3
    have HL3 := Lib.hid l3
    clear h3 l3
    go_wp2_with fail
    go_end0
    exact ⟨rfl, k', H3'.out, HL3.out⟩
  · have d0 : (z == 0) = false := by simp [hz0]
    clear h2 z0 z3 zS
    go_wp2_with fail
    go_end0
    refine ⟨rfl, M.wks j, ?_, HL.out⟩
    have := H2.out
    have e3 : (({ M with touches := IntKind.i64.wrap (M.touches + 1) } : Ms).upd j (M.wks j)) = { M with touches := IntKind.i64.wrap (M.touches + 1) } := by
      unfold Ms.upd
      congr 1
      funext x
      by_cases hx : x = j <;> simp [hx]
    rw [e3]; exact this
end
end Go.Proofs.YtklhdilbmpndkaaGreat

namespace Go.Proofs.YtklhdilbmpndkaaGreat
set_option maxRecDepth 20000
open Go.RowKit Go.Sort
set_option linter.unusedVariables false
set_option linter.unusedSimpArgs false


section
variable {a : Nat} {f : Nat → Bool} {W K top : Nat} {obs : List Ob}
theorem adr_apart : ∀ {a : Nat} {obs : List Ob} {x y : Nat × Ob}, x ∈ adr a obs → y ∈ adr a obs → x.1 < y.1 → x.1 + 1 + x.2.2.length ≤ y.1
  | _, [], x, y, h, _, _ => by simp [adr] at h
  | a, o :: l, x, y, hx, hy, hl => by
    rw [adr] at hx hy
    rcases List.mem_cons.1 hx with rfl | hx
    · rcases List.mem_cons.1 hy with rfl | hy
      · exact absurd hl (Nat.lt_irrefl _)
      · exact adr_ge hy
    · rcases List.mem_cons.1 hy with rfl | hy
      · have := adr_ge hx; simp only at hl; omega
      · exact adr_apart hx hy hl
theorem adr_end : ∀ {a : Nat} {obs : List Ob} {x : Nat × Ob}, x ∈ adr a obs → x.1 + 1 + x.2.2.length ≤ a + (flat obs).length
  | _, [], x, h => by simp [adr] at h
  | a, o :: l, x, h => by
    rw [adr] at h
    rw [flat_cons]
    rcases List.mem_cons.1 h with rfl | h
    · simp; omega
    · have := adr_end h
      simp; omega
theorem go_le' {x : Nat × Ob} (h : x ∈ adr 0 obs) : goS f (adr 0 obs) x.1 ≤ x.1 := by
  obtain ⟨p, o⟩ := x
  have h1 := ahead_le h
  have h2 := sumL_imp (p := fun y => keepB f y && decide (y.1 < p)) (q := fun y => decide (y.1 < p)) (adr 0 obs) (fun y _ hy => by simp at hy ⊢; exact hy.2)
  show sumL ((adr 0 obs).filter fun y => keepB f y && decide (y.1 < p)) ≤ p
  omega
/-- Where regions up to an object's own begin. -/
theorem first_le_at {x : Nat × Ob} (h : x ∈ adr 0 obs) {k : Nat} (hk : k ≤ x.1 / W) : firstR f W (adr 0 obs) k ≤ x.1 := by
  have h1 := first_mono (f := f) (W := W) (L := adr 0 obs) hk
  have h2 := go_sum (f := f) (n := W) (L := adr 0 obs) (p := x.1)
  have h3 := go_le' (f := f) h
  omega
/-- An object stands in the way of later regions alone. -/
theorem awL_after {x : Nat × Ob} (h : x ∈ adr 0 obs) {k : Nat} (hk : k ∈ awL f W K (adr 0 obs) x) : x.1 / W < k := by
  unfold awL at hk
  rw [List.mem_filter] at hk
  obtain ⟨_, h2⟩ := hk
  simp only [Bool.and_eq_true, decide_eq_true_eq] at h2
  rcases Nat.lt_or_ge (x.1 / W) k with h3 | h3
  · exact h3
  · have h4 := first_le_at (f := f) h (show k + 1 ≤ x.1 / W by omega)
    omega
/-- What stands in no region's way is not where that region's objects go. -/
theorem awL_not {x : Nat × Ob} {k : Nat} (hk : k < K) (hne : k ≠ x.1 / W) (hl : 0 < liveR f W k (adr 0 obs)) (hn : k ∉ awL f W K (adr 0 obs) x) : firstR f W (adr 0 obs) (k + 1) ≤ x.1 ∨ x.1 + x.2.2.length < firstR f W (adr 0 obs) k := by
  unfold awL at hn
  rw [List.mem_filter] at hn
  rcases Nat.lt_or_ge x.1 (firstR f W (adr 0 obs) (k + 1)) with h1 | h1
  · rcases Nat.lt_or_ge (x.1 + x.2.2.length) (firstR f W (adr 0 obs) k) with h2 | h2
    · exact .inr h2
    · exact absurd ⟨List.mem_range.2 hk, by simp [hne, hl, h1, h2]⟩ hn
  · exact .inl h1
theorem bg_le {x : Nat × Ob} (h : x ∈ adr 0 obs) {k : Nat} (hk : k ≤ x.1 / W) : bgR W (adr 0 obs) top k ≤ x.1 := by
  unfold bgR
  cases e : (adr 0 obs).find? fun x => decide (k ≤ x.1 / W) with
  | none => rw [List.find?_eq_none] at e; have := e x h; simp at this; omega
  | some y =>
    show y.1 ≤ x.1
    have hs := adr_sorted 0 obs
    rw [List.find?_eq_some_iff_append] at e
    obtain ⟨_, us, vs, e2, h3⟩ := e
    rw [e2] at h hs
    rcases List.mem_append.1 h with h4 | h4
    · have := h3 x h4; simp at this; omega
    · rcases List.mem_cons.1 h4 with rfl | h5
      · exact Nat.le_refl _
      · rw [List.pairwise_append] at hs
        have := (List.pairwise_cons.1 hs.2.1).1 x h5
        omega
theorem bg_ge {x : Nat × Ob} (ht : (flat obs).length = top) (h : x ∈ adr 0 obs) {k : Nat} (hk : x.1 / W < k) : x.1 + 1 + x.2.2.length ≤ bgR W (adr 0 obs) top k := by
  unfold bgR
  cases e : (adr 0 obs).find? fun x => decide (k ≤ x.1 / W) with
  | none => show _ ≤ top; have := adr_end h; omega
  | some y =>
    show _ ≤ y.1
    have h1 := List.find?_some e
    have h2 := List.mem_of_find?_eq_some e
    simp at h1
    refine adr_apart h h2 ?_
    rcases Nat.lt_or_ge x.1 y.1 with h3 | h3
    · exact h3
    · have := Nat.div_le_div_right (c := W) h3; omega
theorem bg_top (ht : (flat obs).length = top) (k : Nat) : bgR W (adr 0 obs) top k ≤ top := by
  unfold bgR
  cases e : (adr 0 obs).find? fun x => decide (k ≤ x.1 / W) with
  | none => exact Nat.le_refl _
  | some y => have := adr_lt (List.mem_of_find?_eq_some e); show y.1 ≤ top; omega
theorem bg_mono (ht : (flat obs).length = top) {i j : Nat} (h : i ≤ j) : bgR W (adr 0 obs) top i ≤ bgR W (adr 0 obs) top j := by
  cases e : (adr 0 obs).find? fun x => decide (j ≤ x.1 / W) with
  | none =>
    have : bgR W (adr 0 obs) top j = top := by unfold bgR; rw [e]; rfl
    rw [this]; exact bg_top ht i
  | some y =>
    have : bgR W (adr 0 obs) top j = y.1 := by unfold bgR; rw [e]; rfl
    rw [this]
    have h1 := List.find?_some e
    simp at h1
    exact bg_le (List.mem_of_find?_eq_some e) (by omega)
theorem bg_zero (ht : (flat obs).length = top) : bgR W (adr 0 obs) top 0 = 0 := by
  cases obs with
  | nil => simp [flat] at ht; subst ht; rfl
  | cons o l => simp [bgR, adr]
theorem bg_last (ht : (flat obs).length = top) (hW : 1 ≤ W) {k : Nat} (hk : (top + W - 1) / W ≤ k) : bgR W (adr 0 obs) top k = top := by
  refine bg_none fun y hy => ?_
  have h0 := adr_lt hy
  refine Nat.lt_of_lt_of_le ?_ hk
  rw [Nat.div_lt_iff_lt_mul (by omega), Nat.mul_comm]
  have h2 := Nat.div_add_mod (top + W - 1) W
  have h3 := Nat.mod_lt (top + W - 1) (show W > 0 by omega)
  omega
end
end Go.Proofs.YtklhdilbmpndkaaGreat
