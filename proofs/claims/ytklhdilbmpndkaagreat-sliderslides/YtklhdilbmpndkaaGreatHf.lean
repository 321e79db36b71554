/- A worker touches a cell: load, add, store. load, add and store of a worker, whole. -/
import Derived.Test.YtklhdilbmpndkaaGreatGs
import Derived.Lib.QuietBelow
namespace Go.Proofs.YtklhdilbmpndkaaGreat
set_option maxRecDepth 20000
open Go.RowKit
set_option linter.unusedVariables false
set_option linter.unusedSimpArgs false


/-- All but the sliding's own block and the cells' are as they were. -/
structure Bt (C : Cx) (w w' : World) : Prop where
  os : w'.os = w.os
  tape : w'.tape = w.tape
  output : w'.output = w.output
  size : w.heap.size ≤ w'.heap.size
  block : ∀ k, k < w.heap.size → k ≠ C.S → k ≠ C.g1 → k ≠ C.gw1 → k ≠ C.g2 → k ≠ C.gw2 → w'.heap[k]? = w.heap[k]?
theorem Bt.trans {C : Cx} {a b c : World} (h : Bt C a b) (k : Bt C b c) : Bt C a c :=
  ⟨k.os.trans h.os, k.tape.trans h.tape, k.output.trans h.output, Nat.le_trans h.size k.size, fun i hi h1 h2 h3 h4 h5 => (k.block i (Nat.lt_of_lt_of_le hi h.size) h1 h2 h3 h4 h5).trans (h.block i hi h1 h2 h3 h4 h5)⟩
theorem Bt.else1 {C : Cx} {w w' : World} (h : Ce.Else C.g1 C.gw1 none w w') : Bt C w w' := ⟨h.os, h.tape, h.output, h.size, fun k hk _ h2 h3 _ _ => h.block k hk h2 h3 (by simp)⟩
theorem Bt.else2 {C : Cx} {w w' : World} (h : Ce.Else C.g2 C.gw2 none w w') : Bt C w w' := ⟨h.os, h.tape, h.output, h.size, fun k hk _ _ _ h4 h5 => h.block k hk h4 h5 (by simp)⟩
theorem Bt.set (C : Cx) (w : World) (i : Nat) (u : Value) : Bt C w (w.setCell ⟨C.S, i, none⟩ u) := ⟨rfl, rfl, rfl, by simp, fun k _ h1 _ _ _ _ => Below.heap_setCell w ⟨C.S, i, none⟩ u k h1⟩
theorem Bt.below {C : Cx} {w w' : World} (h : Below w.heap.size w w') : Bt C w w' := ⟨h.os, h.tape, h.output, h.size, fun k hk _ _ _ _ _ => h.block k hk⟩
theorem Bt.refl (C : Cx) (w : World) : Bt C w w := ⟨rfl, rfl, rfl, Nat.le_refl _, fun _ _ _ _ _ _ _ => rfl⟩
section
variable {w0 : W2} {w w' : World} {C : Cx} {M : Ms}
theorem Sl.turn (h : Sl w0 w C M) (hb : Bt C w w') {zs sg : List Int} {l t m : Int} (own : Lies w' C.S 74 [.pointer (some ⟨C.b, 0, none⟩), .pointer (some ⟨C.g1, 0, none⟩), .pointer (some ⟨C.g2, 0, none⟩), .slice (some ⟨C.sb, 0, none⟩) (C.K + 1) C.bcap, .slice (some ⟨C.wb, 0, none⟩) C.n C.wcap, .int .i64 l, .int .i64 t, .int .i64 m]) (a1 : Ce.At w' w0.heap.size C.g1 C.gw1 zs none 0 []) (a2 : Ce.At w' w0.heap.size C.g2 C.gw2 sg none 0 []) :
    Sl w0 w' C { M with cells := zs, signs := sg, left := l, touches := t, moved := m } := by
  obtain ⟨cs, h1, h2⟩ := h.wrow
  have hs := h.s_ne
  have hc := h.c_ne
  have hh := h.hi
  have hB := h.old.size
  refine ⟨h.fo, h.old.trans ⟨hb.os, hb.tape, hb.output, hb.size, fun k hk => hb.block k (by omega) (by have := h.loS; omega) (by have := h.words.lo; omega) (by have := h.words.lo'; omega) (by have := h.signs.lo; omega) (by have := h.signs.lo'; omega)⟩, own, a1, a2,
    h.bg_block fun k e => hb.block k (by rw [e]; have := h.size; omega) (by rw [e]; exact hs.2.2.2.2.1.symm) (by rw [e]; exact hc.2.2.1.symm) (by rw [e]; exact h.sw.1) (by rw [e]; exact hc.2.2.2.1.symm) (by rw [e]; exact h.sw.2),
    ⟨cs, h1.of_block (hb.block _ h1.lt hs.2.2.2.2.2.symm hc.2.2.2.2.1 hc.2.2.2.2.2.1 hc.2.2.2.2.2.2.1 hc.2.2.2.2.2.2.2.1), h2⟩, fun i hi => ?_, h.inj, fun i hi => ?_, h.gg, h.ww, h.sw, h.loS, h.low, h.hi, Nat.le_trans h.size hb.size, h.n1, h.n2, h.hi1, fun b hB1 hB2 => (hb.block b (Nat.lt_of_lt_of_le hB2 h.size) (by have := h.hi1; omega) (by have := h.hi1; omega) (by have := h.hi1; omega) (by have := h.hi1; omega) (by have := h.hi1; omega)).trans (h.hik b hB1 hB2)⟩
  · obtain ⟨n1, n2, n3, n4, n5, n6, n7⟩ := h.wk_ne hi
    exact (h.wks i hi).of_block (hb.block _ (h.wks i hi).lt n1 n2 n3 n4 n5)
  · exact ⟨(h.rows i hi).1.kept fun b hb2 hl => hb.block b hl (by omega) (by omega) (by omega) (by omega) (by omega), (h.rows i hi).2.kept fun b hb2 hl => hb.block b hl (by omega) (by omega) (by omega) (by omega) (by omega)⟩
theorem ce_block' {w w' : World} {base g gw c : Nat} {zs : List Int} {A : Option Addr} {ts : List Ce.Tc} (h : Ce.At w base g gw zs A c ts) (e : ∀ k, k < w.heap.size → k ≠ C.S → w'.heap[k]? = w.heap[k]?) (h1 : g ≠ C.S) (h2 : gw ≠ C.S) (h3 : ∀ k, blk A = some k → k ≠ C.S) : Ce.At w' base g gw zs A c ts := by
  refine ⟨h.own.of_block (e _ h.own.lt h1), h.words.of_block (e _ h.words.lt h2), Ce.owns_of_block h.log fun k hk => ?_, h.some_, h.most, h.lo, h.lo'⟩
  rw [Ce.own_blk] at hk
  exact e k (h.row_of k hk).2.1 (h3 k hk)
end

set_option maxRecDepth 100000 in
set_option maxHeartbeats 2000000 in
theorem touched1 {w0 : W2} {w w2 : World} {C : Cx} {M : Ms} (h : Sl w0 w C M) (hb : Bt C w w2) {zs : List Int} {A : Option Addr} {c : Nat} {ts : List Ce.Tc} {l : Int} (own : Lies w2 C.S 74 [.pointer (some ⟨C.b, 0, none⟩), .pointer (some ⟨C.g1, 0, none⟩), .pointer (some ⟨C.g2, 0, none⟩), .slice (some ⟨C.sb, 0, none⟩) (C.K + 1) C.bcap, .slice (some ⟨C.wb, 0, none⟩) C.n C.wcap, .int .i64 l, .int .i64 M.touches, .int .i64 M.moved]) (a1 : Ce.At w2 w0.heap.size C.g1 C.gw1 zs A c ts) (hA : ∀ k, blk A = some k → w.heap.size ≤ k) (a2 : Ce.At w2 w0.heap.size C.g2 C.gw2 M.signs none 0 []) (j : Nat) (hj : j < C.n) :
    Calls Tryz.prog 91 #[.pointer (some ⟨C.wk j, 0, none⟩), .pointer (some ⟨C.g1, 0, none⟩)] w2 fun e w' => e = .returned (.tuple #[]) ∧ Sl w0 w' C { M with cells := zs, left := l, touches := IntKind.i64.wrap (M.touches + 1) } ∧ Bt C w w' := by
  obtain ⟨n1, n2, n3, n4, n5, n6, n7⟩ := h.wk_ne hj
  obtain ⟨s1, s2, s3, s4, s5, s6⟩ := h.s_ne
  obtain ⟨k1, k2, k3, k4, k5, k6, k7, k8, k9⟩ := h.c_ne
  have hgg := h.gg
  have hww := h.ww
  have hsl := h.own.lt
  have LW := (h.wks j hj).of_block (hb.block _ (h.wks j hj).lt n1 n2 n3 n4 n5)
  have c0 : w2.cell? ⟨C.wk j, 0, none⟩ = some (.pointer (some ⟨C.S, 0, none⟩)) := LW.cell 0
  have c1 : w2.cell? ⟨C.S, 6, none⟩ = some (.int .i64 M.touches) := own.cell 6
  have c2 := own.frozen 6
  have c3 := own.lt
  obtain ⟨tt, htt⟩ : ∃ tt, IntKind.i64.wrap (M.touches + 1) = tt := ⟨_, rfl⟩
  have own3 := own.set 6 (.int .i64 tt)
  have e3 : ∀ k, k < w2.heap.size → k ≠ C.S → (w2.setCell ⟨C.S, 6, none⟩ (.int .i64 tt)).heap[k]? = w2.heap[k]? := fun k _ hk => Below.heap_setCell w2 ⟨C.S, 6, none⟩ _ k hk
  have A1 := ce_block' a1 e3 (by omega) (by omega) (fun k hk => by have := hA k hk; omega)
  have A2 := ce_block' a2 e3 (by omega) (by omega) (fun k hk => by cases hk)
  have HCL := Lib.hid (Ce.clear_any A1)
  have HB3 := Lib.hid (hb.trans (Bt.set C w2 6 (.int .i64 tt)))
  have HO := Lib.hid own3
  have HA2 := Lib.hid A2
  have HH := Lib.hid h
  obtain ⟨w3, hw3⟩ : ∃ w3, w2.setCell ⟨C.S, 6, none⟩ (.int .i64 tt) = w3 := ⟨_, rfl⟩
  rw [hw3] at HCL HB3 HO HA2
  have HW3 := Lib.hid hw3
  rw [htt]
  have HTT := Lib.hid htt
  clear own3 e3 A1 A2 LW own a1 a2 hA hb h hw3
  go_enter Tryz.func91, Tryz.ntmps91
  go_upto_region 1 with fail
  rw [HW3.out]
  go_wp2_with fail
  refine HCL.out.mono ?_
  rintro e w4 ⟨rfl, A4, E4⟩
  have hB4 := HB3.out.trans (Bt.else1 E4)
  have O4 := HO.out.of_block (E4.block _ HO.out.lt (by omega) (by omega) (by simp))
  have A5 : Ce.At w4 w0.heap.size C.g2 C.gw2 M.signs none 0 [] := ce_block HA2.out (E4.block _ HA2.out.own.lt (by omega) (by omega) (by simp)) (E4.block _ HA2.out.words.lt (by omega) (by omega) (by simp))
  have HSL := Lib.hid (HH.out.turn hB4 O4 A4 A5)
  have HB := Lib.hid hB4
  clear A4 E4 O4 A5 hB4
  go_wp2_with fail
  go_end0
  exact ⟨rfl, HSL.out, HB.out⟩

set_option maxRecDepth 100000 in
set_option maxHeartbeats 2000000 in
theorem touched2 {w0 : W2} {w w2 : World} {C : Cx} {M : Ms} (h : Sl w0 w C M) (hb : Bt C w w2) {zs : List Int} {A : Option Addr} {c : Nat} {ts : List Ce.Tc} {l : Int} (own : Lies w2 C.S 74 [.pointer (some ⟨C.b, 0, none⟩), .pointer (some ⟨C.g1, 0, none⟩), .pointer (some ⟨C.g2, 0, none⟩), .slice (some ⟨C.sb, 0, none⟩) (C.K + 1) C.bcap, .slice (some ⟨C.wb, 0, none⟩) C.n C.wcap, .int .i64 l, .int .i64 M.touches, .int .i64 M.moved]) (a1 : Ce.At w2 w0.heap.size C.g2 C.gw2 zs A c ts) (hA : ∀ k, blk A = some k → w.heap.size ≤ k) (a2 : Ce.At w2 w0.heap.size C.g1 C.gw1 M.cells none 0 []) (j : Nat) (hj : j < C.n) :
    Calls Tryz.prog 91 #[.pointer (some ⟨C.wk j, 0, none⟩), .pointer (some ⟨C.g2, 0, none⟩)] w2 fun e w' => e = .returned (.tuple #[]) ∧ Sl w0 w' C { M with signs := zs, left := l, touches := IntKind.i64.wrap (M.touches + 1) } ∧ Bt C w w' := by
  obtain ⟨n1, n2, n3, n4, n5, n6, n7⟩ := h.wk_ne hj
  obtain ⟨s1, s2, s3, s4, s5, s6⟩ := h.s_ne
  obtain ⟨k1, k2, k3, k4, k5, k6, k7, k8, k9⟩ := h.c_ne
  have hgg := h.gg
  have hww := h.ww
  have hsl := h.own.lt
  have LW := (h.wks j hj).of_block (hb.block _ (h.wks j hj).lt n1 n2 n3 n4 n5)
  have c0 : w2.cell? ⟨C.wk j, 0, none⟩ = some (.pointer (some ⟨C.S, 0, none⟩)) := LW.cell 0
  have c1 : w2.cell? ⟨C.S, 6, none⟩ = some (.int .i64 M.touches) := own.cell 6
  have c2 := own.frozen 6
  have c3 := own.lt
  obtain ⟨tt, htt⟩ : ∃ tt, IntKind.i64.wrap (M.touches + 1) = tt := ⟨_, rfl⟩
  have own3 := own.set 6 (.int .i64 tt)
  have e3 : ∀ k, k < w2.heap.size → k ≠ C.S → (w2.setCell ⟨C.S, 6, none⟩ (.int .i64 tt)).heap[k]? = w2.heap[k]? := fun k _ hk => Below.heap_setCell w2 ⟨C.S, 6, none⟩ _ k hk
  have A1 := ce_block' a1 e3 (by omega) (by omega) (fun k hk => by have := hA k hk; omega)
  have A2 := ce_block' a2 e3 (by omega) (by omega) (fun k hk => by cases hk)
  have HCL := Lib.hid (Ce.clear_any A1)
  have HB3 := Lib.hid (hb.trans (Bt.set C w2 6 (.int .i64 tt)))
  have HO := Lib.hid own3
  have HA2 := Lib.hid A2
  have HH := Lib.hid h
  obtain ⟨w3, hw3⟩ : ∃ w3, w2.setCell ⟨C.S, 6, none⟩ (.int .i64 tt) = w3 := ⟨_, rfl⟩
  rw [hw3] at HCL HB3 HO HA2
  have HW3 := Lib.hid hw3
  rw [htt]
  have HTT := Lib.hid htt
  clear own3 e3 A1 A2 LW own a1 a2 hA hb h hw3
  go_enter Tryz.func91, Tryz.ntmps91
  go_upto_region 1 with fail
  rw [HW3.out]
  go_wp2_with fail
  refine HCL.out.mono ?_
  rintro e w4 ⟨rfl, A4, E4⟩
  have hB4 := HB3.out.trans (Bt.else2 E4)
  have O4 := HO.out.of_block (E4.block _ HO.out.lt (by omega) (by omega) (by simp))
  have A5 : Ce.At w4 w0.heap.size C.g1 C.gw1 M.cells none 0 [] := ce_block HA2.out (E4.block _ HA2.out.own.lt (by omega) (by omega) (by simp)) (E4.block _ HA2.out.words.lt (by omega) (by omega) (by simp))
  have HSL := Lib.hid (HH.out.turn hB4 O4 A5 A4)
  have HB := Lib.hid hB4
  clear A4 E4 O4 A5 hB4
  go_wp2_with fail
  go_end0
  exact ⟨rfl, HSL.out, HB.out⟩
end Go.Proofs.YtklhdilbmpndkaaGreat

namespace Go.Proofs.YtklhdilbmpndkaaGreat
set_option maxRecDepth 20000
open Go.RowKit Go.Sort
set_option linter.unusedVariables false
set_option linter.unusedSimpArgs false


theorem did_parts {w w' : World} {base g gw : Nat} {zs : List Int} {ts : List Ce.Tc} (d : Ce.Did w w' base g gw none zs ts) : ∃ A c, Ce.At w' base g gw zs A c ts ∧ Ce.Else g gw none w w' ∧ ∀ k, blk A = some k → w.heap.size ≤ k := by
  obtain ⟨A, c, h1, h2, h3⟩ := d
  refine ⟨A, c, h1, h2, fun k hk => ?_⟩
  have hk' : Ce.blk A = some k := hk
  rcases h3 with h | ⟨q, h, hq⟩
  · rw [h] at hk'; cases hk'
  · rw [h] at hk'; injection hk' with e; omega
section
variable {w0 : W2} {w : World} {C : Cx} {M : Ms}

set_option maxRecDepth 100000 in
set_option maxHeartbeats 2000000 in
theorem wload1 (h : Sl w0 w C M) (j p : Nat) (hj : j < C.n) (hp : p < M.cells.length) : Calls Tryz.prog 94 #[.pointer (some ⟨C.wk j, 0, none⟩), .pointer (some ⟨C.g1, 0, none⟩), .int .i64 (p : Nat)] w fun e w' => e = .returned (.int .i64 (M.cells.getD p 0)) ∧ Sl w0 w' C { M with touches := IntKind.i64.wrap (M.touches + 1) } ∧ Bt C w w' := by
  have hn := h.n2
  have c0 : w.cell? ⟨C.wk j, 1, none⟩ = some (.int .i64 (j : Nat)) := (h.wks j hj).cell 1
  obtain ⟨z, hz⟩ : ∃ z, M.cells.getD p 0 = z := ⟨_, rfl⟩
  have HL := Lib.hid (Ce.load_yes h.words (by simp) (j : Int) p (by omega) (by omega) hp z hz)
  rw [hz]
  have HH := Lib.hid h
  clear h hz
  go_enter Tryz.func94, Tryz.ntmps94
  go_wp2_with fail
  refine HL.out.mono ?_
  rintro e w2 ⟨rfl, D⟩
  obtain ⟨A, c, A2, E2, hA⟩ := did_parts D
  obtain ⟨s1, s2, s3, s4, s5, s6⟩ := HH.out.s_ne
  obtain ⟨k1, k2, k3, k4, k5, k6, k7, k8, k9⟩ := HH.out.c_ne
  have hgg := HH.out.gg
  have hww := HH.out.ww
  have HT := Lib.hid (touched1 HH.out (Bt.else1 E2) (HH.out.own.of_block (E2.block _ HH.out.own.lt (by omega) (by omega) (by simp))) A2 hA (ce_block HH.out.signs (E2.block _ HH.out.signs.own.lt (by omega) (by omega) (by simp)) (E2.block _ HH.out.signs.words.lt (by omega) (by omega) (by simp))) j hj)
  clear D A2 E2 hA HL c0
  go_wp2_with fail
  refine HT.out.mono ?_
  rintro e w3 ⟨rfl, h3, b3⟩
  have H3 := Lib.hid h3
  have HB3 := Lib.hid b3
  clear h3 b3 HT
  go_wp2_with fail
  go_ret
  exact ⟨rfl, H3.out, HB3.out⟩

set_option maxRecDepth 100000 in
set_option maxHeartbeats 2000000 in
theorem wload2 (h : Sl w0 w C M) (j p : Nat) (hj : j < C.n) (hp : p < M.signs.length) : Calls Tryz.prog 94 #[.pointer (some ⟨C.wk j, 0, none⟩), .pointer (some ⟨C.g2, 0, none⟩), .int .i64 (p : Nat)] w fun e w' => e = .returned (.int .i64 (M.signs.getD p 0)) ∧ Sl w0 w' C { M with touches := IntKind.i64.wrap (M.touches + 1) } ∧ Bt C w w' := by
  have hn := h.n2
  have c0 : w.cell? ⟨C.wk j, 1, none⟩ = some (.int .i64 (j : Nat)) := (h.wks j hj).cell 1
  obtain ⟨z, hz⟩ : ∃ z, M.signs.getD p 0 = z := ⟨_, rfl⟩
  have HL := Lib.hid (Ce.load_yes h.signs (by simp) (j : Int) p (by omega) (by omega) hp z hz)
  rw [hz]
  have HH := Lib.hid h
  clear h hz
  go_enter Tryz.func94, Tryz.ntmps94
  go_wp2_with fail
  refine HL.out.mono ?_
  rintro e w2 ⟨rfl, D⟩
  obtain ⟨A, c, A2, E2, hA⟩ := did_parts D
  obtain ⟨s1, s2, s3, s4, s5, s6⟩ := HH.out.s_ne
  obtain ⟨k1, k2, k3, k4, k5, k6, k7, k8, k9⟩ := HH.out.c_ne
  have hgg := HH.out.gg
  have hww := HH.out.ww
  have HT := Lib.hid (touched2 HH.out (Bt.else2 E2) (HH.out.own.of_block (E2.block _ HH.out.own.lt (by omega) (by omega) (by simp))) A2 hA (ce_block HH.out.words (E2.block _ HH.out.words.own.lt (by omega) (by omega) (by simp)) (E2.block _ HH.out.words.words.lt (by omega) (by omega) (by simp))) j hj)
  clear D A2 E2 hA HL c0
  go_wp2_with fail
  refine HT.out.mono ?_
  rintro e w3 ⟨rfl, h3, b3⟩
  have H3 := Lib.hid h3
  have HB3 := Lib.hid b3
  clear h3 b3 HT
  go_wp2_with fail
  go_ret
  exact ⟨rfl, H3.out, HB3.out⟩

set_option maxRecDepth 100000 in
set_option maxHeartbeats 2000000 in
theorem wadd2 (h : Sl w0 w C M) (j p : Nat) (n : Int) (hj : j < C.n) (hp : p < M.signs.length) : Calls Tryz.prog 60 #[.pointer (some ⟨C.wk j, 0, none⟩), .pointer (some ⟨C.g2, 0, none⟩), .int .i64 (p : Nat), .int .i64 n] w fun e w' => e = .returned (.int .i64 (M.signs.getD p 0)) ∧ Sl w0 w' C { M with signs := M.signs.set p (wrap64 (M.signs.getD p 0 + n)), touches := IntKind.i64.wrap (M.touches + 1) } ∧ Bt C w w' := by
  have hn := h.n2
  have c0 : w.cell? ⟨C.wk j, 1, none⟩ = some (.int .i64 (j : Nat)) := (h.wks j hj).cell 1
  obtain ⟨z, hz⟩ : ∃ z, M.signs.getD p 0 = z := ⟨_, rfl⟩
  have HL := Lib.hid (Ce.add_yes h.signs (by simp) (j : Int) p n (by omega) (by omega) hp z hz)
  rw [hz]
  have HH := Lib.hid h
  clear h hz
  go_enter Tryz.func60, Tryz.ntmps60
  go_wp2_with fail
  refine HL.out.mono ?_
  rintro e w2 ⟨rfl, D⟩
  obtain ⟨A, c, A2, E2, hA⟩ := did_parts D
  obtain ⟨s1, s2, s3, s4, s5, s6⟩ := HH.out.s_ne
  obtain ⟨k1, k2, k3, k4, k5, k6, k7, k8, k9⟩ := HH.out.c_ne
  have hgg := HH.out.gg
  have hww := HH.out.ww
  have HT := Lib.hid (touched2 HH.out (Bt.else2 E2) (HH.out.own.of_block (E2.block _ HH.out.own.lt (by omega) (by omega) (by simp))) A2 hA (ce_block HH.out.words (E2.block _ HH.out.words.own.lt (by omega) (by omega) (by simp)) (E2.block _ HH.out.words.words.lt (by omega) (by omega) (by simp))) j hj)
  clear D A2 E2 hA HL c0
  go_wp2_with fail
  refine HT.out.mono ?_
  rintro e w3 ⟨rfl, h3, b3⟩
  have H3 := Lib.hid h3
  have HB3 := Lib.hid b3
  clear h3 b3 HT
  go_wp2_with fail
  go_ret
  exact ⟨rfl, H3.out, HB3.out⟩

set_option maxRecDepth 100000 in
set_option maxHeartbeats 2000000 in
theorem wstore1 (h : Sl w0 w C M) (j p : Nat) (x : Int) (hj : j < C.n) (hp : p < M.cells.length) : Calls Tryz.prog 108 #[.pointer (some ⟨C.wk j, 0, none⟩), .int .i64 (p : Nat), .int .i64 x] w fun e w' => e = .returned (.tuple #[]) ∧ Sl w0 w' C { M with cells := M.cells.set p x, left := IntKind.i64.wrap (M.left - 1), touches := IntKind.i64.wrap (M.touches + 1) } ∧ Bt C w w' := by
  have hn := h.n2
  have z0 : w.cell? ⟨C.wk j, 0, none⟩ = some (.pointer (some ⟨C.S, 0, none⟩)) := (h.wks j hj).cell 0
  have z1 : w.cell? ⟨C.wk j, 1, none⟩ = some (.int .i64 (j : Nat)) := (h.wks j hj).cell 1
  have z2 : w.cell? ⟨C.S, 1, none⟩ = some (.pointer (some ⟨C.g1, 0, none⟩)) := h.own.cell 1
  have HH := Lib.hid h
  obtain ⟨L0, hL0⟩ : ∃ L0, M.left = L0 := ⟨_, rfl⟩
  obtain ⟨l1, hl1⟩ : ∃ l1, IntKind.i64.wrap (L0 - 1) = l1 := ⟨_, rfl⟩
  rw [hL0, hl1]
  have HL0 := Lib.hid hL0
  have HL1 := Lib.hid hl1
  clear h hL0 hl1
  go_enter Tryz.func108, Tryz.ntmps108
  go_upto_region 0 with fail
  have b1 : Below w.heap.size w w.drew := (Below.refl _ w).drew
  have HST := Lib.hid (Ce.store_yes (HH.out.kept b1).words (by simp) (j : Int) p x (by omega) (by omega) hp)
  go_still_tail 13, (by kernel_rfl)
  change wpList _ _ _ _ _ w.drew
  go_wp2_with fail
  refine HST.out.mono ?_
  rintro e w2 ⟨rfl, D⟩
  obtain ⟨A, c, A2, E2, hA⟩ := did_parts D
  have h1 := HH.out.kept b1
  obtain ⟨n1, n2, n3, n4, n5, n6, n7⟩ := h1.wk_ne hj
  obtain ⟨s1, s2, s3, s4, s5, s6⟩ := h1.s_ne
  obtain ⟨k1, k2, k3, k4, k5, k6, k7, k8, k9⟩ := h1.c_ne
  have hgg := h1.gg
  have hww := h1.ww
  have hsl := h1.own.lt
  have HH1 := Lib.hid h1
  have hl := HL0.out
  have own2 := h1.own.of_block (E2.block _ h1.own.lt (by omega) (by omega) (by simp))
  rw [hl] at own2
  have LW := (h1.wks j hj).of_block (E2.block _ (h1.wks j hj).lt (by omega) (by omega) (by simp))
  have own3 := own2.set 5 (.int .i64 l1)
  have e3 : ∀ k, k < w2.heap.size → k ≠ C.S → (w2.setCell ⟨C.S, 5, none⟩ (.int .i64 l1)).heap[k]? = w2.heap[k]? := fun k _ hk => Below.heap_setCell w2 ⟨C.S, 5, none⟩ _ k hk
  have A3 := ce_block' A2 e3 (by omega) (by omega) (fun k hk => by have := hA k hk; omega)
  have A4 := ce_block' (ce_block h1.signs (E2.block _ h1.signs.own.lt (by omega) (by omega) (by simp)) (E2.block _ h1.signs.words.lt (by omega) (by omega) (by simp))) e3 (by omega) (by omega) (fun k hk => by cases hk)
  have HB3 := Lib.hid ((Bt.else1 E2).trans (Bt.set C w2 5 (.int .i64 l1)))
  have c0 : w2.cell? ⟨C.wk j, 0, none⟩ = some (.pointer (some ⟨C.S, 0, none⟩)) := LW.cell 0
  have c1 : w2.cell? ⟨C.S, 5, none⟩ = some (.int .i64 L0) := own2.cell 5
  have c2 := own2.frozen 5
  have c3 := own2.lt
  have HT := Lib.hid (touched1 h1 HB3.out own3 A3 hA A4 j hj)
  have LW3 := LW.far (p := ⟨C.S, 5, none⟩) n1 (.int .i64 l1)
  obtain ⟨w3, hw3⟩ : ∃ w3, w2.setCell ⟨C.S, 5, none⟩ (.int .i64 l1) = w3 := ⟨_, rfl⟩
  have HW3 := Lib.hid hw3
  rw [hw3] at own3 HT LW3
  have x0 : w3.cell? ⟨C.wk j, 0, none⟩ = some (.pointer (some ⟨C.S, 0, none⟩)) := LW3.cell 0
  have x1 : w3.cell? ⟨C.S, 1, none⟩ = some (.pointer (some ⟨C.g1, 0, none⟩)) := own3.cell 1
  have HL1' := HL1.out
  clear D A2 E2 hA h1 own2 LW own3 e3 A3 A4 hw3 LW3 HST z0 z1 z2 hl
  go_upto_region 2 with fail
  rw [HW3.out]
  go_wp2_with fail
  refine HT.out.mono ?_
  rintro e w4 ⟨rfl, h4, b4⟩
  have H4 := Lib.hid h4
  have HB4 := Lib.hid ((Bt.below (C := C) b1).trans b4)
  clear h4 b4 HT
  go_wp2_with fail
  go_end0
  exact ⟨rfl, H4.out, HB4.out⟩
end
end Go.Proofs.YtklhdilbmpndkaaGreat
