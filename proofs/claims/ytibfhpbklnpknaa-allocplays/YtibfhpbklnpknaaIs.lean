/- What Is answers where the heap and the reference's heap hold the same objects. -/
import Derived.Test.YtibfhpbklnpknaaIs1
import Derived.Test.YtibfhpbklnpknaaRefs
namespace Go.Proofs.Ytibfhpbklnpknaa
open Go.RowKit Go.Sort
set_option linter.unusedVariables false
set_option linter.unusedSimpArgs false

/-- While Is goes through. -/
structure JI (w : World) (g gw gb bW bm bi bo : Nat) (s : Int) (A : Option Addr) (n c : Nat) (obs : List Ob) (tail : List Int) (pre : List Ob) (W : World) : Prop where
  st : St W g gw gb obs tail
  walk : Lies W bW 26 [.pointer (some ⟨g, 0, none⟩)]
  box : Lies W bm 36 [.int .i64 s, .slice A n c]
  i : Lies W bi 3 [.int .i64 (pre.length : Nat)]
  ok : Lies W bo 4 [.bool true]
  old : Below w.heap.size w W

theorem JI.kept {w W W' : World} {g gw gb bW bm bi bo n c : Nat} {s : Int} {A : Option Addr} {obs pre : List Ob} {tail : List Int} (h : JI w g gw gb bW bm bi bo s A n c obs tail pre W) (hb : Below W.heap.size W W') : JI w g gw gb bW bm bi bo s A n c obs tail pre W' :=
  ⟨h.st.kept hb, h.walk.below hb h.walk.lt, h.box.below hb h.box.lt, h.i.below hb h.i.lt, h.ok.below hb h.ok.lt, on h.old h.old.size hb⟩

theorem JI.step {w W : World} {g gw gb bW bm bi bo n c : Nat} {s : Int} {A : Option Addr} {obs pre post : List Ob} {tail : List Int} {o : Ob} (h : JI w g gw gb bW bm bi bo s A n c obs tail pre W) (T : Things w A obs) (he : obs = pre ++ o :: post) (hn : obs.length = n) (hn6 : n ≤ 65536)
    (k1 : gw < w.heap.size) (k2 : gb < w.heap.size) (w1 : w.heap.size ≤ bi) (w2 : w.heap.size ≤ bo) (B : Nat) (b1 : bi < B) (b2 : bo < B) :
    Calls Try.prog 38 #[.int .i64 ((flat pre).length : Nat), .agg #[.int .i64 (o.1 % 16), .int .i64 (o.1 / 65536), .int .i64 (o.1 % 65536 / 16)], .pointer (some ⟨bo, 0, none⟩), .pointer (some ⟨bi, 0, none⟩), .pointer (some ⟨bm, 0, none⟩)] W fun e W' =>
      e = .returned (.bool true) ∧ JI w g gw gb bW bm bi bo s A n c obs tail (pre ++ [o]) W' ∧ Above B W W' := by
  have ho : obs[pre.length]? = some o := by rw [he]; simp
  have hN : atI obs pre.length = (flat pre).length := by unfold atI; rw [he]; simp
  refine (is1_any s pre.length _ n c T h.old ho hN hn hn6 h.ok h.i h.box w2 w1).mono fun e W' ⟨he', a1, a2, a4⟩ => ⟨he', ⟨⟨h.st.fine, ?_⟩, ?_, ?_, ?_, a1, ?_⟩, ⟨a4.size, fun j h1 h2 => a4.block j h2 (by omega) (by omega) (by omega)⟩⟩
  · have H := h.st.lies
    have e1 : g ≠ bi := H.own.apart h.i (by decide)
    have e2 : gb ≠ bi := H.begins.apart h.i (by decide)
    exact ⟨H.own.of_block (a4.block _ H.own.lt (H.own.apart h.ok (by decide)) e1 e1), H.words.of_block (a4.block _ H.words.lt (H.words.apart h.ok (by decide)) (by omega) (by omega)), H.begins.of_block (a4.block _ H.begins.lt (by omega) e2 e2), H.same, H.some_, H.most, H.fits⟩
  · have e1 : bW ≠ bi := h.walk.apart h.i (by decide)
    exact h.walk.of_block (a4.block _ h.walk.lt (h.walk.apart h.ok (by decide)) e1 e1)
  · have e1 : bm ≠ bi := h.box.apart h.i (by decide)
    exact h.box.of_block (a4.block _ h.box.lt (h.box.apart h.ok (by decide)) e1 e1)
  · simpa using a2
  · exact h.old.trans (a4.below h.old.size w2 w1 w1)

theorem JI.cells {w W : World} {g gw gb bW bm bi bo n c : Nat} {s : Int} {A : Option Addr} {obs : List Ob} {tail : List Int} (h : JI w g gw gb bW bm bi bo s A n c obs tail obs W) (hn : obs.length = n) :
    W.cell? ⟨bm, 0, none⟩ = some (.int .i64 s) ∧ W.cell? ⟨bm, 1, none⟩ = some (.slice A n c) ∧ W.cell? ⟨bi, 0, none⟩ = some (.int .i64 (n : Int)) ∧ W.cell? ⟨bo, 0, none⟩ = some (.bool true) :=
  ⟨h.box.cell 0, h.box.cell 1, by rw [← hn]; exact h.i.cell 0, h.ok.cell 0⟩

theorem Row.front {w : World} {A : Option Addr} {xs ys : List Int} (h : Row w A (xs ++ ys)) : Row w A xs := fun h0 => by
  obtain ⟨ad, e, hl, hc⟩ := h (by simp; omega)
  refine ⟨ad, e, hl, fun j v hv => hc j v ?_⟩
  have hj := (List.getElem?_eq_some_iff.1 hv).1
  rw [List.map_append, List.getElem?_append_left hj]
  exact hv

theorem size_z {w : World} {g gw gb : Nat} {obs : List Ob} {tail : List Int} (S : St w g gw gb obs tail) (Z : Nat) (hZ : (flat obs ++ tail).length = Z) :
    Calls Try.prog 36 #[.pointer (some ⟨g, 0, none⟩)] w fun e w' => e = .returned (.int .i64 (Z : Int)) ∧ w' = w := by
  subst hZ
  exact (size_any S.lies).mono fun _ _ h => ⟨h.1, h.2.symm⟩

set_option maxRecDepth 100000 in
set_option maxHeartbeats 400000 in
theorem is_any {w : World} {g gw gb : Nat} {obs : List Ob} {tail : List Int} {A : Option Addr} (S : St w g gw gb obs tail) (T : Things w A obs) (hW : Within obs) (n c Z : Nat) (hn : obs.length = n) (hZ : (flat obs ++ tail).length = Z) :
    Calls Try.prog 19 #[.pointer (some ⟨g, 0, none⟩), .agg #[.int .i64 (Z : Int), .slice A n c]] w fun e w' => e = .returned (.bool true) ∧ Below w.heap.size w w' := by
  have hnil := fun W g => nil_ne W g
  have hZ6 : Z ≤ 65536 := by rw [← hZ]; exact S.lies.most
  have hfl : (flat obs).length ≤ 65536 := by have := S.lies.most; simp at this; omega
  have hn6 : n ≤ 65536 := by have := count_le obs; omega
  obtain ⟨N, hN⟩ : ∃ N, (flat obs).length = N := ⟨_, rfl⟩
  have hNZ : N ≤ Z := by rw [← hN, ← hZ]; simp
  have HN := Lib.hid hN
  have HZ := Lib.hid hZ
  have Hn := Lib.hid hn
  have HW := Lib.hid hW
  have HFL := Lib.hid hfl
  have b0 : Below w.heap.size w (w.alloc (.cells #[.int .i64 (Z : Int), .slice A n c] 36)).drew := by
    have h1 := (Below.refl w.heap.size w).alloc (Nat.le_refl _) (.cells #[.int .i64 (Z : Int), .slice A n c] 36)
    exact ⟨h1.os, h1.tape, h1.output, h1.size, h1.block⟩
  have S1 := S.kept b0
  have T1 := T.kept b0
  have L1 := (Lies.new w 36 [.int .i64 (Z : Int), .slice A n c]).drew
  have x0 : (w.alloc (.cells #[.int .i64 (Z : Int), .slice A n c] 36)).drew.cell? ⟨w.heap.size, 0, none⟩ = some (.int .i64 (Z : Int)) := L1.cell 0
  have x1 : (w.alloc (.cells #[.int .i64 (Z : Int), .slice A n c] 36)).drew.cell? ⟨w.heap.size, 1, none⟩ = some (.slice A n c) := L1.cell 1
  have hts : N = (flat obs).length := HN.out.symm
  have HRT : ∀ W, Things W A obs → Calls Try.prog 35 #[.agg #[.int .i64 (Z : Int), .slice A n c]] W fun e w' => e = .returned (.int .i64 (N : Int)) ∧ Below W.heap.size W w' := fun W hT => by
    have := rtop_any (Z : Int) n c S.fine hT Hn.out HFL.out
    rw [HN.out] at this
    exact this
  have HRTh := Lib.hid HRT
  clear hN hZ hn hW hfl hts HRT
  have eZ : ((Z : Int) != (Z : Int)) = false := by simp
  have eN : ((N : Int) != (N : Int)) = false := by simp
  go_enter Try.func19, Try.ntmps19
  go_wp2_with fail
  go_region_held3 (fun W => W.cell? ⟨w.heap.size, 0, none⟩ = some (.int .i64 (Z : Int)) ∧ W.cell? ⟨w.heap.size, 1, none⟩ = some (.slice A n c))
    (first | go_keep | exact ⟨hS2.cell 0, hS2.cell 1⟩ | exact ⟨hS3.cell 0, hS3.cell 1⟩)
    ((first
    | (go_at_call 36; refine (size_z S1 Z HZ.out).mono ?_; rintro e w' ⟨rfl, rfl⟩)
    | (go_at_call 23; refine (top_n S1 N HN.out).mono ?_; rintro e w' ⟨rfl, rfl⟩)
    | (go_at_call 35; refine (HRTh.out _ T1).mono ?_; rintro e w2 ⟨rfl, hb2⟩; have hS2 := L1.below hb2 L1.lt; have S2 := S1.kept hb2; have HB2 := Lib.hid hb2; clear hb2)
    | (go_at_call 24; refine (words_z S2 Z HZ.out).mono ?_; rintro e w3 ⟨rfl, hL3, hb3⟩; have hS3 := hS2.below hb3 hS2.lt; have S3 := S2.kept hb3; have HB3 := Lib.hid hb3; clear hb3 hL3)
    | fail))
  have B3 : Below w.heap.size w w3 := on (on b0 b0.size HB2.out) (by have := b0.size; have := HB2.out.size; omega) HB3.out
  have z1 := S.lies.words.lt
  have z2 := S.lies.begins.lt
  have z3 := B3.size
  have z4 := hS3.lt
  clear x0 x1 hS2 S2 S1 L1 b0 HB2 HB3 T1 HRTh
  go_wp2_with fail
  refine walk_any.mono ?_
  rintro e w5 ⟨rfl, rfl⟩
  have J0 : JI w g gw gb (w3.heap.size + 1 + 1) w.heap.size w3.heap.size (w3.heap.size + 1) (Z : Int) A n c obs tail [] (((w3.alloc (.cells #[.int .i64 0] 3)).alloc (.cells #[.bool true] 4)).alloc (.cells #[.pointer (some ⟨g, 0, none⟩)] 26)) := by
    refine ⟨((S3.alloc _).alloc _).alloc _, ?_, ((hS3.alloc _).alloc _).alloc _, ((Lies.new w3 3 [.int .i64 0]).alloc _).alloc _, ?_, ((B3.alloc B3.size _).alloc (by simp; omega) _).alloc (by simp; omega) _⟩
    · have := Lies.new ((w3.alloc (.cells #[.int .i64 0] 3)).alloc (.cells #[.bool true] 4)) 26 [.pointer (some ⟨g, 0, none⟩)]
      simpa using this
    · have := (Lies.new (w3.alloc (.cells #[.int .i64 0] 3)) 4 [.bool true]).alloc (.cells #[.pointer (some ⟨g, 0, none⟩)] 26)
      simpa using this
  have HC := Lib.hid (walk1 38 #[.pointer (some ⟨w3.heap.size + 1, 0, none⟩), .pointer (some ⟨w3.heap.size, 0, none⟩), .pointer (some ⟨w.heap.size, 0, none⟩)] g gw gb (w3.heap.size + 1 + 1) (w3.heap.size + 1 + 1) obs tail
    (JI w g gw gb (w3.heap.size + 1 + 1) w.heap.size w3.heap.size (w3.heap.size + 1) (Z : Int) A n c obs tail) (fun _ _ => False)
    (fun pre W hj => ⟨hj.st, hj.walk⟩) (fun pre W W' hj hb => hj.kept hb)
    (fun pre o post W he hj => (hj.step T he Hn.out hn6 z1 z2 z3 (by omega) (w3.heap.size + 1 + 1) (by omega) (by omega)).mono fun e W' h => .inl h) enter49 _ (by simp) J0)
  go_wp2_with fail
  refine HC.out.mono ?_
  clear HC J0
  rintro e w6 ⟨rfl, (hj6 | ⟨_, _, _, _, hf⟩)⟩
  rotate_left
  · exact hf.elim
  have x0 : w6.cell? ⟨w.heap.size, 0, none⟩ = some (.int .i64 (Z : Int)) := hj6.box.cell 0
  have x1 : w6.cell? ⟨w.heap.size, 1, none⟩ = some (.slice A n c) := hj6.box.cell 1
  have x2 : w6.cell? ⟨w3.heap.size, 0, none⟩ = some (.int .i64 (n : Int)) := by rw [← Hn.out]; exact hj6.i.cell 0
  have x3 : w6.cell? ⟨w3.heap.size + 1, 0, none⟩ = some (.bool true) := hj6.ok.cell 0
  have hd6 : Below w6.heap.size w6 w6.drew := ⟨rfl, rfl, rfl, Nat.le_refl _, fun _ _ => rfl⟩
  have hj6 := hj6.kept hd6
  have HT6 := Lib.hid (T.kept hj6.old)
  have LC := Lib.hid hj6
  have HS := Lib.hid S.fine
  have eZ' : ((n : Int) == (n : Int)) = true := by simp
  have n1 : (0 : Int) ≤ (N : Int) := by omega
  have n2 : (N : Int) ≤ (Z : Int) := by omega
  have n3 : (N : Int).toNat = N := by omega
  have HRW : ∀ W, Things W A obs → Calls Try.prog 40 #[.agg #[.int .i64 (Z : Int), .slice A n c]] W fun e w' => (∃ B d, e = .returned (.slice B N d) ∧ Row w' B (flat obs)) ∧ Below W.heap.size W w' := fun W hT => by
    have := rwords_any (Z : Int) n c HS.out hT Hn.out HFL.out
    rw [HN.out] at this
    exact this
  have HRWh := Lib.hid HRW
  have hz0 : 0 < Z := by rw [← HZ.out]; exact S.lies.some_
  have hz1 : ¬ Z = 0 := by omega
  obtain ⟨C, b, hC, hb, hCb⟩ : ∃ (C : Int) (b : Bool), checkV obs = C ∧ (!badB obs) = b ∧ ((C == 0) == b) = true := by
    unfold checkV
    cases badB obs
    · exact ⟨0, true, rfl, rfl, rfl⟩
    · exact ⟨5, false, rfl, rfl, rfl⟩
  have HCK : ∀ W, St W g gw gb obs tail → Calls Try.prog 22 #[.pointer (some ⟨g, 0, none⟩)] W fun e w' => e = .returned (.int .i64 C) ∧ Below W.heap.size W w' := fun W hS => by
    have := check_any hS HW.out
    rw [hC] at this
    exact this
  have HRK : ∀ W, Things W A obs → Calls Try.prog 41 #[.agg #[.int .i64 (Z : Int), .slice A n c]] W fun e w' => e = .returned (.bool b) ∧ Below W.heap.size W w' := fun W hT => by
    have := rcheck_any (Z : Int) n c HS.out hT HW.out Hn.out hn6
    rw [hb] at this
    exact this
  have HCKh := Lib.hid HCK
  have HRKh := Lib.hid HRK
  have HT := Lib.hid T
  clear HRW S3 hS3 B3 z1 z2 z3 z4 hd6 hj6 T HCK HRK hC hb S HT6
  go_wp2_with fail
  go_region_held3 (fun W => W.cell? ⟨w.heap.size, 0, none⟩ = some (.int .i64 (Z : Int)) ∧ W.cell? ⟨w.heap.size, 1, none⟩ = some (.slice A n c) ∧ W.cell? ⟨w3.heap.size, 0, none⟩ = some (.int .i64 (n : Int)) ∧ W.cell? ⟨w3.heap.size + 1, 0, none⟩ = some (.bool true))
    (first | go_keep | exact c7 | exact c8 | exact c9 | exact c10 | exact c11)
    ((first
    | (go_at_call 24; refine (words_z LC.out.st Z HZ.out).mono ?_; rintro e w7 ⟨rfl, hL7, hb7⟩; have J7 := Lib.hid (LC.out.kept hb7); have c7 := J7.out.cells Hn.out; have R7 := Lib.hid (Row.of_lies hL7); clear hL7 hb7)
    | (go_at_call 23; refine (top_n J7.out.st N HN.out).mono ?_; rintro e w' ⟨rfl, rfl⟩)
    | (go_at_call 40; refine (HRWh.out _ (HT.out.kept J7.out.old)).mono ?_; rintro e w8 ⟨⟨B8, d8, rfl, hR8⟩, hb8⟩; have J8 := Lib.hid (J7.out.kept hb8); have c8 := J8.out.cells Hn.out; have R8 := Lib.hid hR8; have R78 := Lib.hid (R7.out.kept hb8); clear hR8 hb8)
    | (go_at_call 39; refine (ints_n _ _ _ _ N N (flat obs) (flat obs) _ R78.out.front R8.out HN.out HN.out (by omega) (by omega) true (decide_eq_true rfl)).mono ?_; rintro e w9 ⟨rfl, hb9⟩; have J9 := Lib.hid (J8.out.kept hb9); have c9 := J9.out.cells Hn.out; clear hb9)
    | (go_at_call 22; refine (HCKh.out _ J9.out.st).mono ?_; rintro e w10 ⟨rfl, hb10⟩; have J10 := Lib.hid (J9.out.kept hb10); have c10 := J10.out.cells Hn.out; clear hb10)
    | (go_at_call 41; refine (HRKh.out _ (HT.out.kept J10.out.old)).mono ?_; rintro e w11 ⟨rfl, hb11⟩; have J11 := Lib.hid (J10.out.kept hb11); have c11 := J11.out.cells Hn.out; clear hb11)
    | fail))
  go_wp2
  go_ret
  exact ⟨rfl, J11.out.old⟩
end Go.Proofs.Ytibfhpbklnpknaa
