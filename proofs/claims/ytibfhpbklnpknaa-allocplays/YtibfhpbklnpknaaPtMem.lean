/- AllocPlays: the document's own allocator beside the program's, in memory; how much is left by it. -/
import Derived.Test.YtibfhpbklnpknaaAlSum
import Derived.Test.YtibfhpbklnpknaaSplW
import Derived.Test.YtibfhpbklnpknaaAlRead
import Derived.Deep.RegionHeld3
namespace Go.Proofs.Ytibfhpbklnpknaa
open Go.RowKit
set_option linter.unusedVariables false
set_option linter.unusedSimpArgs false

/-- The document's heap in its box, its threads' buffers (addresses, -1: none) in theirs. -/
structure Rf (W : World) (bm ba gt base Z : Nat) (A : Option Addr) (n c : Nat) (xs : List Value) (bs : List Int) (obs : List Ob) : Prop where
  box : Lies W bm 36 [.int .i64 (Z : Int), .slice A n c]
  own : Owned W base A n c obs xs
  count : obs.length = n
  abox : Lies W ba 37 [.slice (some ⟨gt, 0, none⟩) bs.length bs.length]
  arow : Lies W gt 3 ((bs.map fun b => b - 1).map (Value.int .i64))
  room : base ≤ W.heap.size

/-- Where all that lies. -/
structure Lw (B ga gf g gw gb bm ba gt base : Nat) : Prop where
  o1 : B ≤ g
  o2 : B ≤ gw
  o3 : B ≤ gb
  o4 : B ≤ gf
  o5 : B ≤ bm
  o6 : B ≤ gt
  o7 : B ≤ ba
  l1 : g < bm
  l2 : gw < bm
  l3 : gb < bm
  l4 : gf < bm
  l5 : ga < bm
  l6 : bm < gt
  l7 : gt < ba
  l8 : ba < base

section
variable {W W' : World} {bm ba gt base Z n c : Nat} {A : Option Addr} {xs : List Value} {bs : List Int} {obs : List Ob}
theorem Rf.kept (h : Rf W bm ba gt base Z A n c xs bs obs) (hb : Below W.heap.size W W') : Rf W' bm ba gt base Z A n c xs bs obs :=
  ⟨h.box.below hb h.box.lt, h.own.kept hb, h.count, h.abox.below hb h.abox.lt, h.arow.below hb h.arow.lt, Nat.le_trans h.room hb.size⟩
theorem owns_e4 {w w' : World} {base n sz p q r u : Nat} {t : TypeId} {v : Value} {xs : List Value} (h : w.ownsRow base t sz v n xs) (he : Else4 p q r u w w') (h1 : p < base) (h2 : q < base) (h3 : r < base) (h4 : u < base) : w'.ownsRow base t sz v n xs := by
  refine ⟨h.1, h.2.imp id ?_⟩
  rintro ⟨b, cap, cur, k1, k2, k3, k4⟩
  exact ⟨b, cap, cur, k1, k2, (he.block b (Array.getElem?_eq_some_iff.1 k3).1 (by omega) (by omega) (by omega) (by omega)).trans k3, k4⟩
theorem Rf.else4 {B ga gf g gw gb : Nat} (h : Rf W bm ba gt base Z A n c xs bs obs) (E : Else4 g gw gb gf W W') (F : Lw B ga gf g gw gb bm ba gt base) : Rf W' bm ba gt base Z A n c xs bs obs := by
  have := F.l1
  have := F.l2
  have := F.l3
  have := F.l4
  have := F.l6
  have := F.l7
  have := F.l8
  refine ⟨E.lies h.box (by omega) (by omega) (by omega) (by omega), ⟨owns_e4 h.own.own E (by omega) (by omega) (by omega) (by omega), h.own.cells.of fun _ _ _ _ ho => owns_e4 ho E (by omega) (by omega) (by omega) (by omega)⟩, h.count, E.lies h.abox (by omega) (by omega) (by omega) (by omega), E.lies h.arow (by omega) (by omega) (by omega) (by omega), Nat.le_trans h.room E.size⟩

/-- Another heap in the box. -/
theorem Rf.put {W : World} {bm ba gt base Z n c n' c' : Nat} {A A' : Option Addr} {xs xs' : List Value} {bs : List Int} {obs obs' : List Ob} (h : Rf W bm ba gt base Z A n c xs bs obs) (O : Owned W base A' n' c' obs' xs') (hn : obs'.length = n') :
    Rf ((W.setCell ⟨bm, 0, none⟩ (.int .i64 (Z : Int))).setCell ⟨bm, 1, none⟩ (.slice A' n' c')) bm ba gt base Z A' n' c' xs' bs obs' := by
  have e1 : ba ≠ bm := h.abox.apart h.box (by decide)
  have e2 : gt ≠ bm := h.arow.apart h.box (by decide)
  exact ⟨lies_put2 h.box, O.put2 h.box _ _, hn, (h.abox.far (p := ⟨bm, 0, none⟩) e1 _).far (p := ⟨bm, 1, none⟩) e1 _, (h.arow.far (p := ⟨bm, 0, none⟩) e2 _).far (p := ⟨bm, 1, none⟩) e2 _, by simpa using h.room⟩
theorem owns_far1 {w : World} {base n sz : Nat} {t : TypeId} {v : Value} {xs : List Value} (h : w.ownsRow base t sz v n xs) (p : Addr) (u : Value) (hp : p.block < base) : (w.setCell p u).ownsRow base t sz v n xs := by
  refine ⟨h.1, h.2.imp id ?_⟩
  rintro ⟨b, cap, cur, k1, k2, k3, k4⟩
  exact ⟨b, cap, cur, k1, k2, (Below.heap_setCell w p u b (by omega)).trans k3, k4⟩
/-- Another buffer of a thread. -/
theorem Rf.set (h : Rf W bm ba gt base Z A n c xs bs obs) (t : Nat) (b : Int) (hgt : gt < base) : Rf (W.setCell ⟨gt, t, none⟩ (.int .i64 (b - 1))) bm ba gt base Z A n c xs (bs.set t b) obs := by
  have e1 : ba ≠ gt := h.abox.apart h.arow (by decide)
  have e2 : bm ≠ gt := h.box.apart h.arow (by decide)
  refine ⟨h.box.far (p := ⟨gt, t, none⟩) e2 _, ⟨owns_far1 h.own.own _ _ hgt, h.own.cells.of fun _ _ _ _ ho => owns_far1 ho _ _ hgt⟩, h.count, ?_, ?_, by simpa using h.room⟩
  · have := h.abox.far (p := ⟨gt, t, none⟩) e1 (.int .i64 (b - 1))
    simpa using this
  · have := h.arow.set t (.int .i64 (b - 1))
    rw [List.map_set]
    rwa [← List.map_set] at this
theorem Rf.a0 (h : Rf W bm ba gt base Z A n c xs bs obs) : W.cell? ⟨ba, 0, none⟩ = some (.slice (some ⟨gt, 0, none⟩) bs.length bs.length) := h.abox.cell 0
theorem Rf.m0 (h : Rf W bm ba gt base Z A n c xs bs obs) : W.cell? ⟨bm, 0, none⟩ = some (.int .i64 (Z : Int)) := h.box.cell 0
theorem Rf.m1 (h : Rf W bm ba gt base Z A n c xs bs obs) : W.cell? ⟨bm, 1, none⟩ = some (.slice A n c) := h.box.cell 1
theorem Rf.a_at (h : Rf W bm ba gt base Z A n c xs bs obs) {t : Nat} (ht : t < bs.length) : W.cell? ⟨gt, t, none⟩ = some (.int .i64 (bs.getD t 0 - 1)) := by
  rw [h.arow.cell t]; simp [List.getD, ht]
end

theorem Al.far1 {w : World} {ga gf g gw gb size : Nat} {bs : List Int} {obs : List Ob} {tail : List Int} (h : Al w ga gf g gw gb size bs obs tail) (p : Addr) (u : Value) (h1 : ga ≠ p.block) (h2 : gf ≠ p.block) (h3 : g ≠ p.block) (h4 : gw ≠ p.block) (h5 : gb ≠ p.block) : Al (w.setCell p u) ga gf g gw gb size bs obs tail :=
  ⟨h.st.far h3 h4 h5 u, h.own.far h1 u, h.row.far h2 u, h.ne, h.lo, h.hi, h.led⟩

set_option maxHeartbeats 1000000 in
theorem leftc_any {W : World} {bm ba gt base Z n c : Nat} {A : Option Addr} {xs : List Value} {bs : List Int} {obs : List Ob} (h : Rf W bm ba gt base Z A n c xs bs obs) (hf : Fine obs) (hl : ∀ b ∈ bs, b ≠ 0 → (look obs (b - 1)).isSome = true) (hm : (flat obs).length ≤ 65536) (t : Nat) (ht : t < bs.length) :
    Calls Try.prog 11 #[.int .i64 (t : Int), .pointer (some ⟨bm, 0, none⟩), .pointer (some ⟨ba, 0, none⟩)] W fun e w' => e = .returned (.int .i64 (leftF bs obs t)) ∧ Below W.heap.size W w' := by
  have y0 := h.m0
  have y1 := h.m1
  have y2 := h.a0
  have yt := h.a_at ht
  have t0 : (0 : Int) ≤ (t : Int) := by omega
  have t1 : (t : Int) < (bs.length : Int) := by omega
  have hlb : bs.getD t 0 ≠ 0 → (look obs (bs.getD t 0 - 1)).isSome = true := fun hne => hl _ (by
    have e : bs.getD t 0 = bs[t] := by simp [List.getD, ht]
    rw [e]; exact List.getElem_mem _) hne
  unfold leftF
  have L1 := Lib.hid h.box
  have L2 := Lib.hid h.abox
  have L3 := Lib.hid h.arow
  have z1 := h.box.lt
  have z2 := h.abox.lt
  have z3 := h.arow.lt
  have hn6 : n ≤ 65536 := by have := count_le obs; rw [← h.count]; omega
  have RT : ∀ V, Lies V gt 3 ((bs.map fun b => b - 1).map (Value.int .i64)) → V.cell? ⟨gt, t, none⟩ = some (.int .i64 (bs.getD t 0 - 1)) := fun V hV => by rw [hV.cell t]; simp [List.getD, ht]
  have HRT := Lib.hid RT
  clear RT
  generalize bs.getD t 0 = b at *
  have HD := Lib.hid (rfind_any (Z : Int) (b - 1) n c ((h.kept (Below.refl W.heap.size W).drew).own.things) h.count hn6)
  have HT := Lib.hid h.own.things
  have hcnt := h.count
  generalize bs.length = m at y2 t1 L2
  clear h ht hl
  obtain ⟨a, ha⟩ : ∃ a, b - 1 = a := ⟨_, rfl⟩
  rw [ha] at yt HRT HD hlb
  cases hk : look obs a with
  | none =>
    have hb0 : b = 0 := by
      apply Classical.byContradiction
      intro hc
      have := hlb hc
      rw [hk] at this
      cases this
    rw [if_pos hb0]
    have hv : findV obs a = -1 := by unfold findV; rw [hk]
    rw [hv] at HD
    clear hk hlb hv ha hb0 hcnt
    go_enter Try.func11, Try.ntmps11
    go_wp2_with fail
    go_region_held3 (fun V => V.cell? ⟨bm, 0, none⟩ = some (.int .i64 (Z : Int)) ∧ V.cell? ⟨bm, 1, none⟩ = some (.slice A n c) ∧ V.cell? ⟨ba, 0, none⟩ = some (.slice (some ⟨gt, 0, none⟩) m m) ∧ V.cell? ⟨gt, t, none⟩ = some (.int .i64 a))
      (first | exact ⟨y0, y1, y2, yt⟩ | go_keep | exact ⟨K1.cell 0, K1.cell 1, K2.cell 0, HRT.out _ K3⟩)
      ((first
      | (go_at_call 12; refine HD.out.mono ?_; rintro e w3 ⟨rfl, hb3⟩; have K1 := L1.out.drew.below hb3 z1; have K2 := L2.out.drew.below hb3 z2; have K3 := L3.out.drew.below hb3 z3)
      | fail))
    go_wp2
    go_ret
    exact ⟨rfl, (Below.refl W.heap.size W).drew.trans hb3⟩
  | some x =>
    obtain ⟨e1, e2⟩ := look_some _ _ _ hk
    obtain ⟨f1, f2⟩ := find_look hk
    have hh := hf x.2.1 (by rw [e1]; simp)
    have q1 : 0 ≤ x.2.1.1 / 65536 := by have := head_nn hh.1; omega
    have q2 : x.2.1.1 / 65536 ≤ 4095 := by have := len_le hh.1; unfold lenOf at this; omega
    have hb0 : b ≠ 0 := by omega
    have hlf : (headF obs (b - 1)).1.2.1 = x.2.1.1 / 65536 := by unfold headF; rw [ha, hk]
    have hin : x.1.length < n := by rw [← hcnt, e1]; simp
    rw [if_neg hb0, hlf]
    rw [f1] at HD
    have HF2 := Lib.hid f2
    generalize x.1.length = q at *
    generalize x.2.1 = o at *
    have q3 : (0 : Int) ≤ (q : Int) := by omega
    have q4 : (q : Int) < (n : Int) := by omega
    clear hk hlb ha hb0 hcnt e1 e2 f1 f2 hh hlf
    go_enter Try.func11, Try.ntmps11
    go_wp2_with fail
    go_region_held3 (fun V => V.cell? ⟨bm, 0, none⟩ = some (.int .i64 (Z : Int)) ∧ V.cell? ⟨bm, 1, none⟩ = some (.slice A n c) ∧ V.cell? ⟨ba, 0, none⟩ = some (.slice (some ⟨gt, 0, none⟩) m m) ∧ V.cell? ⟨gt, t, none⟩ = some (.int .i64 a))
      (first | exact ⟨y0, y1, y2, yt⟩ | go_keep | exact ⟨K1.cell 0, K1.cell 1, K2.cell 0, HRT.out _ K3⟩)
      ((first
      | (go_at_call 12; refine HD.out.mono ?_; rintro e w3 ⟨rfl, hb3⟩; have K1 := L1.out.drew.below hb3 z1; have K2 := L2.out.drew.below hb3 z2; have K3 := L3.out.drew.below hb3 z3)
      | fail))
    obtain ⟨ad, B, cc, rfl, c0, c1, c2, c3, c4, -⟩ := (HT.out.kept ((Below.refl W.heap.size W).drew.trans hb3)).at_ HF2.out
    have u1 : w3.cell? ⟨bm, 1, none⟩ = some (.slice (some ad) n c) := K1.cell 1
    have HB3 := Lib.hid hb3
    clear c0 c1 c3 c4 K1 K2 K3 hb3 y0 y1 y2 yt
    go_wp2
    go_ret
    exact ⟨rfl, (Below.refl W.heap.size W).drew.trans HB3.out⟩
end Go.Proofs.Ytibfhpbklnpknaa
