/- How the iterator goes through the places that are set, in a range over it. -/
import Derived.RangeFuncNested
import Derived.RangeFuncBound
import Derived.RangeFuncCalls
import Derived.RangeFuncLeaves
import Derived.Shelf.Abstract
import Derived.Shelf.RegionOpen
import Derived.WalkKit
import Derived.OwnWalkIn
import Derived.TacticsInMore
import Derived.LoopNIn
import Derived.LoopIn
import Derived.Sort.LoopGhostIn
import Derived.Test.YtiomiaciaefbaaaDoorFrom
namespace Go.Proofs.YtiomiaciaefbaaaDoor
open Go.RowKit Go.Shelf
set_option linter.unusedVariables false
set_option linter.unusedSimpArgs false
attribute [local go_sem] Oper.semAt_some

/-- Cells that were there are as they were. -/
structure KeepsCells (A B : World) : Prop where
  size : A.heap.size ≤ B.heap.size
  same : ∀ (k : Nat) (cs : Array Value) (t : TypeId) (fr : Nat × Nat), A.heap[k]? = some (Obj.cells cs t fr) → B.heap[k]? = some (Obj.cells cs t fr)
theorem KeepsCells.trans {A B C : World} (h : KeepsCells A B) (k : KeepsCells B C) : KeepsCells A C := ⟨Nat.le_trans h.size k.size, fun i cs t fr hi => k.same i cs t fr (h.same i cs t fr hi)⟩
theorem KeepsCells.of_below {A B : World} (h : Below A.heap.size A B) : KeepsCells A B := ⟨h.size, fun k cs t fr hk => (h.block k (Array.getElem?_eq_some_iff.1 hk).1).trans hk⟩
theorem KeepsCells.put {w : World} (W : World) (l : Nat) (o o' : Obj) (_ : w.heap.size ≤ l) (h : W.heap[l]? = some o) (hc : o.isCells = false) (_ : o.isWalk = false) : KeepsCells W (W.putObj l o') :=
  ⟨by simp, fun k cs t fr hk => by
    have hne : k ≠ l := by
      rintro rfl
      rw [h] at hk
      injection hk with hk
      subst hk
      simp [Obj.isCells] at hc
    exact (World.putObj_heap_other hne).trans hk⟩
theorem Lies.keptC {w w' : World} {g : Nat} {t : TypeId} {cs : List Value} (h : Lies w g t cs) (hk : KeepsCells w w') : Lies w' g t cs := hk.same g _ t _ h
theorem At.keptC {w w' : World} {g gw n : Nat} {ws : List Nat} (h : At w g gw n ws) (hk : KeepsCells w w') : At w' g gw n ws :=
  ⟨h.own.keptC hk, h.words.keptC hk, h.many, h.some_, h.most, h.fit, h.in_⟩
theorem Tab.keptC {w w' : World} (h : Tab w) (hk : KeepsCells w w') : Tab w' := fun j hj => by
  have h1 := h j hj
  unfold World.cell? at h1 ⊢
  cases ho : w.heap[0]? with
  | none => simp [ho] at h1
  | some o =>
    cases o with
    | cells cs t fr =>
      have := hk.same 0 cs t fr ho
      simp only [ho] at h1
      simp only [this]
      exact h1
    | _ => simp [ho] at h1
theorem Src.keptC {w w' : World} {g gw n bf bm fr : Nat} {ws : List Nat} (h : Src w g gw n ws bf bm fr) (hk : KeepsCells w w') : Src w' g gw n ws bf bm fr :=
  ⟨h.map.keptC hk, h.mb.keptC hk, h.fb.keptC hk, h.tab.keptC hk⟩
theorem Src.kept {w w' : World} {g gw n bf bm fr : Nat} {ws : List Nat} (h : Src w g gw n ws bf bm fr) (hb : Below w.heap.size w w') : Src w' g gw n ws bf bm fr := h.keptC (KeepsCells.of_below hb)

theorem wpIn_scope_wide {n : Nat} {P : Program} {c : Code} {Q : Exit → Act → World → Prop} {a : Act} {w : World} (h : c.wpIn Fence.wide n P (Exit.noGoto Q) a w) : (Code.scope c).wpIn Fence.wide n P Q a w :=
  wpIn_wide.2 (wp_scope_straight (wpIn_wide.1 h))

def encP (p : Nat) : Array Value := #[.int .i64 (p : Int)]

set_option maxRecDepth 100000 in
set_option maxHeartbeats 2000000 in
theorem from_stops (d : Nat) (hd : 1 ≤ d) (g gw n bf bm fr : Nat) (ws L : List Nat) (hL : sets ws fr (64 * ws.length) = L) (hfr : fr ≤ n) (w : World) (S0 : Src w g gw n ws bf bm fr) :
    SeqStopsK Fence.wide d Tryd.prog 21 #[.pointer (some ⟨bf, 0, none⟩), .pointer (some ⟨bm, 0, none⟩)] encP KeepsCells (fun xs => xs = L) (fun pre => pre <+: L) (L.length + 1) w := fun l J Jx W hW hJ hJx hY h0 => by
  have HY := Lib.hid hY
  have HL := Lib.hid hL
  have S1 := S0.kept hW
  have x0 : W.cell? ⟨bf, 0, none⟩ = some (.int .i64 fr) := S1.fb.cell 0
  have hn := S1.map.most
  obtain ⟨Z, hZ⟩ : ∃ Z, ws.length = Z := ⟨_, rfl⟩
  have hZ2 : Z ≤ 1024 := by have := S1.map.many; omega
  have HZ := Lib.hid hZ
  have hfZ : fr ≤ 64 * Z := by have := S1.map.many; omega
  have HS1 := Lib.hid S1
  clear hY hJ hJx hL S0 S1 hZ hW
  refine callsIn_of_wp Tryd.func21 rfl trivial ?_ rfl
  simp only [Tryd.ntmps21, List.size_toArray, List.length_cons, List.length_nil, Nat.reduceAdd, Nat.reduceSub, Array.replicate_succ, Array.replicate_zero, List.push_toArray, List.append_toArray, List.nil_append, List.cons_append]
  gi_wp2
  refine wpIn_scope_wide ?_
  gi_wp2
  refine wpIn_label ?_
  gi_wp2
  gi_loopg [4] (Z - fr / 64) (fun gk s4 wr => ∃ k : Nat, k + gk = Z ∧ fr / 64 ≤ k ∧ s4 = .int .i64 k ∧ J (sets ws fr (max fr (64 * k))) wr ∧ Src wr g gw n ws bf bm fr)
  case atStart => exact ⟨fr / 64, by omega, Nat.le_refl _, by go_num, by rw [show max fr (64 * (fr / 64)) = fr from by omega, sets_self]; exact h0, HS1.out⟩
  case round =>
    obtain ⟨k, hkg, hk1, rfl, hj, SR⟩ := hrel
    have HSR := Lib.hid SR
    obtain ⟨S, mb, fb, tb⟩ := SR
    have y0 : wr.cell? ⟨bm, 0, none⟩ = some (.pointer (some ⟨g, 0, none⟩)) := mb.cell 0
    have y1 : wr.cell? ⟨bf, 0, none⟩ = some (.int .i64 fr) := fb.cell 0
    have y2 := S.c1
    rw [HZ.out] at y2
    clear x0 HS1
    cases gk with
    | zero =>
      have hkz : k = Z := by omega
      subst hkz
      have HJ := Lib.hid hj
      clear hj S mb fb tb
      gi_wp2
      rw [Exit.noGoto_normal]
      go_end0
      refine ⟨⟨_, rfl⟩, .inl ⟨_, rfl, ?_⟩⟩
      have := HJ.out
      rw [show max fr (64 * k) = 64 * k from by omega] at this
      rw [← HL.out, HZ.out]
      exact this
    | succ g1 =>
      have hkz : (k : Int) < (Z : Int) := by omega
      have hk2 : k < Z := by omega
      have hk3 : fr < 64 * (k + 1) := by omega
      have HJ := Lib.hid hj
      clear hj S mb fb tb
      by_cases hc : fr ≤ 64 * k
      all_goals
        gi_wp2
        gi_loopg [5] (64 - (fr - 64 * k)) (fun g2 s5 wr => ∃ i : Nat, i + g2 = 64 ∧ fr ≤ 64 * k + i ∧ s5 = .int .i64 i ∧ J (sets ws fr (64 * k + i)) wr ∧ Src wr g gw n ws bf bm fr)
        case atStart =>
          have := HJ.out
          rw [show max fr (64 * k) = 64 * k + (fr - 64 * k) from by omega] at this
          exact ⟨fr - 64 * k, by omega, by omega, congrArg (Value.int .i64) (by omega), this, HSR.out⟩
        case round =>
          obtain ⟨i, hig, hi1, rfl, hj, SR2⟩ := hrel
          have HS2 := Lib.hid SR2
          obtain ⟨S, mb, fb, tb⟩ := SR2
          have y0 : wr.cell? ⟨bm, 0, none⟩ = some (.pointer (some ⟨g, 0, none⟩)) := mb.cell 0
          have y2 := S.c1
          have y3 := S.word (i := k) (by rw [HZ.out]; exact hk2)
          have hxl := S.lt k
          rw [HZ.out] at y2
          have HJ2 := Lib.hid hj
          have HT := Lib.hid tb
          clear HJ HSR y1 hj S mb fb tb
          obtain ⟨x, hx⟩ : ∃ x, ws.getD k 0 = x := ⟨_, rfl⟩
          have HX := Lib.hid hx
          rw [hx] at y3 hxl
          clear hx
          obtain ⟨r, hr⟩ : ∃ r, x / 2 ^ i = r := ⟨_, rfl⟩
          have hr' : (x : Int) / 2 ^ i = (r : Int) := by rw [← hr]; simp
          have HRr := Lib.hid hr
          have hrl : r < 18446744073709551616 := by rw [← hr]; exact part_lt x i hxl
          clear hr
          by_cases hr0 : r = 0
          · have d1 : ((r : Int) == 0) = true := by simp [hr0]
            clear HT
            gi_wp2
            gi_roundg g1
            case measure => omega
            case rel =>
              refine ⟨k + 1, by omega, by omega, by go_num, ?_⟩
              have e := sets_skip ws fr (64 * k + i) (64 * (k + 1)) hi1 (by omega) (part_zero ws k i (by rw [HX.out, HRr.out, hr0]))
              rw [show max fr (64 * (k + 1)) = 64 * (k + 1) from by omega, e]
              exact ⟨HJ2.out, HS2.out⟩
          · have d1 : ((r : Int) == 0) = false := by simp [hr0]
            have hin : i + Lib.ctz 64 r < 64 := by rw [← HRr.out]; exact part_in x i hxl (by rw [HRr.out]; exact hr0)
            obtain ⟨q1, q2, q3⟩ := first_bit r hr0 hrl
            obtain ⟨t, ht⟩ : ∃ t, Lib.ctz 64 r = t := ⟨_, rfl⟩
            rw [ht] at hin q1 q2 q3
            have hnx : sets ws fr (64 * k + i + t + 1) = sets ws fr (64 * k + i) ++ [64 * k + i + t] := by
              refine sets_next ws fr (64 * k + i) (64 * k + i + t) hi1 (by omega) (fun q hq1 hq2 => ?_) ?_
              · have e := bit_part ws k i (q - (64 * k + i)) (by omega)
                rw [show 64 * k + i + (q - (64 * k + i)) = q from by omega, HX.out, HRr.out, q3 _ (by omega)] at e
                exact e
              · rw [bit_part ws k i t hin, HX.out, HRr.out]; exact q2
            have hpre : sets ws fr (64 * k + i) ++ [64 * k + i + t] <+: L := by
              rw [← hnx, ← HL.out, HZ.out]
              exact sets_pre ws fr _ _ (by omega) (by omega)
            have hpl := hpre.length_le
            obtain ⟨fn, tmps, assign, body, hy, hR⟩ := HY.out _ (64 * k + i + t) wr HJ2.out (by simp at hpl; omega)
            have epl : encP (64 * k + i + t) = #[.int .i64 ((k : Int) * 64 + ((i : Int) + (t : Int)))] := by unfold encP; congr 3; omega
            rw [epl] at hy
            have HC := Lib.hid hR
            have HNx := Lib.hid hnx
            have HPre := Lib.hid hpre
            have HTt := Lib.hid ht
            clear hR hnx hpre hpl ht q2 q3 HJ2 epl
            gi_wp2_with fail
            refine ⟨trivial, (callsIn_wide.2 (tz_any _ r rfl hrl hr0 _ HT.out)).mono ?_⟩
            rintro e w1 ⟨rfl, rfl⟩
            rw [HTt.out]
            clear HT
            gi_wp2
            refine HC.out.mono ?_
            rintro e w3 (⟨rfl, hj3, hk3⟩ | ⟨rfl, hx3⟩)
            · clear HC hy y0 y2 y3
              gi_wp2
              gi_roundg (64 - (i + t + 1))
              case measure => omega
              case rel =>
                refine ⟨i + t + 1, by omega, by omega, by go_num, ?_⟩
                rw [show 64 * k + (i + t + 1) = 64 * k + i + t + 1 from by omega, HNx.out]
                exact ⟨hj3, HS2.out.keptC hk3⟩
            · clear HC hy y0 y2 y3
              gi_wp2
              rw [Exit.noGoto_normal]
              go_end0
              exact ⟨⟨_, rfl⟩, .inr ⟨_, HPre.out, hx3⟩⟩
end Go.Proofs.YtiomiaciaefbaaaDoor
