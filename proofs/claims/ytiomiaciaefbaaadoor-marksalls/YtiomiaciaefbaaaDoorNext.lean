/- Next, All. -/
import Derived.Test.YtiomiaciaefbaaaDoorStops
import Derived.Laws.Entries
namespace Go.Proofs.YtiomiaciaefbaaaDoor
open Go.RowKit Go.Shelf
set_option linter.unusedVariables false
set_option linter.unusedSimpArgs false
attribute [local go_sem] Oper.semAt_some

theorem Lies.grown {W W' : World} {k : Nat} {t : TypeId} {cs : List Value} {row : Option Nat} (h : Lies W k t cs) (hg : W.grownBy W' row) (hr : ∀ r, row = some r → ∃ o : Obj, W.heap[r]? = some o ∧ o.isCells = false) : Lies W' k t cs := by
  refine h.of_block (hg.block k h.lt fun e => ?_)
  obtain ⟨o, ho, hc⟩ := hr k e.symm
  unfold Lies at h
  rw [h] at ho
  injection ho with ho
  subst ho
  simp [Obj.isCells] at hc
theorem below_grown {w W W' : World} {B : Nat} {row : Option Nat} (h : Below w.heap.size w W) (hB : w.heap.size ≤ B) (hg : W.grownBy W' row) (hr : ∀ r, row = some r → B ≤ r ∧ ∃ o : Obj, W.heap[r]? = some o ∧ o.isCells = false) : Below w.heap.size w W' :=
  h.grown hg h.size (fun k e => by have := (hr k e).1; omega)

/-- What Next answers: the first place, or that there is none. -/
def nextA (L : List Nat) : Nat := L.headD 0
def nextE (L : List Nat) : Int := if L = [] then 13 else 0

structure NxI (w : World) (pre : List Nat) (W : World) : Prop where
  r0 : Lies W w.heap.size 3 [.int .i64 0]
  r1 : Lies W (w.heap.size + 1) 26 [.int .i64 0]
  old : Below w.heap.size w W
  none_ : pre = []
structure NxX (w : World) (c : Code) (pre : List Nat) (W : World) : Prop where
  ret : c = .ret
  old : Below w.heap.size w W
  one : ∃ x : Nat, pre = [x] ∧ Lies W w.heap.size 3 [.int .i64 x] ∧ Lies W (w.heap.size + 1) 26 [.int .i64 0]

set_option maxRecDepth 100000 in
set_option maxHeartbeats 1000000 in
theorem next_in {w : World} {g gw n : Nat} {ws : List Nat} (H : At w g gw n ws) (T : Tab w) (a : Nat) (ha : a ≤ n) (L : List Nat) (hL : sets ws a (64 * ws.length) = L) :
    CallsIn Fence.wide 5 Tryd.prog 12 #[.pointer (some ⟨g, 0, none⟩), .int .i64 a] w fun e w' => e = .returned (.tuple #[.int .i64 (nextA L), .int .i64 (nextE L)]) ∧ Below w.heap.size w w' := by
  have hn := H.most
  have hgl := H.own.lt
  have c0 := ((H.alloc (.cells #[.int .i64 0] 3)).alloc (.cells #[.int .i64 0] 26)).c0
  have d1 : decide ((a : Int) < 0) = false := by simp
  have d2 : decide (n < a) = false := by simp; omega
  have HH := Lib.hid H
  have HT := Lib.hid T
  have HL := Lib.hid hL
  clear H T hL
  refine callsIn_of_wp_marks Tryd.func12 rfl trivial ?_ rfl
  simp only [Tryd.ntmps12, List.size_toArray, List.length_cons, List.length_nil, Nat.reduceAdd, Nat.reduceSub, Array.replicate_succ, Array.replicate_zero, List.push_toArray, List.append_toArray, List.nil_append, List.cons_append]
  gi_wp2_with fail
  refine ⟨trivial, (callsIn_wide.2 (from_any _ a (w.heap.size + 1 + 1) rfl (by simp))).mono ?_⟩
  rintro e w2 ⟨rfl, rfl⟩
  gi_wp2_with fail
  obtain ⟨W0, hW0⟩ : ∃ W0, (((w.alloc (.cells #[.int .i64 0] 3)).alloc (.cells #[.int .i64 0] 26)).alloc (.cells #[.pointer (some ⟨g, 0, none⟩)] 25)).alloc (.cells #[.int .i64 (a : Nat)] 3) = W0 := ⟨_, rfl⟩
  have hsz : W0.heap.size = w.heap.size + 1 + 1 + 1 + 1 := by rw [← hW0]; simp
  have hB0 : Below w.heap.size w W0 := by
    rw [← hW0]
    exact ((((Below.refl _ w).alloc (Nat.le_refl _) _).alloc (by simp) _).alloc (by simp; omega) _).alloc (by simp; omega) _
  have hI0 : NxI w [] W0 := by
    refine ⟨?_, ?_, hB0, rfl⟩
    · rw [← hW0]
      exact (((Lies.new w 3 [.int .i64 0]).alloc _).alloc _).alloc _
    · rw [← hW0]
      have := ((Lies.new (w.alloc (.cells #[.int .i64 0] 3)) 26 [.int .i64 0]).alloc (.cells #[.pointer (some ⟨g, 0, none⟩)] 25)).alloc (.cells #[.int .i64 (a : Nat)] 3)
      simpa using this
  have hS0 : Src W0 g gw n ws (w.heap.size + 1 + 1 + 1) (w.heap.size + 1 + 1) a := by
    refine ⟨HH.out.kept hB0, ?_, ?_, HT.out.kept hB0⟩
    · rw [← hW0]
      have := (Lies.new ((w.alloc (.cells #[.int .i64 0] 3)).alloc (.cells #[.int .i64 0] 26)) 25 [.pointer (some ⟨g, 0, none⟩)]).alloc (.cells #[.int .i64 (a : Nat)] 3)
      simpa using this
    · rw [← hW0]
      have := Lies.new (((w.alloc (.cells #[.int .i64 0] 3)).alloc (.cells #[.int .i64 0] 26)).alloc (.cells #[.pointer (some ⟨g, 0, none⟩)] 25)) 3 [.int .i64 (a : Nat)]
      simpa using this
  rw [hW0]
  have HS := Lib.hid hsz
  clear hW0 hsz c0
  refine wpIn_rangeFunc_ownH rfl (by omega) (gf := 21) (lb := #[.pointer (some ⟨w.heap.size + 1 + 1 + 1, 0, none⟩), .pointer (some ⟨w.heap.size + 1 + 1, 0, none⟩)]) rfl trivial (enters_of Tryd.func21 (by kernel_rfl) rfl)
    (from_stops 4 (by omega) g gw n (w.heap.size + 1 + 1 + 1) (w.heap.size + 1 + 1) a ws L HL.out ha W0 hS0) KeepsCells.trans KeepsCells.put (Below.refl _ _) (fun _ => rfl)
    (NxI w) (NxX w)
    (fun s A B row hs hg hr => ⟨hs.r0.grown hg (fun r e => (hr r e).2), hs.r1.grown hg (fun r e => (hr r e).2), below_grown hs.old (by rw [HS.out]; omega) hg hr, hs.none_⟩)
    (fun c s A B row hs hg hr => ⟨hs.ret, below_grown hs.old (by rw [HS.out]; omega) hg hr, by obtain ⟨x, h1, h2, h3⟩ := hs.one; exact ⟨x, h1, h2.grown hg (fun r e => (hr r e).2), h3.grown hg (fun r e => (hr r e).2)⟩⟩)
    hI0
    (fun x a' W => a' = { tmps := #[.pointer (some ⟨g, 0, none⟩), .int .i64 a, undef, undef, .pointer (some ⟨w.heap.size, 0, none⟩), .pointer (some ⟨w.heap.size + 1, 0, none⟩), .int .i64 (x : Nat), .int .i64 a, .bool false, .bool false, .int .i64 a, .pointer (some ⟨g, 0, none⟩), .pointer (some ⟨g, 0, none⟩), .pointer (some ⟨g, 0, none⟩), .int .i64 n, .bool false, .bool false, .pointer (some ⟨g, 0, none⟩), .int .i64 a, .func (.func 21) #[] #[.pointer (some ⟨w.heap.size + 1 + 1 + 1, 0, none⟩), .pointer (some ⟨w.heap.size + 1 + 1, 0, none⟩)], .int .i64 (x : Nat), undef], defers := [] })
    (fun x a' s A B row hs hg hr => hs) ?assign ?body ?done ?stop
  case assign =>
    rintro l pre x W K hi hK
    dsimp only [encP]
    gi_wp2
    exact hK _ _ ((KeepsOthers.refl _).from _) (KeepsCells.of_below (Below.refl _ W)) hi rfl
  case body =>
    rintro l pre x a' W hl ⟨r, hr⟩ hi rfl hlt
    have y0 : W.cell? ⟨w.heap.size, 0, none⟩ = some (.int .i64 0) := hi.r0.cell 0
    have y1 : W.cell? ⟨w.heap.size + 1, 0, none⟩ = some (.int .i64 0) := hi.r1.cell 0
    have z0 := hi.r0.frozen 0
    have z1 := hi.r1.frozen 0
    gi_wp2
    refine ⟨((KeepsOthers.setCell _ _ _).trans (KeepsOthers.setCell _ _ _)).from _, rfl, (hi.old.setCell (by simp) _).setCell (by simp) _, x, by rw [hi.none_]; rfl, ?_, ?_⟩
    · exact (hi.r0.set 0 _).far (p := ⟨w.heap.size + 1, 0, none⟩) (by simp) _
    · exact (hi.r1.far (p := ⟨w.heap.size, 0, none⟩) (by simp) _).set 0 _
  case done =>
    rintro D ys W hD hys hi hK
    have y0 : W.cell? ⟨w.heap.size, 0, none⟩ = some (.int .i64 0) := hi.r0.cell 0
    have y1 : W.cell? ⟨w.heap.size + 1, 0, none⟩ = some (.int .i64 0) := hi.r1.cell 0
    have z0 := hi.r0.frozen 0
    have z1 := hi.r1.frozen 0
    have hLn : L = [] := by rw [← hys]; exact hi.none_
    have HLn := Lib.hid hLn
    clear hLn hys
    gi_wp2
    obtain ⟨V, hV⟩ : ∃ V, (W.setCell ⟨w.heap.size, 0, none⟩ (.int .i64 0)).setCell ⟨w.heap.size + 1, 0, none⟩ (.int .i64 13) = V := ⟨_, rfl⟩
    rw [hV]
    have hK' : V.heap[D]? = some (.deferred (some [])) := by rw [← hV]; exact (KeepsOthers.setCell _ _ _).same D _ ((KeepsOthers.setCell _ _ _).same D _ hK rfl) rfl
    have l0 : Lies V w.heap.size 3 [.int .i64 0] := by rw [← hV]; exact (hi.r0.set 0 _).far (p := ⟨w.heap.size + 1, 0, none⟩) (by simp) _
    have l1 : Lies V (w.heap.size + 1) 26 [.int .i64 13] := by rw [← hV]; exact (hi.r1.far (p := ⟨w.heap.size, 0, none⟩) (by simp) _).set 0 _
    have hB : Below w.heap.size w V := by rw [← hV]; exact (hi.old.setCell (by simp) _).setCell (by simp) _
    clear hV
    refine ⟨by simp, .inl ⟨_, _, rfl, run_takeDeferred hK', ?_⟩⟩
    have hc0 := cell_kept (l0.cell 0) (grownBy_putObj' _ D (.deferred none)) (fun r e => by cases e; exact ⟨_, hK', rfl⟩)
    have hc1 := cell_kept (l1.cell 0) (grownBy_putObj' _ D (.deferred none)) (fun r e => by cases e; exact ⟨_, hK', rfl⟩)
    refine ⟨.tuple #[.int .i64 0, .int .i64 13], ?_, by rw [HLn.out]; rfl, hB.trans (belowK_b (w := w) (Nat.le_refl _) _ D _ _ (by rw [HS.out] at hD; omega) hK' rfl rfl)⟩
    simp [results, Tryd.f12, go_sem, hc0, hc1]
  case stop =>
    rintro D c pre W hD hp hx hK
    have hr := hx.ret
    subst hr
    obtain ⟨x, rfl, l0, l1⟩ := hx.one
    obtain ⟨rest, hrest⟩ := hp
    have hA : nextA L = x := by rw [← hrest]; rfl
    have hE : nextE L = 0 := by rw [← hrest]; rfl
    have HA := Lib.hid hA
    have HE := Lib.hid hE
    clear hA hE hrest
    gi_wp2
    refine ⟨by simp, .inl ⟨_, _, rfl, run_takeDeferred hK, ?_⟩⟩
    have hc0 := cell_kept (l0.cell 0) (grownBy_putObj' _ D (.deferred none)) (fun r e => by cases e; exact ⟨_, hK, rfl⟩)
    have hc1 := cell_kept (l1.cell 0) (grownBy_putObj' _ D (.deferred none)) (fun r e => by cases e; exact ⟨_, hK, rfl⟩)
    refine ⟨.tuple #[.int .i64 (x : Nat), .int .i64 0], ?_, by rw [HA.out, HE.out], hx.old.trans (belowK_b (w := w) (Nat.le_refl _) W D _ _ (by rw [HS.out] at hD; omega) hK rfl rfl)⟩
    simp [results, Tryd.f12, go_sem, hc0, hc1]

theorem next_yes {w : World} {g gw n : Nat} {ws : List Nat} (H : At w g gw n ws) (T : Tab w) (z : Int) (a : Nat) (hz : z = a) (ha : a ≤ n) (L : List Nat) (hL : sets ws a (64 * ws.length) = L) :
    Calls Tryd.prog 12 #[.pointer (some ⟨g, 0, none⟩), .int .i64 z] w fun e w' => e = .returned (.tuple #[.int .i64 (nextA L), .int .i64 (nextE L)]) ∧ Below w.heap.size w w' := by
  subst hz
  exact callsIn_wide.1 (next_in H T a ha L hL)

set_option maxHeartbeats 1000000 in
theorem next_no {w : World} {g gw n : Nat} {ws : List Nat} (H : At w g gw n ws) (z : Int) (hz : z < 0 ∨ (n : Int) < z) :
    Calls Tryd.prog 12 #[.pointer (some ⟨g, 0, none⟩), .int .i64 z] w fun e w' => e = .returned (.tuple #[.int .i64 0, .int .i64 1]) ∧ Below w.heap.size w w' := by
  have hgl := H.own.lt
  have c0 := H.c0
  clear H
  by_cases h1 : z < 0
  · have d1 : decide (z < 0) = true := by simp; omega
    go_enter Tryd.func12, Tryd.ntmps12
    go_wp2
    refine bodyPost_ret (v := .tuple #[.int .i64 0, .int .i64 1]) (by simp [results, Tryd.results12, go_sem]) rfl ⟨rfl, ?_⟩
    exact ((Below.refl _ w).alloc (Nat.le_refl _) _).alloc (by simp) _
  · have d1 : decide (z < 0) = false := by simp; omega
    have d2 : decide ((n : Int) < z) = true := by simp; omega
    go_enter Tryd.func12, Tryd.ntmps12
    go_wp2
    refine bodyPost_ret (v := .tuple #[.int .i64 0, .int .i64 1]) (by simp [results, Tryd.results12, go_sem]) rfl ⟨rfl, ?_⟩
    exact ((Below.refl _ w).alloc (Nat.le_refl _) _).alloc (by simp) _

theorem all_any {w : World} {g : Nat} (B : Nat) (hB : w.heap.size = B) :
    Calls Tryd.prog 13 #[.pointer (some ⟨g, 0, none⟩)] w fun e w' => e = .returned (.func (.func 21) #[] #[.pointer (some ⟨B + 1, 0, none⟩), .pointer (some ⟨B, 0, none⟩)]) ∧ w' = (w.alloc (.cells #[.pointer (some ⟨g, 0, none⟩)] 25)).alloc (.cells #[.int .i64 ((0 : Nat) : Int)] 3) := by
  have HB := Lib.hid hB
  clear hB
  go_enter Tryd.func13, Tryd.ntmps13
  go_wp2_with fail
  refine (from_any 0 0 B rfl HB.out).mono ?_
  rintro e w2 ⟨rfl, rfl⟩
  go_wp2
  go_ret
  exact ⟨rfl, rfl⟩
end Go.Proofs.YtiomiaciaefbaaaDoor
