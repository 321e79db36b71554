/- New, Clear. -/
import Derived.Test.YtiomiaciaefbaaaDoorSet
import Derived.Laws.MakeOwn
import Derived.Lib.SliceRun
namespace Go.Proofs.YtiomiaciaefbaaaDoor
open Go.RowKit
set_option linter.unusedVariables false
set_option linter.unusedSimpArgs false

def noughts (n : Nat) : List Value := List.replicate n (.int .u64 0)
theorem noughts_eq (n : Nat) : noughts n = (List.replicate n (0 : Nat)).map (fun x => Value.int .u64 (x : Nat)) := by simp [noughts]
theorem made_one (z : Value) (n : Nat) : madeCells #[z] n = (List.replicate n z).toArray := by
  apply Array.ext
  · simp [madeCells]
  · intro i h1 h2
    simp [madeCells, Nat.mod_one]
theorem infoW : ∃ i, Tryd.prog.info? 47 = some i ∧ i.zero = some (.int .u64 0) ∧ i.size = 1 ∧ i.bytes = 8 := ⟨_, rfl, rfl, rfl, rfl⟩
theorem makeW (n : Nat) (hn : n ≤ 65536) (w : World) : (Instr.makeSlice 44 (.int .i64 (n : Int)) (.int .i64 (n : Int))).run Tryd.prog w = .ok (.slice (some ⟨w.heap.size, 0, none⟩) n n) (w.alloc (.cells (noughts n).toArray 47)) := by
  obtain ⟨i0, hi0, hz0, hz1, hz2⟩ := infoW
  have := run_make (P := Tryd.prog) w 44 47 i0 _ Tryd.underlying44 hi0 hz0 .i64 .i64 n n (by omega) (Int.le_refl _) (by rw [hz2]; omega) (by omega)
  rw [this, hz1]
  simp [Value.cells, made_one, noughts]
theorem bit_new (m p : Nat) : bit (List.replicate m 0) p = false := by
  unfold bit
  have : (List.replicate m (0 : Nat)).getD (p / 64) 0 = 0 := by
    simp [List.getD, List.getElem?_replicate]
    split <;> rfl
  rw [this]; simp

set_option maxRecDepth 100000 in
set_option maxHeartbeats 1000000 in
theorem new_yes (z : Int) (n : Nat) (hz : z = n) (w : World) (h1 : 1 ≤ n) (h2 : n ≤ 65536) :
    Calls Tryd.prog 7 #[.int .i64 z] w fun e w' => ∃ g gw, e = .returned (.tuple #[.pointer (some ⟨g, 0, none⟩), .int .i64 0]) ∧ Below w.heap.size w w' ∧ w.heap.size ≤ g ∧ w.heap.size ≤ gw ∧ At w' g gw n (List.replicate ((n + 63) / 64) 0) := by
  obtain ⟨m, hm⟩ : ∃ m, (n + 63) / 64 = m := ⟨_, rfl⟩
  have hm2 : m ≤ 1024 := by omega
  have hmk := makeW m (by omega)
  have d1 : decide (z < 1) = false := by simp; omega
  have d2 : decide (65536 < z) = false := by simp; omega
  have hd : (z + 64 - 1) / 64 = (m : Int) := by omega
  have hd' : (z + 63) / 64 = (m : Int) := by omega
  have hb1 : 1 ≤ z := by omega
  have hb2 : z ≤ 65536 := by omega
  obtain ⟨X, hX⟩ : ∃ X : Obj, X = .cells (noughts m).toArray 47 := ⟨_, rfl⟩
  have HB := Lib.hid (below_one w X)
  have hL0 : Hid (Lies (w.alloc X) w.heap.size 47 (noughts m)) := Lib.hid (by rw [hX]; exact Lies.new w 47 (noughts m))
  have HS : Hid ((w.alloc X).heap.size = w.heap.size + 1) := Lib.hid (by simp)
  have HZ := Lib.hid hz
  have HM := Lib.hid hm
  rw [← hX] at hmk
  clear hX hz hm
  go_enter Tryd.func7, Tryd.ntmps7
  go_wp2
  go_ret2
  refine ⟨w.heap.size + 1, w.heap.size, rfl, on HB.out HB.out.size (below_one _ _), by omega, Nat.le_refl _, ?_⟩
  have L1 := Lies.new (w.alloc X) 46 [.int .i64 z, .slice (some ⟨w.heap.size, 0, none⟩) m m]
  rw [HS.out] at L1
  have L0 := hL0.out.alloc (.cells [.int .i64 z, .slice (some ⟨w.heap.size, 0, none⟩) m m].toArray 46)
  refine ⟨?_, by rw [HM.out, ← noughts_eq]; exact L0, by simp, h1, h2, fun x hx => ?_, fun p hp => ?_⟩
  · rw [HM.out, ← HZ.out]; simpa using L1
  · have := (List.mem_replicate.1 hx).2; omega
  · rw [bit_new] at hp; cases hp

set_option maxRecDepth 100000 in
set_option maxHeartbeats 1000000 in
theorem new_no (n : Int) (w : World) (h : n < 1 ∨ 65536 < n) :
    Calls Tryd.prog 7 #[.int .i64 n] w fun e w' => e = .returned (.tuple #[.pointer none, .int .i64 1]) ∧ w = w' := by
  by_cases h1 : n < 1
  · have d1 : decide (n < 1) = true := by simp; omega
    go_enter Tryd.func7, Tryd.ntmps7
    go_wp2
    go_ret2
    exact ⟨rfl, rfl⟩
  · have d1 : decide (n < 1) = false := by simp; omega
    have d2 : decide (65536 < n) = true := by simp; omega
    go_enter Tryd.func7, Tryd.ntmps7
    go_wp2
    go_ret2
    exact ⟨rfl, rfl⟩

theorem lies_cells {g : Nat} {t : TypeId} : ∀ (vs pre cur : List Value) (o : Nat) (w : World), Lies w g t (pre ++ cur) → pre.length = o → vs.length = cur.length → Lies (w.setCells g o vs) g t (pre ++ vs)
  | [], pre, cur, o, w, h, _, hl => by
    have : cur = [] := by cases cur with | nil => rfl | cons => simp at hl
    subst this; exact h
  | v :: vs, pre, cur, o, w, h, ho, hl => by
    cases cur with
    | nil => simp at hl
    | cons c cur =>
      have h1 := h.set o v
      have e : (pre ++ c :: cur).set o v = (pre ++ [v]) ++ cur := by subst ho; simp
      rw [e] at h1
      have h2 := lies_cells vs (pre ++ [v]) cur (o + 1) _ h1 (by simp [ho]) (by simpa using hl)
      have e2 : (pre ++ [v]) ++ vs = pre ++ v :: vs := by simp
      rw [e2] at h2
      exact h2
theorem else_cells {g gw : Nat} : ∀ (vs : List Value) (o : Nat) (w : World), Else g gw w (w.setCells gw o vs)
  | [], o, w => Else.refl _ _ _
  | v :: vs, o, w => Else.trans (b := w.setCell ⟨gw, o, none⟩ v) ⟨rfl, rfl, rfl, by simp, fun i hi h1 h2 => Below.heap_setCell w ⟨gw, o, none⟩ v i h2⟩ (else_cells vs (o + 1) _)
theorem own_cells {g gw : Nat} {t : TypeId} {cs : List Value} (hne : g ≠ gw) : ∀ (vs : List Value) (o : Nat) (w : World), Lies w g t cs → Lies (w.setCells gw o vs) g t cs
  | [], o, w, h => h
  | v :: vs, o, w, h => own_cells hne vs (o + 1) _ (h.far (p := ⟨gw, o, none⟩) hne v)
theorem zeroW (w : World) : (zeroValue 47).run Tryd.prog w = .ok (.int .u64 0) w := by kernel_rfl

section
variable {w : World} {g gw n : Nat} {ws : List Nat}
set_option maxHeartbeats 1000000 in
theorem clear_any (h : At w g gw n ws) : Calls Tryd.prog 15 #[.pointer (some ⟨g, 0, none⟩)] w fun e w' => e = .returned (.tuple #[]) ∧ At w' g gw n (List.replicate ((n + 63) / 64) 0) ∧ Else g gw w w' := by
  have hc1 := h.c1
  have hl : 0 < ws.length := by have := h.many; have := h.some_; omega
  have hcl : ∀ ty, (Builtin.clear_ #[44] ty #[.slice (some ⟨gw, 0, none⟩) ws.length ws.length]).run Tryd.prog w = .ok (.tuple #[]) (w.setCells gw 0 (List.replicate ws.length (.int .u64 0))) :=
    fun ty => Lib.run_clear_slice w 44 47 ty (.int .u64 0) Tryd.underlying44 zeroW rfl rfl gw 0 ws.length ws.length hl
      (fun j hj => by rw [Nat.zero_add, h.word hj]; rfl) (fun j hj => h.words.frozen _)
  have HL : Hid (Lies (w.setCells gw 0 (List.replicate ws.length (.int .u64 0))) gw 47 (noughts ws.length)) :=
    Lib.hid (by have := lies_cells (List.replicate ws.length (.int .u64 0)) [] (ws.map fun x => Value.int .u64 (x : Nat)) 0 w h.words rfl (by simp); exact this)
  have HO := Lib.hid (own_cells h.gne (List.replicate ws.length (.int .u64 0)) 0 w h.own)
  have HE := Lib.hid (else_cells (g := g) (gw := gw) (List.replicate ws.length (.int .u64 0)) 0 w)
  have H := Lib.hid h
  clear h
  go_enter Tryd.func15, Tryd.ntmps15
  go_wp2_with (simp only [hcl])
  go_end0
  have hm := H.out.many
  refine ⟨rfl, ⟨?_, ?_, by simp, H.out.some_, H.out.most, fun x hx => ?_, fun p hp => ?_⟩, HE.out⟩
  · rw [← hm, List.length_replicate]; exact HO.out
  · rw [← hm, ← noughts_eq]; exact HL.out
  · have := (List.mem_replicate.1 hx).2; omega
  · rw [bit_new] at hp; cases hp
end
end Go.Proofs.YtiomiaciaefbaaaDoor
