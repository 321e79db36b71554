/- A row of numbers that grows and is cut at its end, in a slice of its own. -/
import Derived.Test.YtelompgefldojaaNear
import Derived.Deep.AppendSrc
namespace Go.Proofs.Ytelompgefldojaa
open Go.RowKit
set_option linter.unusedVariables false
set_option linter.unusedSimpArgs false

/-- The slice (B, so many, cap) holds these numbers; its block lies behind base. -/
def Rv (w : World) (base : Nat) (B : Option Addr) (cap : Nat) (row : List Int) : Prop :=
  (B = none ∧ cap = 0 ∧ row = []) ∨ ∃ q cs, B = some ⟨q, 0, none⟩ ∧ base ≤ q ∧ Lies w q 3 cs ∧ cap ≤ cs.length ∧ row.length ≤ cap ∧ ∀ i, i < row.length → cs[i]? = some (.int .i64 (row.getD i 0))

section
variable {w w' : World} {base : Nat} {B : Option Addr} {cap : Nat} {row : List Int}
theorem Rv.kept (h : Rv w base B cap row) (hk : ∀ b cs, blk B = some b → Lies w b 3 cs → Lies w' b 3 cs) : Rv w' base B cap row := by
  rcases h with h | ⟨q, cs, rfl, h2, h3, h4⟩
  · exact Or.inl h
  · exact Or.inr ⟨q, cs, rfl, h2, hk q cs rfl h3, h4⟩
theorem Rv.below (h : Rv w base B cap row) (hb : Below w.heap.size w w') : Rv w' base B cap row := h.kept fun b cs _ hl => hl.kept hb
theorem Rv.nil (w : World) (base : Nat) : Rv w base none 0 [] := Or.inl ⟨rfl, rfl, rfl⟩
theorem Rv.lies (h : Rv w base B cap row) {k : Nat} (hk : blk B = some k) : ∃ cs, Lies w k 3 cs ∧ base ≤ k := by
  rcases h with ⟨rfl, _, _⟩ | ⟨q, cs, rfl, h2, h3, _⟩
  · cases hk
  · obtain rfl : q = k := by simpa [blk] using hk
    exact ⟨cs, h3, h2⟩
theorem Rv.some_ (h : Rv w base B cap row) (h0 : 0 < row.length) : ∃ q cs, B = some ⟨q, 0, none⟩ ∧ base ≤ q ∧ Lies w q 3 cs ∧ cap ≤ cs.length ∧ row.length ≤ cap ∧ ∀ i, i < row.length → cs[i]? = some (.int .i64 (row.getD i 0)) := by
  rcases h with ⟨_, _, rfl⟩ | h
  · simp at h0
  · exact h
theorem Rv.at_ (h : Rv w base B cap row) {i : Nat} (hi : i < row.length) : ∃ ad q, B = some ad ∧ ad = ⟨q, 0, none⟩ ∧ w.cell? (ad.add i) = some (.int .i64 (row.getD i 0)) ∧ w.frozen? (ad.add i) = false := by
  obtain ⟨q, cs, h1, h2, h3, h4, h5, h6⟩ := h.some_ (by omega)
  exact ⟨_, q, h1, rfl, by rw [add_at, h3.cell, h6 i hi], by rw [add_at]; exact h3.frozen i⟩

theorem firstCells_rv (h : Rv w base B cap row) (W : World) (hW : ∀ a, W.cell? a = w.cell? a) :
    (Builtin.firstCells 1 row.length (.slice B row.length cap)).run Try.prog W = .ok (row.map (Value.int .i64)).toArray W := by
  rcases h with ⟨rfl, rfl, rfl⟩ | ⟨q, cs, rfl, h2, h3, h4, h5, h6⟩
  · exact run_firstCells_none W 1 0 0 0
  · refine run_firstCells_some W 1 row.length _ _ _ _ (by simp) fun j u hu => ?_
    have hj : j < row.length := by
      have := (List.getElem?_eq_some_iff.1 hu).1
      simpa using this
    rw [hW, add_at, h3.cell, h6 j hj, ← hu]
    simp [hj, List.getD]
theorem info_3 : ∃ i z, Try.prog.info? 3 = some i ∧ i.zero = some z ∧ i.size = 1 ∧ i.bytes = 8 ∧ z.cells.size = 1 ∧ z.cells = #[.int .i64 0] := ⟨_, _, rfl, rfl, rfl, rfl, rfl, rfl⟩

/-- One more, behind the last one. -/
theorem run_append_rv (h : Rv w base B cap row) (hbase : base ≤ w.heap.size) (hlen : row.length ≤ 2000) (ad : Addr) (y : Int) (hy : w.cell? ad = some (.int .i64 y)) (ty : TypeId) :
    ∃ B' cap' w', (Builtin.append_ #[26, 26] ty #[.slice B row.length cap, .slice (some ad) 1 1]).run Try.prog w = .ok (.slice B' (row.length + 1) cap') w' ∧ Rv w' base B' cap' (row ++ [y]) ∧ w.grownBy w' (blk B) ∧ (blk B' = blk B ∨ blk B' = some w.heap.size) := by
  obtain ⟨i0, z0, hi, hz, hs, hby, hzc, hzc2⟩ := info_3
  have src : Src Try.prog i0.size 26 (.slice (some ad) 1 1) 1 [.int .i64 y] w := Src.ofSlice w Try.underlying26 ad 1 1 [.int .i64 y] (by simp [hs]) (fun j u hu => by
    cases j with
    | zero => simp at hu; subst hu; rw [Addr.add_zero']; exact hy
    | succ j => simp at hu) (fun u hu => by simp at hu; subst hu; rfl)
  by_cases hr : row.length + 1 ≤ cap
  · rcases h with ⟨rfl, rfl, rfl⟩ | ⟨q, cs, rfl, h2, h3, h4, h5, h6⟩
    · simp at hr
    · have hcell : row.length < cs.length := by omega
      have hrun := run_append_room_src w 26 26 ty 3 i0 Try.underlying26 hi q 0 row.length cap (.slice (some ad) 1 1) 1 [.int .i64 y] src hr
        (fun j hj => by
          have : j = 0 := by simpa using hj
          subst this
          rw [h3.cell, hs]; simp [hcell]) (fun j hj => h3.frozen _)
      have esc : w.setCells q (0 + row.length * i0.size) [.int .i64 y] = w.setCell ⟨q, row.length, none⟩ (.int .i64 y) := by
        rw [hs, Nat.mul_one, Nat.zero_add]; rfl
      rw [esc] at hrun
      refine ⟨_, _, _, hrun, Or.inr ⟨q, cs.set row.length (.int .i64 y), rfl, h2, h3.set _ _, by simpa using h4, by simpa using hr, fun i hi' => ?_⟩, ⟨rfl, rfl, rfl, by simp, fun k hk hne => Below.heap_setCell w _ _ k (fun e => hne (by rw [e]; rfl))⟩, Or.inl rfl⟩
      simp at hi'
      by_cases hi2 : i < row.length
      · rw [List.getElem?_set_ne (by omega), h6 i hi2]; simp [List.getD, List.getElem?_append, hi2]
      · have : i = row.length := by omega
        subst this
        rw [List.getElem?_set_self hcell]; simp [List.getD]
  · have hold := firstCells_rv h w.drew (fun _ => rfl)
    have hfit : Builtin.nextslicecap (row.length + 1) cap * i0.bytes ≤ 281474976710656 := growslice_fits (by omega) (by rw [hby]; omega)
    have hrun := run_append_grow_src w 26 26 ty 3 i0 z0 Try.underlying26 hi hz B row.length cap (row.map (Value.int .i64)) (by rw [hs]; exact hold) (.slice (some ad) 1 1) 1 [.int .i64 y] src (by omega) (by omega) hfit
    have hge := grownCap_ge w (row.length + 1) cap 3
    generalize grownCap w (row.length + 1) cap 3 = gc at hrun hge
    refine ⟨_, _, _, hrun, Or.inr ⟨w.heap.size, (row.map (Value.int .i64) ++ [.int .i64 y]) ++ (Builtin.zeroCells z0.cells (gc - (row.length + 1))).toList, rfl, hbase, ?_, ?_, by simpa using hge, fun i hi' => ?_⟩, ?_, Or.inr rfl⟩
    · have := Lies.new w.drew 3 ((row.map (Value.int .i64) ++ [.int .i64 y]) ++ (Builtin.zeroCells z0.cells (gc - (row.length + 1))).toList)
      have e : ((row.map (Value.int .i64) ++ [Value.int .i64 y]) ++ (Builtin.zeroCells z0.cells (gc - (row.length + 1))).toList).toArray = (row.map (Value.int .i64) ++ [Value.int .i64 y]).toArray ++ Builtin.zeroCells z0.cells (gc - (row.length + 1)) := by
        apply Array.ext'; simp
      rw [e] at this
      exact this
    · have hsz := size_zeroCells z0.cells (gc - (row.length + 1))
      rw [hzc] at hsz
      simp only [List.length_append, List.length_map, List.length_cons, List.length_nil, Array.length_toList, hsz]
      omega
    · simp at hi'
      rw [List.getElem?_append_left (by simp; omega)]
      by_cases hi2 : i < row.length
      · rw [List.getElem?_append_left (by simpa using hi2)]; simp [List.getD, List.getElem?_append, hi2]
      · have : i = row.length := by omega
        subst this
        simp [List.getD]
    · refine ⟨rfl, rfl, rfl, ?_, fun k hk _ => ?_⟩
      · show _ ≤ (w.heap.push _).size; simp
      · show (w.heap.push _)[k]? = _
        simp [Array.getElem?_push, Nat.ne_of_lt hk]

theorem wpList_append_rv {ops : Array Oper} {rest : List Oper} {o : Oper} {a : Act} {Q : Exit → Act → World → Prop} (hgd : o.guard = none) (s x : Operand)
    (ho : o.op = .call { callee := .builtin .append, args := #[s, x], argTypes := #[26, 26] }) (hs : a.eval s = .slice B row.length cap) (h : Rv w base B cap row) (hbase : base ≤ w.heap.size) (hlen : row.length ≤ 2000) (ad : Addr) (y : Int) (hx : a.eval x = .slice (some ad) 1 1) (hy : w.cell? ad = some (.int .i64 y))
    (k : ∀ B' cap' w', Rv w' base B' cap' (row ++ [y]) → w.grownBy w' (blk B) → (blk B' = blk B ∨ blk B' = some w.heap.size) → wpList Try.prog ops Q rest (a.put o.dst (.slice B' (row.length + 1) cap')) w') : wpList Try.prog ops Q (o :: rest) a w := by
  refine wpList_plain hgd fun _ hK => ?_
  obtain ⟨B', cap', w', hr, h2, h3, h4⟩ := run_append_rv h hbase hlen ad y hy o.type
  unfold Oper.wp execOp
  simp only [ho, resolve, invoke, builtin, Sem.run_bind, Sem.run_pure, Result.andThen_ok, List.map_toArray, List.map_cons, List.map_nil, hs, hx, hr]
  exact hK _ _ (k B' cap' w' h2 h3 h4)

/-- The last one is cut off. -/
theorem Rv.cut {y : Int} {r : List Int} (h : Rv w base B cap (r ++ [y])) : (∀ W : World, (Instr.slice 26 (.slice B (r.length + 1) cap) none (some (.int .i64 (r.length : Int))) none).run Try.prog W = .ok (.slice B r.length cap) W) ∧ Rv w base B cap r := by
  obtain ⟨q, cs, rfl, h2, h3, h4, h5, h6⟩ := h.some_ (by simp)
  obtain ⟨i0, hi0, hz0, hz1, hz2⟩ := info3
  simp at h5
  have a3 : (r.length : Int) ≤ (cap : Int) := by omega
  refine ⟨fun W => ?_, Or.inr ⟨q, cs, rfl, h2, h3, by omega, by omega, fun i hi => ?_⟩⟩
  · have hc1 : ¬ (cap = 0) := by omega
    simp [Instr.slice, run_underlying Try.underlying26, Instr.sliceBounds, go_sem, sizeOf, typeInfo, hi0, hz1, a3, add_at, hc1]
  · rw [h6 i (by simp; omega)]; simp [List.getD, List.getElem?_append, hi]
/-- One of them is turned. -/
theorem Rv.turn {q : Nat} (h : Rv w base (some ⟨q, 0, none⟩) cap row) (i : Nat) (y : Int) : Rv (w.setCell ⟨q, i, none⟩ (.int .i64 y)) base (some ⟨q, 0, none⟩) cap (row.set i y) := by
  rcases h with ⟨h, _⟩ | ⟨q', cs, e, h2, h3, h4, h5, h6⟩
  · cases h
  · injection e with e
    injection e with e _
    subst e
    refine Or.inr ⟨q, cs.set i (.int .i64 y), rfl, h2, h3.set i _, by simpa using h4, by simpa using h5, fun j hj => ?_⟩
    simp at hj
    by_cases hji : j = i
    · subst hji
      rw [List.getElem?_set_self (by omega)]; simp [List.getD, hj]
    · rw [List.getElem?_set_ne (by omega), h6 j hj]; simp [List.getD, List.getElem?_set, Ne.symm hji]

theorem make26 (n : Nat) (hn : n ≤ 65536) (w : World) : (Instr.makeSlice 26 (.int .i64 (n : Int)) (.int .i64 (n : Int))).run Try.prog w = .ok (.slice (some ⟨w.heap.size, 0, none⟩) n n) (w.alloc (.cells (noughts n).toArray 3)) := make29 n hn w
/-- All of them, as a new slice. -/
theorem run_copy_rv (h : Rv w base B cap row) : ∃ w2, (Builtin.copy_ #[26, 26] 3 #[.slice (some ⟨w.heap.size, 0, none⟩) row.length row.length, .slice B row.length cap]).run Try.prog (w.alloc (.cells (noughts row.length).toArray 3)) = .ok (goInt row.length) w2 ∧
      Lies w2 w.heap.size 3 (row.map (Value.int .i64)) ∧ Below w.heap.size w w2 := by
  have hB : Below w.heap.size w (w.alloc (.cells (noughts row.length).toArray 3)) := below_one _ _
  have hg : Lies (w.alloc (.cells (noughts row.length).toArray 3)) w.heap.size 3 (noughts row.length) := Lies.new w 3 (noughts row.length)
  rcases h.below hB with ⟨rfl, rfl, rfl⟩ | ⟨q, cs, rfl, h2, h3, h4, h5, h6⟩
  · exact ⟨_, run_copy_zero (P := Try.prog) _ 26 26 3 3 1 _ _ _ _ _ _ Try.underlying26 (by kernel_rfl) rfl, hg, hB⟩
  · have hrun := run_copy_wide (P := Try.prog) (w.alloc (.cells (noughts row.length).toArray 3)) 26 26 3 3 1 row.length w.heap.size row.length row.length ⟨q, 0, none⟩ row.length cap _ 3 (row.map (Value.int .i64)) Try.underlying26 (by kernel_rfl) hg (Nat.min_self _) (by simp)
      (fun j v hv => by
        have hj : j < row.length := by have := (List.getElem?_eq_some_iff.1 hv).1; simpa using this
        rw [add_at, h3.cell j, h6 j hj, ← hv]; simp [hj, List.getD]) (by simp [noughts_length]) (one_ints row)
    refine ⟨_, hrun, ?_, below_setRow hB (Nat.le_refl _) _⟩
    unfold Lies
    rw [setRow_heap _ _ _ _ _ _ hg]
    simp [noughts]
end
end Go.Proofs.Ytelompgefldojaa
