/- A row of numbers that is cut at both ends, and grows. -/
import Derived.Test.YtcnpbdboeaaajaaPb
import Derived.Deep.AppendSrc
namespace Go.Proofs.Ytcnpbdboeaaajaa
open Go.RowKit
set_option linter.unusedVariables false
set_option linter.unusedSimpArgs false

/-- A slice holds these numbers; its block lies behind base, and isn't gw. -/
def Rw (w : World) (base gw : Nat) (v : Value) (row : List Int) : Prop :=
  (v = .slice none 0 0 ∧ row = []) ∨ ∃ q off cap cs, v = .slice (some ⟨q, off, none⟩) row.length cap ∧ base ≤ q ∧ q ≠ gw ∧ Lies w q 3 cs ∧ off + cap ≤ cs.length ∧ row.length ≤ cap ∧ ∀ i, i < row.length → cs[off + i]? = some (.int .i64 (row.getD i 0))

theorem add_mid' (b o j : Nat) : (⟨b, o, none⟩ : Addr).add j = ⟨b, o + j, none⟩ := by unfold Addr.add; split <;> simp_all

section
variable {w w' : World} {base gw : Nat} {v : Value} {row : List Int}
theorem Rw.kept (h : Rw w base gw v row) (hk : ∀ b cs, Lies w b 3 cs → b ≠ gw → Lies w' b 3 cs) : Rw w' base gw v row := by
  rcases h with h | ⟨q, off, cap, cs, h1, h2, h3, h4, h5⟩
  · exact Or.inl h
  · exact Or.inr ⟨q, off, cap, cs, h1, h2, h3, hk q cs h4 h3, h5⟩
theorem Rw.below (h : Rw w base gw v row) (hb : Below w.heap.size w w') : Rw w' base gw v row := h.kept fun b cs hl _ => hl.kept hb
theorem Rw.nil (w : World) (base gw : Nat) : Rw w base gw (.slice none 0 0) [] := Or.inl ⟨rfl, rfl⟩
theorem Rw.form (h : Rw w base gw v row) : ∃ A cap, v = .slice A row.length cap := by
  rcases h with ⟨rfl, rfl⟩ | ⟨q, off, cap, cs, h1, _⟩
  · exact ⟨none, 0, rfl⟩
  · exact ⟨_, cap, h1⟩
theorem Rw.some_ (h : Rw w base gw v row) (h0 : 0 < row.length) : ∃ q off cap cs, v = .slice (some ⟨q, off, none⟩) row.length cap ∧ base ≤ q ∧ q ≠ gw ∧ Lies w q 3 cs ∧ off + cap ≤ cs.length ∧ row.length ≤ cap ∧ ∀ i, i < row.length → cs[off + i]? = some (.int .i64 (row.getD i 0)) := by
  rcases h with ⟨rfl, rfl⟩ | h
  · simp at h0
  · exact h
theorem info_3 : ∃ i z, Try.prog.info? 3 = some i ∧ i.zero = some z ∧ i.size = 1 ∧ i.bytes = 8 ∧ z.cells.size = 1 ∧ z.cells = #[.int .i64 0] := ⟨_, _, rfl, rfl, rfl, rfl, rfl, rfl⟩

theorem firstCells_rw (h : Rw w base gw v row) (cap : Nat) (A : Option Addr) (hv : v = .slice A row.length cap) (W : World) (hW : ∀ a, W.cell? a = w.cell? a) :
    (Builtin.firstCells 1 row.length (.slice A row.length cap)).run Try.prog W = .ok (row.map (Value.int .i64)).toArray W := by
  rcases h with ⟨rfl, rfl⟩ | ⟨q, off, cap', cs, h1, h2, h3, h4, h5, h6, h7⟩
  · injection hv with hA _ _
    subst hA
    exact run_firstCells_none W 1 0 0 cap
  · rw [h1] at hv
    injection hv with hA _ hc
    subst hA
    refine run_firstCells_some W 1 row.length _ _ _ _ (by simp) fun j u hu => ?_
    have hj : j < row.length := by
      have := (List.getElem?_eq_some_iff.1 hu).1
      simpa using this
    have ea : (⟨q, off, none⟩ : Addr).add j = ⟨q, off + j, none⟩ := by unfold Addr.add; split <;> simp_all
    rw [hW, ea, h4.cell, h7 j hj, ← hu]
    simp [hj, List.getD]

theorem run_append_rw (h : Rw w base gw v row) (hbase : base ≤ w.heap.size) (hgw : gw < w.heap.size) (hlen : row.length ≤ 1000) (ad : Addr) (y : Int) (hy : w.cell? ad = some (.int .i64 y)) (ty : TypeId) :
    ∃ v' w', (Builtin.append_ #[22, 22] ty #[v, .slice (some ad) 1 1]).run Try.prog w = .ok v' w' ∧ Rw w' base gw v' (row ++ [y]) ∧ w.grownBy w' v.ownBlock := by
  obtain ⟨i0, z0, hi, hz, hs, hby, hzc, hzc2⟩ := info_3
  have src : Src Try.prog i0.size 22 (.slice (some ad) 1 1) 1 [.int .i64 y] w := Src.ofSlice w Try.underlying22 ad 1 1 [.int .i64 y] (by simp [hs]) (fun j u hu => by
    cases j with
    | zero => simp at hu; subst hu; rw [Addr.add_zero']; exact hy
    | succ j => simp at hu) (fun u hu => by simp at hu; subst hu; rfl)
  obtain ⟨A, cap, hv⟩ := h.form
  by_cases hr : row.length + 1 ≤ cap
  · rcases h with ⟨rfl, rfl⟩ | ⟨q, off, cap', cs, h1, h2, h3, h4, h5, h6, h7⟩
    · injection hv with _ _ hc
      subst hc
      simp at hr
    · rw [h1] at hv
      injection hv with hA _ hc
      subst hA hc h1
      have hcell : off + row.length < cs.length := by omega
      have hrun := run_append_room_src w 22 22 ty 3 i0 Try.underlying22 hi q off row.length cap' (.slice (some ad) 1 1) 1 [.int .i64 y] src hr
        (fun j hj => by
          have : j = 0 := by simpa using hj
          subst this
          rw [h4.cell, hs]; simp [hcell]) (fun j hj => h4.frozen _)
      have esc : w.setCells q (off + row.length * i0.size) [.int .i64 y] = w.setCell ⟨q, off + row.length, none⟩ (.int .i64 y) := by
        rw [hs, Nat.mul_one]; rfl
      rw [esc] at hrun
      refine ⟨_, _, hrun, Or.inr ⟨q, off, cap', cs.set (off + row.length) (.int .i64 y), by simp, h2, h3, h4.set _ _, by simpa using h5, by simpa using hr, fun i hi' => ?_⟩, ⟨rfl, rfl, rfl, by simp, fun k hk hne => Below.heap_setCell w _ _ k (fun e => hne (by rw [e]; rfl))⟩⟩
      simp at hi'
      by_cases hi2 : i < row.length
      · rw [List.getElem?_set_ne (by omega), h7 i hi2]; simp [List.getD, List.getElem?_append, hi2]
      · have : i = row.length := by omega
        subst this
        rw [List.getElem?_set_self hcell]; simp [List.getD]
  · have hold := firstCells_rw h cap A hv w.drew (fun _ => rfl)
    subst hv
    have hfit : Builtin.nextslicecap (row.length + 1) cap * i0.bytes ≤ 281474976710656 := growslice_fits (by omega) (by rw [hby]; omega)
    have hrun := run_append_grow_src w 22 22 ty 3 i0 z0 Try.underlying22 hi hz A row.length cap (row.map (Value.int .i64)) (by rw [hs]; exact hold) (.slice (some ad) 1 1) 1 [.int .i64 y] src (by omega) (by omega) hfit
    have hge := grownCap_ge w (row.length + 1) cap 3
    generalize grownCap w (row.length + 1) cap 3 = gc at hrun hge
    refine ⟨_, _, hrun, Or.inr ⟨w.heap.size, 0, gc, (row.map (Value.int .i64) ++ [.int .i64 y]) ++ (Builtin.zeroCells z0.cells (gc - (row.length + 1))).toList, by simp, hbase, by omega, ?_, ?_, by simpa using hge, fun i hi' => ?_⟩, ?_⟩
    · have := Lies.new w.drew 3 ((row.map (Value.int .i64) ++ [.int .i64 y]) ++ (Builtin.zeroCells z0.cells (gc - (row.length + 1))).toList)
      have e : ((row.map (Value.int .i64) ++ [Value.int .i64 y]) ++ (Builtin.zeroCells z0.cells (gc - (row.length + 1))).toList).toArray = (row.map (Value.int .i64) ++ [Value.int .i64 y]).toArray ++ Builtin.zeroCells z0.cells (gc - (row.length + 1)) := by
        apply Array.ext'; simp
      rw [e] at this
      exact this
    · have hsz := size_zeroCells z0.cells (gc - (row.length + 1))
      rw [hzc] at hsz
      simp only [List.length_append, List.length_map, List.length_cons, List.length_nil, Array.length_toList, hsz]
      omega
    · simp at hi'
      rw [Nat.zero_add, List.getElem?_append_left (by simp; omega)]
      by_cases hi2 : i < row.length
      · rw [List.getElem?_append_left (by simpa using hi2)]; simp [List.getD, List.getElem?_append, hi2]
      · have : i = row.length := by omega
        subst this
        simp [List.getD]
    · refine ⟨rfl, rfl, rfl, ?_, fun k hk _ => ?_⟩
      · show _ ≤ (w.heap.push _).size; simp
      · show (w.heap.push _)[k]? = _
        simp [Array.getElem?_push, Nat.ne_of_lt hk]

theorem wpList_append_rw {ops : Array Oper} {rest : List Oper} {o : Oper} {a : Act} {Q : Exit → Act → World → Prop} (hgd : o.guard = none) (s x : Operand)
    (ho : o.op = .call { callee := .builtin .append, args := #[s, x], argTypes := #[22, 22] }) (hs : a.eval s = v) (h : Rw w base gw v row) (hbase : base ≤ w.heap.size) (hgw : gw < w.heap.size) (hlen : row.length ≤ 1000) (ad : Addr) (y : Int) (hx : a.eval x = .slice (some ad) 1 1) (hy : w.cell? ad = some (.int .i64 y))
    (k : ∀ v' w', Rw w' base gw v' (row ++ [y]) → w.grownBy w' v.ownBlock → wpList Try.prog ops Q rest (a.put o.dst v') w') : wpList Try.prog ops Q (o :: rest) a w := by
  refine wpList_plain hgd fun _ hK => ?_
  obtain ⟨v', w', hr, h2, h3⟩ := run_append_rw h hbase hgw hlen ad y hy o.type
  unfold Oper.wp execOp
  simp only [ho, resolve, invoke, builtin, Sem.run_bind, Sem.run_pure, Result.andThen_ok, List.map_toArray, List.map_cons, List.map_nil, hs, hx, hr]
  exact hK _ _ (k v' w' h2 h3)

/-- The first one is cut off. -/
theorem cut_first {y : Int} {r : List Int} {A : Option Addr} {cap : Nat} (h : Rw w base gw (.slice A (r.length + 1) cap) (y :: r)) : ∃ v', (∀ W : World, (Instr.slice 22 (.slice A (r.length + 1) cap) (some (.int .i64 1)) none none).run Try.prog W = .ok v' W) ∧ Rw w base gw v' r := by
  obtain ⟨q, off, cap', cs, h1, h2, h3, h4, h5, h6, h7⟩ := h.some_ (by simp)
  injection h1 with hA _ hc
  subst hA hc
  obtain ⟨i0, hi0, hz0, hz1, hz2⟩ := info3
  simp at h6
  have ea : (⟨q, off, none⟩ : Addr).add 1 = ⟨q, off + 1, none⟩ := add_mid' _ _ _
  have a2 : (1 : Int) ≤ (r.length : Int) + 1 := by omega
  have a3 : (r.length : Int) + 1 ≤ (cap : Int) := by omega
  by_cases hc0 : cap = 1
  · subst hc0
    have hr0 : r = [] := List.length_eq_zero_iff.1 (by omega)
    subst hr0
    refine ⟨.slice (some ⟨q, off, none⟩) 0 0, fun W => ?_, Or.inr ⟨q, off, 0, cs, rfl, h2, h3, h4, by omega, by simp, fun i hi => by simp at hi⟩⟩
    simp [Instr.slice, run_underlying Try.underlying22, Instr.sliceBounds, go_sem, sizeOf, typeInfo, hi0, hz1]
  · refine ⟨.slice (some ⟨q, off + 1, none⟩) r.length (cap - 1), fun W => ?_, Or.inr ⟨q, off + 1, cap - 1, cs, rfl, h2, h3, h4, by omega, by omega, fun i hi => ?_⟩⟩
    · have hc1 : ¬ (cap - 1 = 0) := by omega
      have hc2 : ((cap : Int) - 1).toNat = cap - 1 := by omega
      simp [Instr.slice, run_underlying Try.underlying22, Instr.sliceBounds, go_sem, sizeOf, typeInfo, hi0, hz1, a2, a3, ea, hc0, hc1, hc2]
    · have := h7 (i + 1) (by simp; omega)
      rw [show off + (i + 1) = off + 1 + i by omega] at this
      rw [this]; simp [List.getD]
/-- The last one is cut off. -/
theorem cut_last {y : Int} {r : List Int} {A : Option Addr} {cap : Nat} (h : Rw w base gw (.slice A (r.length + 1) cap) (r ++ [y])) : (∀ W : World, (Instr.slice 22 (.slice A (r.length + 1) cap) none (some (.int .i64 (r.length : Int))) none).run Try.prog W = .ok (.slice A r.length cap) W) ∧ Rw w base gw (.slice A r.length cap) r := by
  obtain ⟨q, off, cap', cs, h1, h2, h3, h4, h5, h6, h7⟩ := h.some_ (by simp)
  injection h1 with hA _ hc
  subst hA hc
  obtain ⟨i0, hi0, hz0, hz1, hz2⟩ := info3
  simp at h6
  have ea : (⟨q, off, none⟩ : Addr).add 0 = ⟨q, off, none⟩ := add_mid' _ _ _
  have a3 : (r.length : Int) ≤ (cap : Int) := by omega
  refine ⟨fun W => ?_, Or.inr ⟨q, off, cap, cs, rfl, h2, h3, h4, by omega, by omega, fun i hi => ?_⟩⟩
  · have hc1 : ¬ (cap = 0) := by omega
    simp [Instr.slice, run_underlying Try.underlying22, Instr.sliceBounds, go_sem, sizeOf, typeInfo, hi0, hz1, a3, ea, hc1]
  · rw [h7 i (by simp; omega)]; simp [List.getD, List.getElem?_append, hi]
end
end Go.Proofs.Ytcnpbdboeaaajaa
