/- Words and Log: copies of what there is. -/
import Derived.Test.YtpifnhfdbcckjaaNew
namespace Go.Proofs.Ytpifnhfdbcckjaa
open Go.RowKit
set_option linter.unusedVariables false
set_option linter.unusedSimpArgs false

theorem add_at (q i : Nat) : (⟨q, 0, none⟩ : Addr).add i = ⟨q, i, none⟩ := by unfold Addr.add; split <;> simp_all

/-- The built-in copy of elements of several cells, onto a block. -/
theorem run_copy_wide {P : Program} (w : World) (dT sT ty elem : TypeId) (size n g dLen dCap : Nat) (a : Addr) (sLen sCap : Nat) (cur : Array Value) (t : TypeId) (cs : List Value)
    (hu : P.underlying dT = some (.slice elem)) (hs : (P.info? elem).map (·.size) = some size)
    (hg : w.heap[g]? = some (.cells cur t (0, 0))) (hm : Nat.min sLen dLen = n) (hn : cs.length = n * size)
    (hsrc : ∀ j v, cs[j]? = some v → w.cell? (a.add j) = some v) (hfit : cs.length ≤ cur.size) (h1 : ∀ v ∈ cs, v.oneCell' = true) :
    (Builtin.copy_ #[dT, sT] ty #[.slice (some ⟨g, 0, none⟩) dLen dCap, .slice (some a) sLen sCap]).run P w =
      .ok (goInt n) (w.setRow g (cs ++ cur.toList.drop cs.length).toArray) := by
  have hl := run_loadCells_list (P := P) w a cs hsrc
  have hst := run_storeCells_at P g 0 t cs 0 cur w hg (by simpa using hfit) h1
  cases hq : P.info? elem with
  | none => simp [hq] at hs
  | some i =>
    have hi : i.size = size := by simpa [hq] using hs
    rw [hn] at hl
    simp [Builtin.copy_, run_underlying hu, Builtin.lenOf, Builtin.firstCells, sizeOf, typeInfo, hq, hi, hm, hl, hst]

theorem run_copy_zero {P : Program} (w : World) (dT sT ty elem : TypeId) (size : Nat) (d a : Option Addr) (dLen dCap sLen sCap : Nat) (hu : P.underlying dT = some (.slice elem)) (hs : (P.info? elem).map (·.size) = some size) (hn : Nat.min sLen dLen = 0) :
    (Builtin.copy_ #[dT, sT] ty #[.slice d dLen dCap, .slice a sLen sCap]).run P w = .ok (goInt 0) w := by
  cases hq : P.info? elem with
  | none => simp [hq] at hs
  | some i =>
    have hl : ∀ (x : Addr), (loadCells x 0).run P w = .ok #[] w := fun x => by simpa using run_loadCells_list (P := P) w x [] (by simp)
    cases d <;> cases a <;> simp [Builtin.copy_, run_underlying hu, Builtin.lenOf, Builtin.firstCells, sizeOf, typeInfo, hq, hn, storeCells, hl]

theorem one_ints (zs : List Int) : ∀ v ∈ zs.map (Value.int .i64), v.oneCell' = true := fun v hv => by simp at hv; obtain ⟨a, _, rfl⟩ := hv; rfl
theorem one_cellsT (ts : List Tc) : ∀ v ∈ cellsT ts, v.oneCell' = true := fun v hv => by
  simp only [cellsT, List.mem_flatMap] at hv
  obtain ⟨t, _, ht⟩ := hv
  simp [Tc.cells] at ht
  rcases ht with rfl | rfl | rfl | rfl | rfl <;> rfl

section
variable {w : World} {base g gw : Nat} {zs : List Int} {A : Option Addr} {c : Nat} {ts : List Tc}

theorem run_copy29 (h : At w base g gw zs A c ts) :
    ∃ w2, (Builtin.copy_ #[50, 50] 3 #[.slice (some ⟨w.heap.size, 0, none⟩) zs.length zs.length, .slice (some ⟨gw, 0, none⟩) zs.length zs.length]).run Try.prog (w.alloc (.cells (noughts zs.length).toArray 3)) = .ok (goInt zs.length) w2 ∧
      Lies w2 w.heap.size 3 (zs.map (Value.int .i64)) ∧ Below w.heap.size w w2 := by
  have hB : Below w.heap.size w (w.alloc (.cells (noughts zs.length).toArray 3)) := below_one _ _
  have hg : Lies (w.alloc (.cells (noughts zs.length).toArray 3)) w.heap.size 3 (noughts zs.length) := Lies.new w 3 (noughts zs.length)
  have hw := h.words.kept hB
  have hrun := run_copy_wide (P := Try.prog) (w.alloc (.cells (noughts zs.length).toArray 3)) 50 50 3 3 1 zs.length w.heap.size zs.length zs.length ⟨gw, 0, none⟩ zs.length zs.length _ 3 (zs.map (Value.int .i64)) Try.underlying50 (by kernel_rfl) hg (Nat.min_self _) (by simp)
    (fun j v hv => by rw [add_at, hw.cell j]; exact hv) (by simp [noughts_length]) (one_ints zs)
  refine ⟨_, hrun, ?_, below_setRow hB (Nat.le_refl _) _⟩
  unfold Lies
  rw [setRow_heap _ _ _ _ _ _ hg]
  simp [noughts]

set_option maxHeartbeats 1000000 in
theorem words_any (h : At w base g gw zs A c ts) : Calls Try.prog 19 #[.pointer (some ⟨g, 0, none⟩)] w fun e w' => e = .returned (.slice (some ⟨w.heap.size, 0, none⟩) zs.length zs.length) ∧ Lies w' w.heap.size 3 (zs.map (Value.int .i64)) ∧ Below w.heap.size w w' := by
  have hmk := make29 zs.length h.most
  have hc0 : w.cell? ⟨g, 0, none⟩ = some (.slice (some ⟨gw, 0, none⟩) zs.length zs.length) := h.own.cell 0
  have hlt := h.own.lt
  obtain ⟨w2, hcp, hL, hB⟩ := run_copy29 h
  clear h
  go_enter Try.func19, Try.ntmps19
  go_wp2
  go_ret
  exact ⟨rfl, hL, hB⟩

/-- Noughts for so many touches. -/
def blank (n : Nat) : List Value := List.replicate (n * 5) (.int .i64 0)
theorem blank_length (n : Nat) : (blank n).length = n * 5 := by simp [blank]
theorem made_five (z : Value) (n : Nat) : madeCells #[z, z, z, z, z] (n * 5) = (List.replicate (n * 5) z).toArray := by
  apply Array.ext
  · simp [madeCells]
  · intro i h1 h2
    have h5 : i % 5 = 0 ∨ i % 5 = 1 ∨ i % 5 = 2 ∨ i % 5 = 3 ∨ i % 5 = 4 := by omega
    rcases h5 with h | h | h | h | h <;> simp [madeCells, h]
theorem info39 : ∃ i, Try.prog.info? 58 = some i ∧ i.zero = some (.agg #[.int .i64 0, .int .i64 0, .int .i64 0, .int .i64 0, .int .i64 0]) ∧ i.size = 5 ∧ i.bytes = 40 := ⟨_, rfl, rfl, rfl, rfl⟩
theorem make30 (n : Nat) (hn : n ≤ 65536) (w : World) : (Instr.makeSlice 37 (.int .i64 (n : Int)) (.int .i64 (n : Int))).run Try.prog w = .ok (.slice (some ⟨w.heap.size, 0, none⟩) n n) (w.alloc (.cells (blank n).toArray 58)) := by
  obtain ⟨i0, hi0, hz0, hz1, hz2⟩ := info39
  have := run_make (P := Try.prog) w 37 58 i0 _ Try.underlying37 hi0 hz0 .i64 .i64 n n (by omega) (Int.le_refl _) (by rw [hz2]; omega) (by omega)
  rw [this, hz1]
  simp [Value.cells, made_five, blank]

/-- The built-in copy, as a step of a region that draws its order. -/
theorem step_copy30 {ops : Array Oper} {o : Oper} {a : Act} {W W' : World} {K : Act → World → Prop} {Q : Exit → Act → World → Prop} {E : Prop} (hgd : o.guard = none) (d s : Operand)
    (ho : o.op = .call { callee := .builtin .copy, args := #[d, s], argTypes := #[37, 37] }) (vd vs v : Value) (hd : a.eval d = vd) (hs : a.eval s = vs)
    (hrun : (Builtin.copy_ #[37, 37] o.type #[vd, vs]).run Try.prog W = .ok v W') (h : K (a.put o.dst v) W') :
    if Region.wanted o (yielded ops a.tmps) = true then Oper.wp Try.prog o a W K Q else E := by
  have hw : Region.wanted o (yielded ops a.tmps) = true := by simp [Region.wanted, hgd]
  rw [if_pos hw]
  unfold Oper.wp
  simp [execOp, ho, resolve, invoke, builtin, hd, hs, hrun, Result.andThen]
  exact h

theorem run_copy30 {q : Nat} (ty : TypeId) (W : World) (hq : Lies W q 58 (blank ts.length)) (hlog : W.ownsRow base 58 5 (.slice A ts.length c) ts.length (cellsT ts)) (B : Nat) (hB : B ≤ q) :
    ∃ W', (Builtin.copy_ #[37, 37] ty #[.slice (some ⟨q, 0, none⟩) ts.length ts.length, .slice A ts.length c]).run Try.prog W = .ok (.int .i64 ts.length) W' ∧ Lies W' q 58 (cellsT ts) ∧ Below B W W' := by
  obtain ⟨h1, ⟨e, h0⟩ | ⟨p, cap, cur, e, hp0, hp, hp1, hp2, hp3, hp4⟩⟩ := hlog
  · have : ts = [] := List.eq_nil_of_length_eq_zero h0
    subst this
    exact ⟨W, run_copy_zero (P := Try.prog) W 37 37 ty 58 5 _ _ _ _ _ _ Try.underlying37 (by kernel_rfl) rfl, hq, Below.refl _ _⟩
  · injection e with e1 e2 e3
    subst e1
    have hrun := run_copy_wide (P := Try.prog) W 37 37 ty 58 5 ts.length q ts.length ts.length ⟨p, 0, none⟩ ts.length c _ 58 (cellsT ts) Try.underlying37 (by kernel_rfl) hq (Nat.min_self _) (cellsT_len ts)
      (fun j v hv => by
        refine World.news_of_block hp j v ?_
        rw [← hp4, List.getElem?_take] at hv
        split at hv
        · exact hv
        · cases hv) (by simp [blank_length, cellsT_len]) (one_cellsT ts)
    refine ⟨_, hrun, ?_, below_setRow (Below.refl _ _) hB _⟩
    unfold Lies
    rw [setRow_heap _ _ _ _ _ _ hq]
    simp [blank, cellsT_len]
end
end Go.Proofs.Ytpifnhfdbcckjaa
