/- A graph that came in reads as a list of nodes and a list of numbers. A row of numbers that grows and is cut at its end, in a slice of its own. -/
import Derived.Test.YtklhdilbmpndkaaGreatRWr2
import Derived.Test.YtklhdilbmpndkaaGreatGi
import Derived.Deep.Slices
import Derived.Deep.AppendSrc
namespace Go.Proofs.YtklhdilbmpndkaaGreat
set_option maxRecDepth 20000
open Go.ChangeShapes Go.WideShapes Go.ChangeAt Go.RowKit Go.Deep
set_option linter.unusedVariables false
set_option linter.unusedSimpArgs false

/-- A node: its kind, the numbers of those that it leads to, how many words more. -/
structure Nd where
  kind : Int
  edges : List Int
  more : Int
def Nd.fit (d : Nd) : Prop := (0 ≤ d.kind ∧ d.kind ≤ 255) ∧ (0 ≤ d.more ∧ d.more ≤ 255) ∧ ∀ e ∈ d.edges, 0 ≤ e ∧ e ≤ 255

/-- A slice of nodes reads as a list. -/
def Nodes (w : World) (A : Option Addr) (ds : List Nd) : Prop :=
  ∀ i d, ds[i]? = some d → ∃ ad E ec, A = some ad ∧ ad.block < w.heap.size ∧ (∀ j v, [Value.int .u8 d.kind, .slice E d.edges.length ec, .int .u8 d.more][j]? = some v → w.cell? (ad.add (i * 3 + j)) = some v) ∧ Mk.Row .u8 w E d.edges
theorem Nodes.kept {w w' : World} {A : Option Addr} {ds : List Nd} (h : Nodes w A ds) (hb : Below w.heap.size w w') : Nodes w' A ds := fun i d hd => by
  obtain ⟨ad, E, ec, e, hl, hc, hr⟩ := h i d hd
  exact ⟨ad, E, ec, e, Nat.lt_of_lt_of_le hl hb.size, fun j v hv => (hb.cell (by rw [block_add]; exact hl)).trans (hc j v hv), hr.kept hb⟩
theorem Nodes.at_ {w w' : World} {A : Option Addr} {ds : List Nd} (h : Nodes w A ds) (hb : Below w.heap.size w w') {i : Nat} {d : Nd} (hd : ds[i]? = some d) :
    ∃ ad E ec, A = some ad ∧ w'.cell? (ad.add (i * 3)) = some (.int .u8 d.kind) ∧ w'.cell? ⟨(ad.add (i * 3)).block, (ad.add (i * 3)).off + 1, none⟩ = some (.slice E d.edges.length ec) ∧
      w'.cell? ⟨(ad.add (i * 3)).block, (ad.add (i * 3)).off + 2, none⟩ = some (.int .u8 d.more) ∧ Mk.Row .u8 w' E d.edges := by
  obtain ⟨ad, E, ec, e, hl, hc, hr⟩ := (h.kept hb) i d hd
  refine ⟨ad, E, ec, e, hc 0 _ rfl, ?_, ?_, hr⟩
  all_goals rw [← add_next _ _ _ (by omega)]
  · exact hc 1 _ rfl
  · exact hc 2 _ rfl

theorem cells54 : Tryz.prog.cellsOf 59 = 3 := by kernel_rfl
theorem cells5 : Tryz.prog.cellsOf 5 = 1 := by kernel_rfl
theorem cells23 : Tryz.prog.cellsOf 23 = 1 := by kernel_rfl
theorem cells22 : Tryz.prog.cellsOf 22 = 1 := by kernel_rfl
theorem cells25 : Tryz.prog.cellsOf 25 = 2 := by kernel_rfl

theorem list3 {α : Type} {l : List α} (h : l.length = 3) : ∃ a b c, l = [a, b, c] := by
  match l, h with
  | [a, b, c], _ => exact ⟨a, b, c, rfl⟩
theorem list2 {α : Type} {l : List α} (h : l.length = 2) : ∃ a b, l = [a, b] := by
  match l, h with
  | [a, b], _ => exact ⟨a, b, rfl⟩

section
variable {H : Type} {enc : TypeId × Value → H} {W : World} {sp : Nat → Bool} {held : Bool}

theorem bytes_reads {n : Nat} {c : Value} {x : DataW H × List MemPlace} (h : DataW.trod enc Tryz.prog W 0 sp held n 23 [c] = some x) :
    ∃ a len cap zs, c = .slice a len cap ∧ Mk.Came .u8 W a len zs ∧ len ≤ maxLen := by
  rcases open_ints Tryz.underlying23 Tryz.underlying5 (by kernel_rfl) h with ⟨hcs, _⟩ | ⟨x, l, c', zs, hcs, _, hl, hm, hz, _, hcell, hwz⟩
  · simp at hcs
    exact ⟨none, 0, 0, [], hcs, ⟨rfl, fun h => by simp at h, fun i => by simp⟩, Nat.zero_le _⟩
  · simp at hcs
    have hz' : l ≤ zs.length := by rw [hz]; split <;> omega
    refine ⟨some x, l, c', zs.take l, hcs, ⟨by simp; omega, fun h0 => ⟨x, rfl, ?_, fun j v hv => ?_⟩, fun z hz => ?_⟩, by omega⟩
    · have h1 : 0 < zs.length := by simp at h0; omega
      have := hcell 0 h1
      exact World.block_lt_of_cell? W _ this
    · simp only [List.getElem?_map, List.getElem?_take] at hv
      split at hv
      · have hj : j < zs.length := by omega
        rw [List.getElem?_eq_getElem hj] at hv
        simp at hv
        rw [hcell j hj, ← hv]
        simp [List.getD, hj]
      · simp at hv
    · have := hwz z (List.mem_of_mem_take hz)
      simpa [Lit.wf] using this

theorem wf_bounds {k : IntKind} {z : Int} (h : (Lit.int k z).wf = true) : k.min ≤ z ∧ z ≤ k.max := by simpa [Lit.wf] using h
theorem u8_bounds {z : Int} (h : (Lit.int .u8 z).wf = true) : 0 ≤ z ∧ z ≤ 255 := wf_bounds h
theorem u8_all {z : Int} (h : IntKind.u8.min ≤ z ∧ z ≤ IntKind.u8.max) : 0 ≤ z ∧ z ≤ 255 := h

theorem node_reads {n : Nat} {cs : List Value} {x : DataW H × List MemPlace} (h : DataW.trod enc Tryz.prog W 0 sp held n 59 cs = some x) :
    ∃ (d : Nd) (E : Option Addr) (ec : Nat), cs = [.int .u8 d.kind, .slice E d.edges.length ec, .int .u8 d.more] ∧ d.fit ∧ Mk.Row .u8 W E d.edges := by
  obtain ⟨xs, m, _, _, hcl, hxl, hf⟩ := DataW.trod_struct Tryz.underlying59 h
  rw [cells54] at hcl
  obtain ⟨c0, c1, c2, rfl⟩ := list3 hcl
  have f0 : DataW.trod enc Tryz.prog W 0 sp held m 5 (([c0, c1, c2].drop 0).take (Tryz.prog.cellsOf 5)) = xs[0]? := hf 0 _ rfl
  have f1 : DataW.trod enc Tryz.prog W 0 sp held m 23 (([c0, c1, c2].drop 1).take (Tryz.prog.cellsOf 23)) = xs[1]? := hf 1 _ rfl
  have f2 : DataW.trod enc Tryz.prog W 0 sp held m 5 (([c0, c1, c2].drop 2).take (Tryz.prog.cellsOf 5)) = xs[2]? := hf 2 _ rfl
  rw [cells5] at f0 f2
  rw [cells23] at f1
  have hxl' : xs.length = 3 := hxl
  rw [List.getElem?_eq_getElem (by omega)] at f0 f1 f2
  obtain ⟨k, e0, _, w0⟩ := DataW.trod_int Tryz.underlying5 f0
  obtain ⟨a, len, cap, zs, e1, ⟨q1, q2, q3⟩, _⟩ := bytes_reads f1
  obtain ⟨p, e2, _, w2⟩ := DataW.trod_int Tryz.underlying5 f2
  simp at e0 e2
  subst e0 e1 e2 q1
  exact ⟨⟨k, zs, p⟩, a, cap, rfl, ⟨u8_bounds w0, u8_bounds w2, fun e he => u8_all (q3 e he)⟩, q2⟩

/-- What nodes that came in are. -/
def CameN (W : World) (a : Option Addr) (len : Nat) (ds : List Nd) : Prop := ds.length = len ∧ Nodes W a ds ∧ (∀ d ∈ ds, d.fit) ∧ len ≤ maxLen

theorem nodes_reads {n : Nat} {c : Value} {x : DataW H × List MemPlace} (h : DataW.trod enc Tryz.prog W 0 sp held n 22 [c] = some x) : ∃ a len cap ds, c = .slice a len cap ∧ CameN W a len ds := by
  rcases open_slice Tryz.underlying22 h with ⟨hcs, _⟩ | ⟨x, l, c', m, n, D, Pl, hcs, _, hl, hm, hmm, _, hi⟩
  · simp at hcs
    exact ⟨none, 0, 0, [], hcs, rfl, fun i d hd => by simp at hd, fun d hd => by simp at hd, Nat.zero_le _⟩
  · simp at hcs
    have hml : l ≤ m := by rw [hmm]; split <;> omega
    have hall : ∀ i, ∃ y : Nd × Option Addr × Nat, i < l → (∀ j v, [Value.int .u8 y.1.kind, .slice y.2.1 y.1.edges.length y.2.2, .int .u8 y.1.more][j]? = some v → W.cell? (x.add (i * 3 + j)) = some v) ∧ y.1.fit ∧ Mk.Row .u8 W y.2.1 y.1.edges := by
      intro i
      by_cases h : i < l
      · obtain ⟨cs', hc, ht⟩ := hi i (by omega)
        obtain ⟨d, E, ec, rfl, hfit, hrow⟩ := node_reads ht
        refine ⟨⟨d, E, ec⟩, fun _ => ⟨fun j v hv => ?_, hfit, hrow⟩⟩
        rw [cells54] at hc
        obtain ⟨_, hcl, hat⟩ := World.cells?_some hc
        have hj : j < 3 := by
          have := (List.getElem?_eq_some_iff.1 hv).1
          simpa using this
        have := hat j hj
        rw [hv] at this
        rw [Go.Deep.add_add] at this
        exact this
      · exact ⟨⟨⟨0, [], 0⟩, none, 0⟩, fun h' => absurd h' h⟩
    obtain ⟨F, hF⟩ := Classical.axiomOfChoice hall
    refine ⟨some x, l, c', (List.range l).map fun i => (F i).1, hcs, by simp, fun i d hd => ?_, fun d hd => ?_, by omega⟩
    · have hi' : i < l := by
        have := (List.getElem?_eq_some_iff.1 hd).1
        simpa using this
      have e : d = (F i).1 := by
        rw [List.getElem?_map, List.getElem?_range hi'] at hd
        simpa using hd.symm
      subst e
      have h1 := hF i hi'
      refine ⟨x, (F i).2.1, (F i).2.2, rfl, ?_, h1.1, h1.2.2⟩
      have := World.block_lt_of_cell? W _ (h1.1 0 _ rfl)
      rwa [block_add] at this
    · simp at hd
      obtain ⟨i, hi', rfl⟩ := hd
      exact (hF i hi').2.1

theorem reads_graph {v : Value} {d : DataW H} {p : List MemPlace} {r : Reach} {b : Nat} (hv : Value.okWide Tryz.prog W r b 25 v) (h : DataW.Trod enc Tryz.prog W 0 sp held 25 v d p) :
    ∃ A n c B m c' ds rs, v = .agg #[.slice A n c, .slice B m c'] ∧ CameN W A n ds ∧ Mk.Came .u8 W B m rs ∧ m ≤ maxLen := by
  obtain ⟨cs, rfl, hsz⟩ := okWide_struct Tryz.underlying25 hv
  obtain ⟨fuel, hf0⟩ := h
  have hcs : (Value.agg cs).cells.toList = cs.toList := rfl
  rw [hcs] at hf0
  obtain ⟨xs, m, _, _, hcl, hxl, hf⟩ := DataW.trod_struct Tryz.underlying25 hf0
  rw [cells25] at hcl
  obtain ⟨c0, c1, e⟩ := list2 hcl
  rw [e] at hf
  have f0 : DataW.trod enc Tryz.prog W 0 sp held m 22 (([c0, c1].drop 0).take (Tryz.prog.cellsOf 22)) = xs[0]? := hf 0 _ rfl
  have f1 : DataW.trod enc Tryz.prog W 0 sp held m 23 (([c0, c1].drop 1).take (Tryz.prog.cellsOf 23)) = xs[1]? := hf 1 _ rfl
  rw [cells22] at f0
  rw [cells23] at f1
  have hxl' : xs.length = 2 := hxl
  rw [List.getElem?_eq_getElem (by omega)] at f0 f1
  obtain ⟨A, n, c, ds, e0, k0⟩ := nodes_reads f0
  obtain ⟨B, m', c', rs, e1, k1, k2⟩ := bytes_reads f1
  refine ⟨A, n, c, B, m', c', ds, rs, ?_, k0, k1, k2⟩
  rw [e0, e1] at e
  rw [← Array.toArray_toList (xs := cs), e]
end
end Go.Proofs.YtklhdilbmpndkaaGreat

namespace Go.Proofs.YtklhdilbmpndkaaGreat
set_option maxRecDepth 20000
open Go.RowKit
set_option linter.unusedVariables false
set_option linter.unusedSimpArgs false

/-- The block of an address, if there is one. -/
def blk (A : Option Addr) : Option Nat := A.map Addr.block
theorem add_at (q i : Nat) : (⟨q, 0, none⟩ : Addr).add i = ⟨q, i, none⟩ := by unfold Addr.add; split <;> simp_all

/-- The slice (B, so many, cap) holds these numbers; its block lies behind base. -/
def Rv (w : World) (base : Nat) (B : Option Addr) (cap : Nat) (row : List Int) : Prop :=
  (B = none ∧ cap = 0 ∧ row = []) ∨ ∃ q cs, B = some ⟨q, 0, none⟩ ∧ base ≤ q ∧ Lies w q 3 cs ∧ cap ≤ cs.length ∧ row.length ≤ cap ∧ ∀ i, i < row.length → cs[i]? = some (.int .i64 (row.getD i 0))

section
variable {w w' : World} {base : Nat} {B : Option Addr} {cap : Nat} {row : List Int}
theorem Rv.kept (h : Rv w base B cap row) (hk : ∀ b cs, blk B = some b → Lies w b 3 cs → Lies w' b 3 cs) : Rv w' base B cap row := by
  rcases h with h | ⟨q, cs, rfl, h2, h3, h4⟩
  · exact Or.inl h
  · exact Or.inr ⟨q, cs, rfl, h2, hk q cs rfl h3, h4⟩
theorem Rv.below (h : Rv w base B cap row) (hb : Below w.heap.size w w') : Rv w' base B cap row := h.kept fun b cs _ hl => hl.kept hb
theorem Rv.nil (w : World) (base : Nat) : Rv w base none 0 [] := Or.inl ⟨rfl, rfl, rfl⟩
theorem Rv.lies (h : Rv w base B cap row) {k : Nat} (hk : blk B = some k) : ∃ cs, Lies w k 3 cs ∧ base ≤ k := by
  rcases h with ⟨rfl, _, _⟩ | ⟨q, cs, rfl, h2, h3, _⟩
  · cases hk
  · obtain rfl : q = k := by simpa [blk] using hk
    exact ⟨cs, h3, h2⟩
theorem Rv.some_ (h : Rv w base B cap row) (h0 : 0 < row.length) : ∃ q cs, B = some ⟨q, 0, none⟩ ∧ base ≤ q ∧ Lies w q 3 cs ∧ cap ≤ cs.length ∧ row.length ≤ cap ∧ ∀ i, i < row.length → cs[i]? = some (.int .i64 (row.getD i 0)) := by
  rcases h with ⟨_, _, rfl⟩ | h
  · simp at h0
  · exact h
theorem Rv.at_ (h : Rv w base B cap row) {i : Nat} (hi : i < row.length) : ∃ ad q, B = some ad ∧ ad = ⟨q, 0, none⟩ ∧ w.cell? (ad.add i) = some (.int .i64 (row.getD i 0)) ∧ w.frozen? (ad.add i) = false := by
  obtain ⟨q, cs, h1, h2, h3, h4, h5, h6⟩ := h.some_ (by omega)
  exact ⟨_, q, h1, rfl, by rw [add_at, h3.cell, h6 i hi], by rw [add_at]; exact h3.frozen i⟩

theorem firstCells_rv (h : Rv w base B cap row) (W : World) (hW : ∀ a, W.cell? a = w.cell? a) :
    (Builtin.firstCells 1 row.length (.slice B row.length cap)).run Tryz.prog W = .ok (row.map (Value.int .i64)).toArray W := by
  rcases h with ⟨rfl, rfl, rfl⟩ | ⟨q, cs, rfl, h2, h3, h4, h5, h6⟩
  · exact run_firstCells_none W 1 0 0 0
  · refine run_firstCells_some W 1 row.length _ _ _ _ (by simp) fun j u hu => ?_
    have hj : j < row.length := by
      have := (List.getElem?_eq_some_iff.1 hu).1
      simpa using this
    rw [hW, add_at, h3.cell, h6 j hj, ← hu]
    simp [hj, List.getD]
set_option maxRecDepth 100000 in
theorem info_3v : ∃ i z, Tryz.prog.info? 3 = some i ∧ i.zero = some z ∧ i.size = 1 ∧ i.bytes = 8 ∧ z.cells.size = 1 ∧ z.cells = #[.int .i64 0] := ⟨_, _, rfl, rfl, rfl, rfl, rfl, rfl⟩

/-- One more, behind the last one. -/
theorem run_append_rv (h : Rv w base B cap row) (hbase : base ≤ w.heap.size) (hlen : row.length ≤ 100000) (ad : Addr) (y : Int) (hy : w.cell? ad = some (.int .i64 y)) (ty : TypeId) :
    ∃ B' cap' w', (Builtin.append_ #[30, 30] ty #[.slice B row.length cap, .slice (some ad) 1 1]).run Tryz.prog w = .ok (.slice B' (row.length + 1) cap') w' ∧ Rv w' base B' cap' (row ++ [y]) ∧ w.grownBy w' (blk B) ∧ (blk B' = blk B ∨ blk B' = some w.heap.size) := by
  obtain ⟨i0, z0, hi, hz, hs, hby, hzc, hzc2⟩ := info_3v
  have src : Src Tryz.prog i0.size 30 (.slice (some ad) 1 1) 1 [.int .i64 y] w := Src.ofSlice w Tryz.underlying30 ad 1 1 [.int .i64 y] (by simp [hs]) (fun j u hu => by
    cases j with
    | zero => simp at hu; subst hu; rw [Addr.add_zero']; exact hy
    | succ j => simp at hu) (fun u hu => by simp at hu; subst hu; rfl)
  by_cases hr : row.length + 1 ≤ cap
  · rcases h with ⟨rfl, rfl, rfl⟩ | ⟨q, cs, rfl, h2, h3, h4, h5, h6⟩
    · simp at hr
    · have hcell : row.length < cs.length := by omega
      have hrun := run_append_room_src w 30 30 ty 3 i0 Tryz.underlying30 hi q 0 row.length cap (.slice (some ad) 1 1) 1 [.int .i64 y] src hr
        (fun j hj => by
          have : j = 0 := by simpa using hj
          subst this
          rw [h3.cell, hs]; simp [hcell]) (fun j hj => h3.frozen _)
      have esc : w.setCells q (0 + row.length * i0.size) [.int .i64 y] = w.setCell ⟨q, row.length, none⟩ (.int .i64 y) := by
        rw [hs, Nat.mul_one, Nat.zero_add]; rfl
      rw [esc] at hrun
      refine ⟨_, _, _, hrun, Or.inr ⟨q, cs.set row.length (.int .i64 y), rfl, h2, h3.set _ _, by simpa using h4, by simpa using hr, fun i hi' => ?_⟩, ⟨rfl, rfl, rfl, by simp, fun k hk hne => Below.heap_setCell w _ _ k (fun e => hne (by rw [e]; rfl))⟩, Or.inl rfl⟩
      simp at hi'
      by_cases hi2 : i < row.length
      · rw [List.getElem?_set_ne (by omega), h6 i hi2]; simp [List.getD, List.getElem?_append, hi2]
      · have : i = row.length := by omega
        subst this
        rw [List.getElem?_set_self hcell]; simp [List.getD]
  · have hold := firstCells_rv h w.drew (fun _ => rfl)
    have hfit : Builtin.nextslicecap (row.length + 1) cap * i0.bytes ≤ 281474976710656 := growslice_fits (by omega) (by rw [hby]; omega)
    have hrun := run_append_grow_src w 30 30 ty 3 i0 z0 Tryz.underlying30 hi hz B row.length cap (row.map (Value.int .i64)) (by rw [hs]; exact hold) (.slice (some ad) 1 1) 1 [.int .i64 y] src (by omega) (by omega) hfit
    have hge := grownCap_ge w (row.length + 1) cap 3
    generalize grownCap w (row.length + 1) cap 3 = gc at hrun hge
    refine ⟨_, _, _, hrun, Or.inr ⟨w.heap.size, (row.map (Value.int .i64) ++ [.int .i64 y]) ++ (Builtin.zeroCells z0.cells (gc - (row.length + 1))).toList, rfl, hbase, ?_, ?_, by simpa using hge, fun i hi' => ?_⟩, ?_, Or.inr rfl⟩
    · have := Lies.new w.drew 3 ((row.map (Value.int .i64) ++ [.int .i64 y]) ++ (Builtin.zeroCells z0.cells (gc - (row.length + 1))).toList)
      have e : ((row.map (Value.int .i64) ++ [Value.int .i64 y]) ++ (Builtin.zeroCells z0.cells (gc - (row.length + 1))).toList).toArray = (row.map (Value.int .i64) ++ [Value.int .i64 y]).toArray ++ Builtin.zeroCells z0.cells (gc - (row.length + 1)) := by
        apply Array.ext'; simp
      rw [e] at this
      exact this
    · have hsz := size_zeroCells z0.cells (gc - (row.length + 1))
      rw [hzc] at hsz
      simp only [List.length_append, List.length_map, List.length_cons, List.length_nil, Array.length_toList, hsz]
      omega
    · simp at hi'
      rw [List.getElem?_append_left (by simp; omega)]
      by_cases hi2 : i < row.length
      · rw [List.getElem?_append_left (by simpa using hi2)]; simp [List.getD, List.getElem?_append, hi2]
      · have : i = row.length := by omega
        subst this
        simp [List.getD]
    · refine ⟨rfl, rfl, rfl, ?_, fun k hk _ => ?_⟩
      · show _ ≤ (w.heap.push _).size; simp
      · show (w.heap.push _)[k]? = _
        simp [Array.getElem?_push, Nat.ne_of_lt hk]

theorem wpList_append_rv {ops : Array Oper} {rest : List Oper} {o : Oper} {a : Act} {Q : Exit → Act → World → Prop} (hgd : o.guard = none) (s x : Operand)
    (ho : o.op = .call { callee := .builtin .append, args := #[s, x], argTypes := #[30, 30] }) (hs : a.eval s = .slice B row.length cap) (h : Rv w base B cap row) (hbase : base ≤ w.heap.size) (hlen : row.length ≤ 100000) (ad : Addr) (y : Int) (hx : a.eval x = .slice (some ad) 1 1) (hy : w.cell? ad = some (.int .i64 y))
    (k : ∀ B' cap' w', Rv w' base B' cap' (row ++ [y]) → w.grownBy w' (blk B) → (blk B' = blk B ∨ blk B' = some w.heap.size) → wpList Tryz.prog ops Q rest (a.put o.dst (.slice B' (row.length + 1) cap')) w') : wpList Tryz.prog ops Q (o :: rest) a w := by
  refine wpList_plain hgd fun _ hK => ?_
  obtain ⟨B', cap', w', hr, h2, h3, h4⟩ := run_append_rv h hbase hlen ad y hy o.type
  unfold Oper.wp execOp
  simp only [ho, resolve, invoke, builtin, Sem.run_bind, Sem.run_pure, Result.andThen_ok, List.map_toArray, List.map_cons, List.map_nil, hs, hx, hr]
  exact hK _ _ (k B' cap' w' h2 h3 h4)

/-- One of them is turned. -/
theorem Rv.turn {q : Nat} (h : Rv w base (some ⟨q, 0, none⟩) cap row) (i : Nat) (y : Int) : Rv (w.setCell ⟨q, i, none⟩ (.int .i64 y)) base (some ⟨q, 0, none⟩) cap (row.set i y) := by
  rcases h with ⟨h, _⟩ | ⟨q', cs, e, h2, h3, h4, h5, h6⟩
  · cases h
  · injection e with e
    injection e with e _
    subst e
    refine Or.inr ⟨q, cs.set i (.int .i64 y), rfl, h2, h3.set i _, by simpa using h4, by simpa using h5, fun j hj => ?_⟩
    simp at hj
    by_cases hji : j = i
    · subst hji
      rw [List.getElem?_set_self (by omega)]; simp [List.getD, hj]
    · rw [List.getElem?_set_ne (by omega), h6 j hj]; simp [List.getD, List.getElem?_set, Ne.symm hji]

end

/-- It reads as a list of numbers. -/
theorem Rv.row {w : World} {base : Nat} {B : Option Addr} {cap : Nat} {row : List Int} (h : Rv w base B cap row) : Row w B row := fun h0 => by
  obtain ⟨q, cs, h1, h2, h3, h4, h5, h6⟩ := h.some_ h0
  refine ⟨_, h1, h3.lt, fun j v hv => ?_⟩
  have hj : j < row.length := by have := (List.getElem?_eq_some_iff.1 hv).1; simpa using this
  rw [add_at, h3.cell, h6 j hj, ← hv]
  simp [hj, List.getD]
/-- A row that lies behind a block. -/
theorem Rv.off {w w' : World} {base : Nat} {B : Option Addr} {cap : Nat} {row : List Int} (h : Rv w base B cap row) (hs : ∀ b, base ≤ b → b < w.heap.size → w'.heap[b]? = w.heap[b]?) : Rv w' base B cap row := by
  rcases h with h | ⟨q, cs, rfl, h2, h3, h4⟩
  · exact Or.inl h
  · exact Or.inr ⟨q, cs, rfl, h2, h3.of_block (hs q h2 h3.lt), h4⟩
theorem Rv.blk_lt {w : World} {base : Nat} {B : Option Addr} {cap : Nat} {row : List Int} (h : Rv w base B cap row) {k : Nat} (hk : blk B = some k) : base ≤ k ∧ k < w.heap.size := by
  obtain ⟨cs, h1, h2⟩ := h.lies hk
  exact ⟨h2, h1.lt⟩
end Go.Proofs.YtklhdilbmpndkaaGreat
