/- What came in: a slice of bytes, a slice of acts of threads. -/
import Derived.Test.YtibfhpbklnpknaaGc
import Derived.Test.YtibfhpbklnpknaaReads
import Derived.Deep.Slices
namespace Go.Proofs.Ytibfhpbklnpknaa
open Go.ChangeShapes Go.WideShapes Go.ChangeAt Go.RowKit Go.Deep
set_option linter.unusedVariables false
set_option linter.unusedSimpArgs false

/-- A slice of bytes reads as a list. -/
def RowB (w : World) (A : Option Addr) (zs : List Int) : Prop :=
  0 < zs.length → ∃ ad, A = some ad ∧ ad.block < w.heap.size ∧ ∀ j v, (zs.map (Value.int .u8))[j]? = some v → w.cell? (ad.add j) = some v
theorem RowB.kept {w w' : World} {A : Option Addr} {zs : List Int} (h : RowB w A zs) (hb : Below w.heap.size w w') : RowB w' A zs := fun h0 => by
  obtain ⟨ad, e, hl, hc⟩ := h h0
  exact ⟨ad, e, Nat.lt_of_lt_of_le hl hb.size, fun j v hv => (hb.cell (by rw [block_add]; exact hl)).trans (hc j v hv)⟩
theorem RowB.at_ {w : World} {A : Option Addr} {zs : List Int} (h : RowB w A zs) {i : Nat} (hi : i < zs.length) : ∃ ad, A = some ad ∧ w.cell? (ad.add i) = some (.int .u8 zs[i]) := by
  obtain ⟨ad, e, hl, hc⟩ := h (by omega)
  exact ⟨ad, e, hc i _ (by simp [hi])⟩
def CameB (W : World) (a : Option Addr) (len : Nat) (zs : List Int) : Prop := zs.length = len ∧ RowB W a zs ∧ ∀ z ∈ zs, 0 ≤ z ∧ z ≤ 255

theorem reads_bytes {H : Type} {enc : TypeId × Value → H} {W : World} {sp : Nat → Bool} {held : Bool} {a : Option Addr} {len cap : Nat} {d : DataW H} {p : List MemPlace} (h : DataW.Trod enc Try.prog W 0 sp held 63 (.slice a len cap) d p) :
    ∃ zs, CameB W a len zs := by
  obtain ⟨fuel, hf⟩ := h
  rcases open_ints Try.underlying63 Try.underlying5 (by kernel_rfl) hf with ⟨hcs, _⟩ | ⟨x, l, c, zs, hcs, _, hl, hm, hz, _, hcell, hwz⟩
  · simp [Value.cells] at hcs
    obtain ⟨rfl, rfl, rfl⟩ := hcs
    exact ⟨[], rfl, fun h => by simp at h, fun i => by simp⟩
  · simp [Value.cells] at hcs
    obtain ⟨rfl, rfl, rfl⟩ := hcs
    have hz' : len ≤ zs.length := by rw [hz]; split <;> omega
    refine ⟨zs.take len, by simp; omega, fun h0 => ⟨x, rfl, ?_, fun j v hv => ?_⟩, fun z hz => ?_⟩
    · have h1 : 0 < zs.length := by simp at h0; omega
      have := hcell 0 h1
      exact World.block_lt_of_cell? W _ this
    · simp only [List.getElem?_map, List.getElem?_take] at hv
      split at hv
      · have hj : j < zs.length := by omega
        rw [List.getElem?_eq_getElem hj] at hv
        simp at hv
        rw [hcell j hj, ← hv]
        simp [List.getD, hj]
      · simp at hv
    · have := hwz z (List.mem_of_mem_take hz)
      have : IntKind.u8.min ≤ z ∧ z ≤ IntKind.u8.max := by simpa [Lit.wf] using this
      exact this

/-- What a thread is told. -/
structure Deal where
  what : Int
  thread : Int
  k : Int
  l : Int
  p : Int
def Deal.cells (d : Deal) : List Value := [.int .u8 d.what, .int .i64 d.thread, .int .i64 d.k, .int .i64 d.l, .int .i64 d.p]
def Deal.fit (d : Deal) : Prop := (0 ≤ d.what ∧ d.what ≤ 255) ∧ (-9223372036854775808 ≤ d.thread ∧ d.thread ≤ 9223372036854775807) ∧ (-9223372036854775808 ≤ d.k ∧ d.k ≤ 9223372036854775807) ∧ (-9223372036854775808 ≤ d.l ∧ d.l ≤ 9223372036854775807) ∧ (-9223372036854775808 ≤ d.p ∧ d.p ≤ 9223372036854775807)

/-- A slice of them reads as a list. -/
def Deals (w : World) (A : Option Addr) (ds : List Deal) : Prop :=
  ∀ i d, ds[i]? = some d → ∃ ad, A = some ad ∧ ad.block < w.heap.size ∧ ∀ j v, d.cells[j]? = some v → w.cell? (ad.add (i * 5 + j)) = some v
theorem Deals.kept {w w' : World} {A : Option Addr} {ds : List Deal} (h : Deals w A ds) (hb : Below w.heap.size w w') : Deals w' A ds := fun i d hd => by
  obtain ⟨ad, e, hl, hc⟩ := h i d hd
  exact ⟨ad, e, Nat.lt_of_lt_of_le hl hb.size, fun j v hv => (hb.cell (by rw [block_add]; exact hl)).trans (hc j v hv)⟩
theorem Deals.at_ {w : World} {A : Option Addr} {ds : List Deal} (h : Deals w A ds) {i : Nat} (hi : i < ds.length) (wr : World) (hb : Below w.heap.size w wr) :
    ∃ ad, A = some ad ∧ wr.cell? (ad.add (i * 5)) = some (.int .u8 ds[i].what) ∧ wr.cell? ⟨(ad.add (i * 5)).block, (ad.add (i * 5)).off + 1, none⟩ = some (.int .i64 ds[i].thread) ∧
      wr.cell? ⟨(ad.add (i * 5)).block, (ad.add (i * 5)).off + 2, none⟩ = some (.int .i64 ds[i].k) ∧ wr.cell? ⟨(ad.add (i * 5)).block, (ad.add (i * 5)).off + 3, none⟩ = some (.int .i64 ds[i].l) ∧
      wr.cell? ⟨(ad.add (i * 5)).block, (ad.add (i * 5)).off + 4, none⟩ = some (.int .i64 ds[i].p) := by
  obtain ⟨ad, e, hl, hc⟩ := (h.kept hb) i ds[i] (List.getElem?_eq_getElem hi)
  refine ⟨ad, e, hc 0 _ rfl, ?_, ?_, ?_, ?_⟩
  all_goals rw [← add_next _ _ _ (by omega)]
  · exact hc 1 _ rfl
  · exact hc 2 _ rfl
  · exact hc 3 _ rfl
  · exact hc 4 _ rfl
def CameD (W : World) (a : Option Addr) (len : Nat) (ds : List Deal) : Prop := ds.length = len ∧ Deals W a ds ∧ ∀ d ∈ ds, d.fit

theorem cells45 : Try.prog.cellsOf 45 = 5 := by kernel_rfl
theorem cells40' : Try.prog.cellsOf 40 = 3 := by kernel_rfl
theorem cells3' : Try.prog.cellsOf 3 = 1 := by kernel_rfl
theorem cells5' : Try.prog.cellsOf 5 = 1 := by kernel_rfl
theorem bds {k : IntKind} {n : Int} (h : (Lit.int k n).wf = true) : k.min ≤ n ∧ n ≤ k.max := by simpa [Lit.wf] using h
theorem bd_i64 {n : Int} (h : (Lit.int .i64 n).wf = true) : -9223372036854775808 ≤ n ∧ n ≤ 9223372036854775807 := bds h
theorem bd_u8 {n : Int} (h : (Lit.int .u8 n).wf = true) : 0 ≤ n ∧ n ≤ 255 := bds h

theorem list5 {α : Type} {l : List α} (h : l.length = 5) : ∃ a b c d e, l = [a, b, c, d, e] := by
  match l, h with
  | [a, b, c, d, e], _ => exact ⟨a, b, c, d, e, rfl⟩

section
variable {H : Type} {enc : TypeId × Value → H} {W : World} {base : Nat} {sp : Nat → Bool} {held : Bool}

theorem head_reads {n : Nat} {c1 c2 c3 : Value} {x : DataW H × List MemPlace} (h : DataW.trod enc Try.prog W base sp held n 40 [c1, c2, c3] = some x) :
    ∃ k l p : Int, c1 = .int .i64 k ∧ c2 = .int .i64 l ∧ c3 = .int .i64 p ∧ (Lit.int .i64 k).wf = true ∧ (Lit.int .i64 l).wf = true ∧ (Lit.int .i64 p).wf = true := by
  obtain ⟨xs, m, _, _, _, hxl, hf⟩ := DataW.trod_struct Try.underlying40 h
  have f0 : DataW.trod enc Try.prog W base sp held m 3 (([c1, c2, c3].drop 0).take (Try.prog.cellsOf 3)) = xs[0]? := hf 0 _ rfl
  have f1 : DataW.trod enc Try.prog W base sp held m 3 (([c1, c2, c3].drop 1).take (Try.prog.cellsOf 3)) = xs[1]? := hf 1 _ rfl
  have f2 : DataW.trod enc Try.prog W base sp held m 3 (([c1, c2, c3].drop 2).take (Try.prog.cellsOf 3)) = xs[2]? := hf 2 _ rfl
  rw [cells3'] at f0 f1 f2
  have hxl' : xs.length = 3 := hxl
  rw [List.getElem?_eq_getElem (by omega)] at f0 f1 f2
  obtain ⟨k, e0, _, w0⟩ := DataW.trod_int Try.underlying3 f0
  obtain ⟨l, e1, _, w1⟩ := DataW.trod_int Try.underlying3 f1
  obtain ⟨p, e2, _, w2⟩ := DataW.trod_int Try.underlying3 f2
  simp at e0 e1 e2
  exact ⟨k, l, p, e0, e1, e2, w0, w1, w2⟩

theorem deal_reads {n : Nat} {cs : List Value} {x : DataW H × List MemPlace} (h : DataW.trod enc Try.prog W base sp held n 45 cs = some x) : ∃ d : Deal, cs = d.cells ∧ d.fit := by
  obtain ⟨xs, m, _, _, hcl, hxl, hf⟩ := DataW.trod_struct Try.underlying45 h
  rw [cells45] at hcl
  obtain ⟨c0, c1, c2, c3, c4, rfl⟩ := list5 hcl
  have f0 : DataW.trod enc Try.prog W base sp held m 5 (([c0, c1, c2, c3, c4].drop 0).take (Try.prog.cellsOf 5)) = xs[0]? := hf 0 _ rfl
  have f1 : DataW.trod enc Try.prog W base sp held m 3 (([c0, c1, c2, c3, c4].drop 1).take (Try.prog.cellsOf 3)) = xs[1]? := hf 1 _ rfl
  have f2 : DataW.trod enc Try.prog W base sp held m 40 (([c0, c1, c2, c3, c4].drop 2).take (Try.prog.cellsOf 40)) = xs[2]? := hf 2 _ rfl
  rw [cells5'] at f0
  rw [cells3'] at f1
  rw [cells40'] at f2
  have hxl' : xs.length = 3 := hxl
  rw [List.getElem?_eq_getElem (by omega)] at f0 f1 f2
  obtain ⟨kd, e0, _, w0⟩ := DataW.trod_int Try.underlying5 f0
  obtain ⟨t, e1, _, w1⟩ := DataW.trod_int Try.underlying3 f1
  obtain ⟨k, l, p, rfl, rfl, rfl, wk, wl, wp⟩ := head_reads f2
  simp at e0 e1
  subst e0 e1
  exact ⟨⟨kd, t, k, l, p⟩, rfl, bd_u8 w0, bd_i64 w1, bd_i64 wk, bd_i64 wl, bd_i64 wp⟩
end

theorem reads_deals {H : Type} {enc : TypeId × Value → H} {W : World} {sp : Nat → Bool} {held : Bool} {a : Option Addr} {len cap : Nat} {d : DataW H} {p : List MemPlace} (h : DataW.Trod enc Try.prog W 0 sp held 24 (.slice a len cap) d p) :
    ∃ ds, CameD W a len ds := by
  obtain ⟨fuel, hf⟩ := h
  rcases open_slice Try.underlying24 hf with ⟨hcs, _⟩ | ⟨x, l, c, m, n, D, Pl, hcs, _, hl, hm, hmm, _, hi⟩
  · simp [Value.cells] at hcs
    obtain ⟨rfl, rfl, rfl⟩ := hcs
    exact ⟨[], rfl, fun i d hd => by simp at hd, fun d hd => by simp at hd⟩
  · simp [Value.cells] at hcs
    obtain ⟨rfl, rfl, rfl⟩ := hcs
    have hmc : len ≤ m := by rw [hmm]; split <;> omega
    have hall : ∀ i, ∃ d : Deal, i < len → (∀ j v, d.cells[j]? = some v → W.cell? (x.add (i * 5 + j)) = some v) ∧ d.fit := by
      intro i
      by_cases h : i < len
      · obtain ⟨cs', hc, ht⟩ := hi i (by omega)
        obtain ⟨d, rfl, hfit⟩ := deal_reads ht
        refine ⟨d, fun _ => ⟨fun j v hv => ?_, hfit⟩⟩
        rw [cells45] at hc
        obtain ⟨_, hcl, hat⟩ := World.cells?_some hc
        have hj : j < 5 := by
          have := (List.getElem?_eq_some_iff.1 hv).1
          simpa [Deal.cells] using this
        have := hat j hj
        rw [hv] at this
        rw [Go.Deep.add_add] at this
        exact this
      · exact ⟨⟨0, 0, 0, 0, 0⟩, fun h' => absurd h' h⟩
    obtain ⟨F, hF⟩ := Classical.axiomOfChoice hall
    refine ⟨(List.range len).map F, by simp, fun i d hd => ?_, fun d hd => ?_⟩
    · have hi' : i < len := by
        have := (List.getElem?_eq_some_iff.1 hd).1
        simpa using this
      have e : d = F i := by
        rw [List.getElem?_map, List.getElem?_range hi'] at hd
        simpa using hd.symm
      subst e
      have h1 := (hF i hi').1
      refine ⟨x, rfl, ?_, h1⟩
      have := World.block_lt_of_cell? W _ (h1 0 _ rfl)
      rwa [block_add] at this
    · simp at hd
      obtain ⟨i, hi', rfl⟩ := hd
      exact (hF i hi').2
end Go.Proofs.Ytibfhpbklnpknaa
