/- A slice of deeds that came in reads as a list of deeds, each of whose numbers fits. -/
import Derived.Test.YtccojidhghgikaaStays
import Derived.Test.YtccojidhghgikaaReads
import Derived.Deep.Slices
namespace Go.Proofs.Ytccojidhghgikaa
open Go.ChangeShapes Go.WideShapes Go.ChangeAt Go.RowKit Go.Deep
set_option linter.unusedVariables false
set_option linter.unusedSimpArgs false

theorem cells43 : Try.prog.cellsOf 43 = 7 := by kernel_rfl
theorem cells23' : Try.prog.cellsOf 23 = 3 := by kernel_rfl
theorem cells3' : Try.prog.cellsOf 3 = 1 := by kernel_rfl
theorem cells5' : Try.prog.cellsOf 5 = 1 := by kernel_rfl

theorem list7 {α : Type} {l : List α} (h : l.length = 7) : ∃ a b c d e f g, l = [a, b, c, d, e, f, g] := by
  match l, h with
  | [a, b, c, d, e, f, g], _ => exact ⟨a, b, c, d, e, f, g, rfl⟩

section
variable {H : Type} {enc : TypeId × Value → H} {W : World} {base : Nat} {sp : Nat → Bool} {held : Bool}

theorem head_reads {n : Nat} {c1 c2 c3 : Value} {x : DataW H × List MemPlace} (h : DataW.trod enc Try.prog W base sp held n 23 [c1, c2, c3] = some x) :
    ∃ k l p : Int, c1 = .int .i64 k ∧ c2 = .int .i64 l ∧ c3 = .int .i64 p ∧ (Lit.int .i64 k).wf = true ∧ (Lit.int .i64 l).wf = true ∧ (Lit.int .i64 p).wf = true := by
  obtain ⟨xs, m, _, _, _, hxl, hf⟩ := DataW.trod_struct Try.underlying23 h
  have f0 : DataW.trod enc Try.prog W base sp held m 3 (([c1, c2, c3].drop 0).take (Try.prog.cellsOf 3)) = xs[0]? := hf 0 _ rfl
  have f1 : DataW.trod enc Try.prog W base sp held m 3 (([c1, c2, c3].drop 1).take (Try.prog.cellsOf 3)) = xs[1]? := hf 1 _ rfl
  have f2 : DataW.trod enc Try.prog W base sp held m 3 (([c1, c2, c3].drop 2).take (Try.prog.cellsOf 3)) = xs[2]? := hf 2 _ rfl
  rw [cells3'] at f0 f1 f2
  have hxl' : xs.length = 3 := hxl
  rw [List.getElem?_eq_getElem (by omega)] at f0 f1 f2
  obtain ⟨k, e0, _, w0⟩ := DataW.trod_int Try.underlying3 f0
  obtain ⟨l, e1, _, w1⟩ := DataW.trod_int Try.underlying3 f1
  obtain ⟨p, e2, _, w2⟩ := DataW.trod_int Try.underlying3 f2
  simp at e0 e1 e2
  exact ⟨k, l, p, e0, e1, e2, w0, w1, w2⟩

theorem deed_reads {n : Nat} {cs : List Value} {x : DataW H × List MemPlace} (h : DataW.trod enc Try.prog W base sp held n 43 cs = some x) : ∃ d : Deed, cs = d.cells ∧ d.fit ∧
    ((-9223372036854775808 ≤ d.at_ ∧ d.at_ ≤ 9223372036854775807) ∧ (-9223372036854775808 ≤ d.field ∧ d.field ≤ 9223372036854775807)) ∧ (-9223372036854775808 ≤ d.k ∧ d.k ≤ 9223372036854775807) ∧ (-9223372036854775808 ≤ d.l ∧ d.l ≤ 9223372036854775807) ∧ (-9223372036854775808 ≤ d.p ∧ d.p ≤ 9223372036854775807) := by
  obtain ⟨xs, m, _, _, hcl, hxl, hf⟩ := DataW.trod_struct Try.underlying43 h
  rw [cells43] at hcl
  obtain ⟨c0, c1, c2, c3, c4, c5, c6, rfl⟩ := list7 hcl
  have f0 : DataW.trod enc Try.prog W base sp held m 5 (([c0, c1, c2, c3, c4, c5, c6].drop 0).take (Try.prog.cellsOf 5)) = xs[0]? := hf 0 _ rfl
  have f1 : DataW.trod enc Try.prog W base sp held m 23 (([c0, c1, c2, c3, c4, c5, c6].drop 1).take (Try.prog.cellsOf 23)) = xs[1]? := hf 1 _ rfl
  have f2 : DataW.trod enc Try.prog W base sp held m 3 (([c0, c1, c2, c3, c4, c5, c6].drop 4).take (Try.prog.cellsOf 3)) = xs[2]? := hf 2 _ rfl
  have f3 : DataW.trod enc Try.prog W base sp held m 3 (([c0, c1, c2, c3, c4, c5, c6].drop 5).take (Try.prog.cellsOf 3)) = xs[3]? := hf 3 _ rfl
  have f4 : DataW.trod enc Try.prog W base sp held m 3 (([c0, c1, c2, c3, c4, c5, c6].drop 6).take (Try.prog.cellsOf 3)) = xs[4]? := hf 4 _ rfl
  rw [cells5'] at f0
  rw [cells23'] at f1
  rw [cells3'] at f2 f3 f4
  have hxl' : xs.length = 5 := hxl
  rw [List.getElem?_eq_getElem (by omega)] at f0 f1 f2 f3 f4
  obtain ⟨kd, e0, _, w0⟩ := DataW.trod_int Try.underlying5 f0
  obtain ⟨k, l, p, rfl, rfl, rfl, wk, wl, wp⟩ := head_reads f1
  obtain ⟨a, e2, _, w2⟩ := DataW.trod_int Try.underlying3 f2
  obtain ⟨f, e3, _, w3⟩ := DataW.trod_int Try.underlying3 f3
  obtain ⟨v, e4, _, w4⟩ := DataW.trod_int Try.underlying3 f4
  simp at e0 e2 e3 e4
  subst e0 e2 e3 e4
  exact ⟨⟨kd, k, l, p, a, f, v⟩, rfl, ⟨bounds_u8 w0, bounds_i64 w4⟩, ⟨bounds_i64 w2, bounds_i64 w3⟩, bounds_i64 wk, bounds_i64 wl, bounds_i64 wp⟩
end

/-- What a list of deeds that came in is. -/
def CameD (W : World) (a : Option Addr) (len : Nat) (ds : List Deed) : Prop := ds.length = len ∧ Deeds W a ds ∧ ∀ d ∈ ds, d.fit ∧
    ((-9223372036854775808 ≤ d.at_ ∧ d.at_ ≤ 9223372036854775807) ∧ (-9223372036854775808 ≤ d.field ∧ d.field ≤ 9223372036854775807)) ∧ (-9223372036854775808 ≤ d.k ∧ d.k ≤ 9223372036854775807) ∧ (-9223372036854775808 ≤ d.l ∧ d.l ≤ 9223372036854775807) ∧ (-9223372036854775808 ≤ d.p ∧ d.p ≤ 9223372036854775807)

theorem reads_acts {H : Type} {enc : TypeId × Value → H} {W : World} {a : Option Addr} {len cap : Nat} {d : DataW H} {p : List MemPlace} (h : DataW.Trod enc Try.prog W 0 (fun _ => true) true 35 (.slice a len cap) d p) :
    ∃ ds, CameD W a len ds := by
  obtain ⟨fuel, hf⟩ := h
  rcases open_slice Try.underlying35 hf with ⟨hcs, _⟩ | ⟨x, l, c, m, n, D, Pl, hcs, _, hl, hm, hmm, _, hi⟩
  · simp [Value.cells] at hcs
    obtain ⟨rfl, rfl, rfl⟩ := hcs
    exact ⟨[], rfl, fun i d hd => by simp at hd, fun d hd => by simp at hd⟩
  · simp [Value.cells] at hcs
    obtain ⟨rfl, rfl, rfl⟩ := hcs
    have hmc : m = cap := by rw [hmm]; rfl
    have hall : ∀ i, ∃ d : Deed, i < len → (∀ j v, d.cells[j]? = some v → W.cell? (x.add (i * 7 + j)) = some v) ∧ d.fit ∧
        ((-9223372036854775808 ≤ d.at_ ∧ d.at_ ≤ 9223372036854775807) ∧ (-9223372036854775808 ≤ d.field ∧ d.field ≤ 9223372036854775807)) ∧ (-9223372036854775808 ≤ d.k ∧ d.k ≤ 9223372036854775807) ∧ (-9223372036854775808 ≤ d.l ∧ d.l ≤ 9223372036854775807) ∧ (-9223372036854775808 ≤ d.p ∧ d.p ≤ 9223372036854775807) := by
      intro i
      by_cases h : i < len
      · obtain ⟨cs', hc, ht⟩ := hi i (by omega)
        obtain ⟨d, rfl, hfit⟩ := deed_reads ht
        refine ⟨d, fun _ => ⟨fun j v hv => ?_, hfit⟩⟩
        rw [cells43] at hc
        obtain ⟨_, hcl, hat⟩ := World.cells?_some hc
        have hj : j < 7 := by
          have := (List.getElem?_eq_some_iff.1 hv).1
          simpa [Deed.cells] using this
        have := hat j hj
        rw [hv] at this
        rw [Go.Deep.add_add] at this
        exact this
      · exact ⟨⟨0, 0, 0, 0, 0, 0, 0⟩, fun h' => absurd h' h⟩
    obtain ⟨F, hF⟩ := Classical.axiomOfChoice hall
    refine ⟨(List.range len).map F, by simp, fun i d hd => ?_, fun d hd => ?_⟩
    · have hi' : i < len := by
        have := (List.getElem?_eq_some_iff.1 hd).1
        simpa using this
      have e : d = F i := by
        rw [List.getElem?_map, List.getElem?_range hi'] at hd
        simpa using hd.symm
      subst e
      have h1 := (hF i hi').1
      refine ⟨x, rfl, ?_, h1⟩
      have := World.block_lt_of_cell? W _ (h1 0 _ rfl)
      rwa [block_add] at this
    · simp at hd
      obtain ⟨i, hi', rfl⟩ := hd
      exact (hF i hi').2
end Go.Proofs.Ytccojidhghgikaa
