/- A slice of numbers, or of acts, that came in reads as a list; each number fits. -/
import Derived.Test.YtcnpbdboeaaajaaMem
import Derived.ProofKit
import Derived.OpenShut
import Derived.Deep.Slices
namespace Go.Proofs.Ytcnpbdboeaaajaa
open Go.ChangeShapes Go.WideShapes Go.ChangeAt Go.RowKit Go.Deep
set_option linter.unusedVariables false
set_option linter.unusedSimpArgs false

/-- A slice of numbers reads as a list. -/
def Row (k : IntKind) (w : World) (A : Option Addr) (zs : List Int) : Prop :=
  0 < zs.length → ∃ ad, A = some ad ∧ ad.block < w.heap.size ∧ ∀ j v, (zs.map (Value.int k))[j]? = some v → w.cell? (ad.add j) = some v
theorem block_add (a : Addr) (n : Nat) : (a.add n).block = a.block := by unfold Addr.add; split <;> rfl
theorem Row.kept {k : IntKind} {w w' : World} {A : Option Addr} {zs : List Int} (h : Row k w A zs) (hb : Below w.heap.size w w') : Row k w' A zs := fun h0 => by
  obtain ⟨ad, e, hl, hc⟩ := h h0
  exact ⟨ad, e, Nat.lt_of_lt_of_le hl hb.size, fun j v hv => (hb.cell (by rw [block_add]; exact hl)).trans (hc j v hv)⟩
theorem Row.at_ {k : IntKind} {w : World} {A : Option Addr} {zs : List Int} (h : Row k w A zs) {i : Nat} (hi : i < zs.length) : ∃ ad, A = some ad ∧ w.cell? (ad.add i) = some (.int k zs[i]) := by
  obtain ⟨ad, e, hl, hc⟩ := h (by omega)
  exact ⟨ad, e, hc i _ (by simp [hi])⟩

/-- What a list of numbers that came in is: as many as are told, they lie there, and each fits. -/
def Came (k : IntKind) (W : World) (a : Option Addr) (len : Nat) (zs : List Int) : Prop :=
  zs.length = len ∧ Row k W a zs ∧ ∀ z ∈ zs, k.min ≤ z ∧ z ≤ k.max

theorem reads_any {k : IntKind} {t e : TypeId} (ht : Try.prog.underlying t = some (.slice e)) (he : Try.prog.underlying e = some (.int k)) (hc1 : Try.prog.cellsOf e = 1)
    {H : Type} {enc : TypeId × Value → H} {W : World} {a : Option Addr} {len cap : Nat} {d : DataW H} {p : List MemPlace} (h : DataW.Trod enc Try.prog W 0 (fun _ => true) true t (.slice a len cap) d p) :
    ∃ zs, Came k W a len zs := by
  obtain ⟨fuel, hf⟩ := h
  rcases open_ints ht he hc1 hf with ⟨hcs, _⟩ | ⟨x, l, c, zs, hcs, _, hl, hm, hz, _, hcell, hwz⟩
  · simp [Value.cells] at hcs
    obtain ⟨rfl, rfl, rfl⟩ := hcs
    exact ⟨[], rfl, fun h => by simp at h, fun i => by simp⟩
  · simp [Value.cells] at hcs
    obtain ⟨rfl, rfl, rfl⟩ := hcs
    have hz' : zs.length = cap := by simpa using hz
    refine ⟨zs.take len, by simp; omega, fun h0 => ⟨x, rfl, ?_, fun j v hv => ?_⟩, fun z hz => ?_⟩
    · have h1 : 0 < zs.length := by simp at h0; omega
      have := hcell 0 h1
      exact World.block_lt_of_cell? W _ this
    · simp only [List.getElem?_map, List.getElem?_take] at hv
      split at hv
      · have hj : j < zs.length := by omega
        rw [List.getElem?_eq_getElem hj] at hv
        simp at hv
        rw [hcell j hj, ← hv]
        simp [List.getD, hj]
      · simp at hv
    · have := hwz z (List.mem_of_mem_take hz)
      simpa [Lit.wf] using this

theorem reads_ints {H : Type} {enc : TypeId × Value → H} {W : World} {a : Option Addr} {len cap : Nat} {d : DataW H} {p : List MemPlace} (h : DataW.Trod enc Try.prog W 0 (fun _ => true) true 22 (.slice a len cap) d p) :
    ∃ zs, Came .i64 W a len zs := reads_any Try.underlying22 Try.underlying3 (by kernel_rfl) h
theorem reads_bytes {H : Type} {enc : TypeId × Value → H} {W : World} {a : Option Addr} {len cap : Nat} {d : DataW H} {p : List MemPlace} (h : DataW.Trod enc Try.prog W 0 (fun _ => true) true 36 (.slice a len cap) d p) :
    ∃ zs, Came .u8 W a len zs := reads_any Try.underlying36 Try.underlying5 (by kernel_rfl) h
end Go.Proofs.Ytcnpbdboeaaajaa
