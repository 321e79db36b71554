/- The document's example; a slice of small numbers that came in; a map that is not nil. -/
import Derived.Test.YtiomiaciaefbaaaDoorCount
import Derived.ProofKit
import Derived.OpenShut
import Derived.Deep.Slices
namespace Go.Proofs.YtiomiaciaefbaaaDoor
open Go.ChangeShapes Go.WideShapes Go.ChangeAt Go.RowKit Go.Deep
set_option linter.unusedVariables false
set_option linter.unusedSimpArgs false

theorem At.low {w w' : World} {g gw n : Nat} {ws : List Nat} (h : At w g gw n ws) {B : Nat} (he : Else g gw w w') (h1 : B ≤ g) (h2 : B ≤ gw) : Below B w w' := he.below (by have := h.own.lt; omega) h1 h2

set_option maxRecDepth 100000 in
set_option maxHeartbeats 1000000 in
theorem awake_any (w : World) : Calls Tryd.prog 6 #[] w fun e w' => e = .returned (.bool true) ∧ Below w.heap.size w w' := by
  go_enter Tryd.func6, Tryd.ntmps6
  go_wp2_with fail
  refine (new_yes 9 9 rfl w (by omega) (by omega)).mono ?_
  rintro e w2 ⟨g, gw, rfl, B2, q1, q2, H2⟩
  have HH := Lib.hid H2
  have HB := Lib.hid B2
  clear H2 B2
  go_wp2_with fail
  refine (set_yes HH.out 3 (by omega)).mono ?_
  rintro e w3 ⟨rfl, H3, E3⟩
  have HB3 := Lib.hid (HB.out.trans (HH.out.low E3 q1 q2))
  have HH3 := Lib.hid H3
  rw [bit_new]
  clear H3 E3 HB
  go_wp2_with fail
  refine (set_yes HH3.out 3 (by omega)).mono ?_
  rintro e w4 ⟨rfl, H4, E4⟩
  have HB4 := Lib.hid (HB3.out.trans (HH3.out.low E4 q1 q2))
  rw [bit_set _ _ _ (by decide), bit_new]
  clear H4 E4
  go_wp2
  go_ret
  exact ⟨rfl, HB4.out⟩

/-- A slice of numbers reads as a list. -/
def Row (k : IntKind) (w : World) (A : Option Addr) (zs : List Int) : Prop :=
  0 < zs.length → ∃ ad, A = some ad ∧ ad.block < w.heap.size ∧ ∀ j v, (zs.map (Value.int k))[j]? = some v → w.cell? (ad.add j) = some v
theorem block_add (a : Addr) (n : Nat) : (a.add n).block = a.block := by unfold Addr.add; split <;> rfl
theorem Row.kept {k : IntKind} {w w' : World} {A : Option Addr} {zs : List Int} (h : Row k w A zs) (hb : Below w.heap.size w w') : Row k w' A zs := fun h0 => by
  obtain ⟨ad, e, hl, hc⟩ := h h0
  exact ⟨ad, e, Nat.lt_of_lt_of_le hl hb.size, fun j v hv => (hb.cell (by rw [block_add]; exact hl)).trans (hc j v hv)⟩
theorem Row.at_ {k : IntKind} {w : World} {A : Option Addr} {zs : List Int} (h : Row k w A zs) {i : Nat} (hi : i < zs.length) : ∃ ad, A = some ad ∧ w.cell? (ad.add i) = some (.int k zs[i]) := by
  obtain ⟨ad, e, hl, hc⟩ := h (by omega)
  exact ⟨ad, e, hc i _ (by simp [hi])⟩

/-- What a list of numbers that came in is: as many as are told, they lie there, and each fits. -/
def Came (k : IntKind) (W : World) (a : Option Addr) (len : Nat) (zs : List Int) : Prop :=
  zs.length = len ∧ Row k W a zs ∧ ∀ z ∈ zs, k.min ≤ z ∧ z ≤ k.max

theorem reads_any {k : IntKind} {t e : TypeId} (ht : Tryd.prog.underlying t = some (.slice e)) (he : Tryd.prog.underlying e = some (.int k)) (hc1 : Tryd.prog.cellsOf e = 1)
    {H : Type} {enc : TypeId × Value → H} {W : World} {sp : Nat → Bool} {held : Bool} {a : Option Addr} {len cap : Nat} {d : DataW H} {p : List MemPlace} (h : DataW.Trod enc Tryd.prog W 0 sp held t (.slice a len cap) d p) :
    ∃ zs, Came k W a len zs := by
  obtain ⟨fuel, hf⟩ := h
  rcases open_ints ht he hc1 hf with ⟨hcs, _⟩ | ⟨x, l, c, zs, hcs, _, hl, hm, hz, _, hcell, hwz⟩
  · simp [Value.cells] at hcs
    obtain ⟨rfl, rfl, rfl⟩ := hcs
    exact ⟨[], rfl, fun h => by simp at h, fun i => by simp⟩
  · simp [Value.cells] at hcs
    obtain ⟨rfl, rfl, rfl⟩ := hcs
    have hz' : len ≤ zs.length := by rw [hz]; split <;> omega
    refine ⟨zs.take len, by simp; omega, fun h0 => ⟨x, rfl, ?_, fun j v hv => ?_⟩, fun z hz => ?_⟩
    · have h1 : 0 < zs.length := by simp at h0; omega
      have := hcell 0 h1
      exact World.block_lt_of_cell? W _ this
    · simp only [List.getElem?_map, List.getElem?_take] at hv
      split at hv
      · have hj : j < zs.length := by omega
        rw [List.getElem?_eq_getElem hj] at hv
        simp at hv
        rw [hcell j hj, ← hv]
        simp [List.getD, hj]
      · simp at hv
    · have := hwz z (List.mem_of_mem_take hz)
      simpa [Lit.wf] using this

theorem reads_bytes {H : Type} {enc : TypeId × Value → H} {W : World} {sp : Nat → Bool} {held : Bool} {a : Option Addr} {len cap : Nat} {d : DataW H} {p : List MemPlace} (h : DataW.Trod enc Tryd.prog W 0 sp held 38 (.slice a len cap) d p) :
    ∃ zs, Came .u8 W a len zs := reads_any Tryd.underlying38 Tryd.underlying5 (by kernel_rfl) h

/-- A number of a byte's, as a place. -/
theorem rem_place (z : Int) (n : Nat) (h0 : 0 ≤ z) (hn : 1 ≤ n) : ∃ p : Nat, z % (n : Int) = p ∧ p < n := by
  have h1 := Int.emod_nonneg z (show (n : Int) ≠ 0 by omega)
  have h2 := Int.emod_lt_of_pos z (show (0 : Int) < n by omega)
  exact ⟨(z % (n : Int)).toNat, by omega, by omega⟩
end Go.Proofs.YtiomiaciaefbaaaDoor
