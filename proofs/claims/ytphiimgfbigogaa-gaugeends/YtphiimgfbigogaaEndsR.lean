/- A slice of words that came in reads as a list of numbers; GaugeEnds over it. -/
import Derived.Test.YtphiimgfbigogaaEndsW
import Derived.ProofKit
import Derived.OpenShut
namespace Go.Proofs.Ytphiimgfbigogaa
open Go.ChangeShapes Go.WideShapes Go.ChangeAt Go.RowKit
set_option linter.unusedVariables false

/-- What a list of words that came in is: as many as are told, they lie there, and each fits. -/
def Came (W : World) (a : Option Addr) (len : Nat) (zs : List Int) : Prop :=
  zs.length = len ∧ URow W a zs ∧ len ≤ maxLen ∧ ∀ i, 0 ≤ zs.getD i 0 ∧ zs.getD i 0 ≤ 18446744073709551615

theorem reads_u64 {H : Type} {enc : TypeId × Value → H} {W : World} {a : Option Addr} {len cap : Nat} {d : DataW H} {p : List MemPlace} (h : DataW.Trod enc Try.prog W 0 (fun _ => true) true 39 (.slice a len cap) d p) :
    ∃ zs, Came W a len zs := by
  obtain ⟨fuel, hf⟩ := h
  rcases open_ints Try.underlying39 Try.underlying22 (by kernel_rfl) hf with ⟨hcs, _⟩ | ⟨x, l, c, zs, hcs, _, hl, hm, hz, _, hcell, hwz⟩
  · simp [Value.cells] at hcs
    obtain ⟨rfl, rfl, rfl⟩ := hcs
    exact ⟨[], rfl, fun h => by simp at h, Nat.zero_le _, fun i => by simp⟩
  · simp [Value.cells] at hcs
    obtain ⟨rfl, rfl, rfl⟩ := hcs
    have hz' : zs.length = cap := by simpa using hz
    refine ⟨zs.take len, by simp; omega, fun h0 => ⟨x, rfl, ?_, fun j hj => ?_⟩, Nat.le_trans hl hm, fun i => ?_⟩
    · have h1 : 0 < zs.length := by simp at h0; omega
      have := hcell 0 h1
      exact World.block_lt_of_cell? W _ this
    · have hj' : j < zs.length ∧ j < len := by simp at hj; omega
      rw [hcell j hj'.1]
      simp [List.getD, hj'.1, hj'.2]
    · by_cases hi : i < len
      · have e : (zs.take len).getD i 0 = zs[i]?.getD 0 := by simp [List.getD, hi]
        rw [e]
        exact range_u64 hwz i
      · have e : (zs.take len).getD i 0 = 0 := by simp [List.getD, List.getElem?_take, hi]
        rw [e]; omega
theorem ends_came {a : Option Addr} {len cap : Nat} (W : World) (h : ∃ zs, Came W a len zs) : Calls Try.prog 5 #[.slice a len cap] W fun e w' => e = .returned (.bool true) ∧ Below W.heap.size W w' := by
  obtain ⟨zs, h1, h2, h3, h4⟩ := h
  exact ends_walk a len cap zs W h1 h2 h3 h4
end Go.Proofs.Ytphiimgfbigogaa
