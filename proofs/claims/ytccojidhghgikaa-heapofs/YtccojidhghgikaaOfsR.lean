/- HeapOfs over whatever words came in. -/
import Derived.Test.YtccojidhghgikaaOfsY
import Derived.Test.YtccojidhghgikaaReads
import Derived.ProofKit
import Derived.OpenShut
namespace Go.Proofs.Ytccojidhghgikaa
open Go.ChangeShapes Go.WideShapes Go.ChangeAt Go.RowKit
set_option linter.unusedVariables false

/-- What a list of numbers that came in is, its room too. -/
def Came2 (W : World) (a : Option Addr) (len cap : Nat) (zs : List Int) : Prop :=
  Came W a len zs ∧ len ≤ cap ∧ (a = none → len = 0 ∧ cap = 0)

theorem reads_ints2 {H : Type} {enc : TypeId × Value → H} {W : World} {a : Option Addr} {len cap : Nat} {d : DataW H} {p : List MemPlace} (h : DataW.Trod enc Try.prog W 0 (fun _ => true) true 51 (.slice a len cap) d p) :
    ∃ zs, Came2 W a len cap zs := by
  obtain ⟨zs, hz⟩ := reads_ints h
  refine ⟨zs, hz, ?_⟩
  obtain ⟨fuel, hf⟩ := h
  rcases open_ints Try.underlying51 Try.underlying3 (by kernel_rfl) hf with ⟨hcs, _⟩ | ⟨x, l, c, zs', hcs, _, hl, hm, _⟩
  · simp [Value.cells] at hcs
    obtain ⟨rfl, rfl, rfl⟩ := hcs
    exact ⟨Nat.le_refl _, fun _ => ⟨rfl, rfl⟩⟩
  · simp [Value.cells] at hcs
    obtain ⟨rfl, rfl, rfl⟩ := hcs
    exact ⟨hl, fun h => by cases h⟩

theorem mem_flat {obs : List Ob} {o : Ob} (ho : o ∈ obs) {v : Int} (hv : v ∈ o.2) : v ∈ flat obs := by
  unfold flat
  exact List.mem_flatMap.2 ⟨o, ho, by simp [hv]⟩

theorem ofs_came {a : Option Addr} {len cap : Nat} (t : Int) (W : World) (h : ∃ zs, Came2 W a len cap zs) :
    Calls Try.prog 6 #[.slice a len cap, .int .i64 t] W fun e w' => e = .returned (.bool true) ∧ Below W.heap.size W w' := by
  obtain ⟨zs, ⟨hz, hr, hb⟩, hc, ha⟩ := h
  by_cases h200 : 200 < len
  · exact ofs_out a len cap t W h200
  · by_cases hbad : Bad zs t
    · exact ofs_bad a len cap t zs W hz hr ha hc (fun i => by have := hb i; omega) (by omega) hbad
    · unfold Bad at hbad
      have h1 : 1 ≤ zs.length ∧ zs.length ≤ 65536 ∧ 0 ≤ t ∧ t ≤ zs.length := by
        apply Classical.byContradiction
        intro h
        exact hbad (.inl h)
      obtain ⟨top, rfl⟩ : ∃ top : Nat, t = top := ⟨t.toNat, by omega⟩
      have h2 : Parses (zs.take top) := by
        apply Classical.byContradiction
        intro h
        exact hbad (.inr ⟨top, rfl, h1.1, by omega, h⟩)
      obtain ⟨obs, hf, hfl⟩ := h2
      obtain ⟨ad, rfl, _⟩ := hr (by omega)
      have e : zs = flat obs ++ zs.drop top := by rw [hfl, List.take_append_drop]
      have hN : (flat obs).length = top := by rw [hfl]; simp; omega
      have hW : Within obs := fun o ho v hv => by
        have hm : v ∈ zs := List.mem_of_mem_take (by rw [← hfl]; exact mem_flat ho hv)
        obtain ⟨i, hi, he⟩ := List.getElem_of_mem hm
        have := hb i
        simp only [List.getD, List.getElem?_eq_getElem hi, Option.getD_some, he] at this
        exact this
      generalize zs.drop top = tail at e
      subst e
      exact ofs_yes ad cap len top obs tail W hf hW hr hz hN (by omega) (by omega) hc
end Go.Proofs.Ytccojidhghgikaa
