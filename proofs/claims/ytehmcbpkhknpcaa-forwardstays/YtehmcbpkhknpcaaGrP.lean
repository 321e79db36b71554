/- The objects of a graph's heap, as the graph's nodes are gone through: plain facts. -/
import Derived.Test.YtehmcbpkhknpcaaFew
namespace Go.Proofs.Ytehmcbpkhknpcaa
set_option maxRecDepth 20000
open Go.RowKit
set_option linter.unusedVariables false
set_option linter.unusedSimpArgs false

/-- As many words as are laid aside for a node. -/
def szN (d : Nd) : Nat := 3 + d.edges.length + (d.more % 4).toNat
def lenN (d : Nd) : Int := (d.edges.length : Int) + d.more % 4
def headN (d : Nd) : Int := packW (d.kind % 15) (lenN d) (d.edges.length : Nat)
/-- The objects, with a filler ahead of each third node. -/
def midN (k : Nat) (d : Nd) (obs : List Ob) : List Ob := if k % 3 = 2 then obs ++ [(packW 15 (d.kind % 2) 0, zeros (d.kind % 2))] else obs
/-- Behind so many nodes: the objects, and the nodes' addresses. -/
def laidG (ds : List Nd) : Nat → List Ob × List Int
  | 0 => ([], [])
  | k + 1 => match ds[k]? with
    | none => laidG ds k
    | some d => (midN k d (laidG ds k).1 ++ [(headN d, zeros (lenN d))], (laidG ds k).2 ++ [(((flat (midN k d (laidG ds k).1)).length : Nat) : Int)])
/-- As many words as the heap has. -/
def sizeG (ds : List Nd) (room k : Nat) : Nat := 1 + room + ((ds.take k).map szN).sum

theorem laid_succ {ds : List Nd} {k : Nat} {d : Nd} (h : ds[k]? = some d) : laidG ds (k + 1) = (midN k d (laidG ds k).1 ++ [(headN d, zeros (lenN d))], (laidG ds k).2 ++ [(((flat (midN k d (laidG ds k).1)).length : Nat) : Int)]) := by
  rw [laidG, h]
theorem size_succ {ds : List Nd} {k room : Nat} {d : Nd} (h : ds[k]? = some d) : sizeG ds room (k + 1) = sizeG ds room k + szN d := by
  obtain ⟨hk, e⟩ := List.getElem?_eq_some_iff.1 h
  unfold sizeG
  rw [← List.take_append_getElem hk, e]
  simp; omega
theorem size_le {ds : List Nd} {room : Nat} : ∀ {k j : Nat}, k ≤ j → sizeG ds room k ≤ sizeG ds room j := by
  intro k j h
  unfold sizeG
  have : ds.take j = ds.take k ++ (ds.take j).drop k := by
    have := List.take_append_drop k (ds.take j)
    rw [List.take_take, Nat.min_eq_left h] at this
    exact this.symm
  rw [this]; simp
theorem node_len {d : Nd} (hf : d.fit) (h : d.edges.length ≤ 10) : 0 ≤ lenN d ∧ lenN d ≤ 13 ∧ (lenN d).toNat = d.edges.length + (d.more % 4).toNat ∧ (d.more % 4).toNat ≤ 3 ∧ 0 ≤ d.kind % 15 ∧ d.kind % 15 ≤ 14 ∧ 0 ≤ d.kind % 2 ∧ d.kind % 2 ≤ 1 := by
  obtain ⟨⟨h1, h2⟩, ⟨h3, h4⟩, _⟩ := hf
  unfold lenN
  refine ⟨by omega, by omega, by omega, by omega, by omega, by omega, by omega, by omega⟩
theorem good_node {d : Nd} (hf : d.fit) (h : d.edges.length ≤ 10) : goodB (d.kind % 15) (lenN d) (d.edges.length : Nat) = true := by
  have := node_len hf h
  refine good_yes ⟨by omega, by omega, by omega, by omega, by omega, ?_, by omega⟩
  unfold lenN; have := hf.2.1; omega
theorem good_fill {d : Nd} (hf : d.fit) : goodB 15 (d.kind % 2) 0 = true := by
  have := hf.1
  exact good_yes ⟨by omega, by omega, by omega, by omega, by omega, by omega, by omega⟩
theorem place_eq {obs : List Ob} {tail : List Int} {k l p : Int} (hg : goodB k l p = true) (ht : 1 + l.toNat ≤ tail.length) :
    placeF obs tail k l p = ((((flat obs).length : Nat) : Int), 0, obs ++ [(packW k l p, zeros l)], tail.drop (1 + l.toNat)) := by
  unfold placeF
  rw [if_neg (by simp [hg]), if_neg (by omega)]
theorem flat_one (obs : List Ob) (z l : Int) : (flat (obs ++ [(z, zeros l)])).length = (flat obs).length + 1 + l.toNat := by
  simp [flat_append, flat_cons, flat_nil, zeros]; omega
theorem mid_len {k : Nat} {d : Nd} {obs : List Ob} (hf : d.fit) : (flat (midN k d obs)).length ≤ (flat obs).length + 2 := by
  unfold midN
  have := hf.1
  split
  · rw [flat_one]; omega
  · omega
theorem laid_len {ds : List Nd} (hf : ∀ d ∈ ds, d.fit) (he : ∀ d ∈ ds, d.edges.length ≤ 10) (room : Nat) : ∀ k, 1 + room + (flat (laidG ds k).1).length ≤ sizeG ds room k
  | 0 => by simp [laidG, flat_nil, sizeG]
  | k + 1 => by
    have ih := laid_len hf he room k
    cases h : ds[k]? with
    | none =>
      rw [laidG, h]
      exact Nat.le_trans ih (size_le (Nat.le_succ k))
    | some d =>
      rw [laid_succ h, size_succ h]
      have hm := List.mem_of_getElem? h
      have h1 := mid_len (k := k) (obs := (laidG ds k).1) (hf d hm)
      have h2 := node_len (hf d hm) (he d hm)
      simp only [flat_one]
      unfold szN
      omega
theorem mid_live {k : Nat} {d : Nd} {obs : List Ob} {a : Int} (h : Live obs a) : Live (midN k d obs) a := by
  unfold midN
  split
  · exact live_more h
  · exact h
theorem laid_ats {ds : List Nd} (hf : ∀ d ∈ ds, d.fit) (he : ∀ d ∈ ds, d.edges.length ≤ 10) : ∀ k, ∀ a ∈ (laidG ds k).2, Live (laidG ds k).1 a ∧ 0 ≤ a ∧ a ≤ ((flat (laidG ds k).1).length : Nat)
  | 0 => fun a h => by simp [laidG] at h
  | k + 1 => by
    have ih := laid_ats hf he k
    cases h : ds[k]? with
    | none => rw [laidG, h]; exact ih
    | some d =>
      rw [laid_succ h]
      have hm := List.mem_of_getElem? h
      intro a ha
      simp only [flat_one]
      rcases List.mem_append.1 ha with ha | ha
      · obtain ⟨h1, h2, h3⟩ := ih a ha
        refine ⟨live_more (mid_live h1), h2, ?_⟩
        have : (flat (laidG ds k).1).length ≤ (flat (midN k d (laidG ds k).1)).length := by
          unfold midN
          split
          · rw [flat_one]; omega
          · exact Nat.le_refl _
        omega
      · simp at ha
        subst ha
        refine ⟨⟨midN k d (laidG ds k).1, (headN d, zeros (lenN d)), [], rfl, rfl, ?_⟩, by omega, by omega⟩
        have h2 := node_len (hf d hm) (he d hm)
        have := (head_pack (good_node (hf d hm) (he d hm))).2.1
        show headN d % 16 ≠ 15
        unfold headN
        rw [this]; omega
theorem laid_count {ds : List Nd} : ∀ k, k ≤ ds.length → (laidG ds k).2.length = k
  | 0, _ => rfl
  | k + 1, h => by
    obtain ⟨d, hd⟩ : ∃ d, ds[k]? = some d := ⟨_, List.getElem?_eq_getElem (by omega)⟩
    rw [laid_succ hd]
    have := laid_count (ds := ds) k (by omega)
    simp [this]
/-- The heads, whatever is written. -/
theorem write_heads {obs : List Ob} {a f v : Int} : ((writeF obs a f v).2).map Prod.fst = obs.map Prod.fst := by
  unfold writeF
  cases hl : look obs a with
  | none => rfl
  | some x =>
    obtain ⟨e, _⟩ := look_some _ _ _ hl
    simp only
    split
    · rfl
    · split
      · rfl
      · rw [e]; simp
theorem write_live {obs : List Ob} {a f v b : Int} (h : Live obs b) : Live (writeF obs a f v).2 b := by
  unfold writeF
  cases hl : look obs a with
  | none => exact h
  | some x =>
    obtain ⟨pre, o, post⟩ := x
    obtain ⟨e0, _⟩ := look_some _ _ _ hl
    simp only at e0 ⊢
    subst e0
    split
    · exact h
    · next h1 =>
      split
      · exact h
      · have := live_swap (mid := [(o.1, o.2.set f.toNat v)]) h (by simp [flat_cons, flat_nil]; omega) (fun hk => ⟨_, _, rfl, hk⟩)
        simpa using this
theorem place_live {ats : List Int} {obs : List Ob} {e : Int} (h : ∀ a ∈ ats, Live obs a) (h0 : 0 ≤ e) : astrayO obs (placeV ats e) = false := by
  unfold placeV
  split
  · exact astray_live (.inl rfl)
  · next h1 =>
    have hn := Int.emod_nonneg e (show ((ats.length : Int) + 1) ≠ 0 by omega)
    have hlt := Int.emod_lt_of_pos e (show 0 < (ats.length : Int) + 1 by omega)
    have hk : (e % ((ats.length : Int) + 1)).toNat < ats.length := by omega
    refine astray_live (.inr ?_)
    rw [List.getD_eq_getElem?_getD, List.getElem?_eq_getElem hk]
    simp only [Option.getD_some]
    have := h _ (List.getElem_mem hk)
    have e1 : 1 + ats[(e % ((ats.length : Int) + 1)).toNat] - 1 = ats[(e % ((ats.length : Int) + 1)).toNat] := by omega
    rw [e1]; exact this
theorem place_fits {ats : List Int} {e : Int} (h : ∀ a ∈ ats, 0 ≤ a ∧ a ≤ 65536) (h0 : 0 ≤ e) : 0 ≤ placeV ats e ∧ placeV ats e ≤ 65537 := by
  unfold placeV
  split
  · omega
  · next h1 =>
    have hn := Int.emod_nonneg e (show ((ats.length : Int) + 1) ≠ 0 by omega)
    have hlt := Int.emod_lt_of_pos e (show 0 < (ats.length : Int) + 1 by omega)
    have hk : (e % ((ats.length : Int) + 1)).toNat < ats.length := by omega
    rw [List.getD_eq_getElem?_getD, List.getElem?_eq_getElem hk]
    have := h _ (List.getElem_mem hk)
    simp only [Option.getD_some]; omega
end Go.Proofs.Ytehmcbpkhknpcaa
