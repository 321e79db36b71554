/- Few, and place. The objects of a graph's heap, as the graph's nodes are gone through: plain facts. -/
import Derived.Test.YtklhdilbmpndkaaGreatGj
namespace Go.Proofs.YtklhdilbmpndkaaGreat
set_option maxRecDepth 20000
open Go.RowKit
set_option linter.unusedVariables false
set_option linter.unusedSimpArgs false

/-- A reference to a node of a number; none. -/
def placeV (ats : List Int) (e : Int) : Int := if e % ((ats.length : Int) + 1) = (ats.length : Int) then 0 else 1 + ats.getD (e % ((ats.length : Int) + 1)).toNat 0

set_option maxHeartbeats 1000000 in
theorem ref_any {w : World} (A : Option Addr) (n c : Nat) (ats : List Int) (e : Int) (hl : ats.length = n) (hr : Row w A ats) (h0 : 0 ≤ e) (h1 : e ≤ 255) (hn : n ≤ 1000) (hb : ∀ a ∈ ats, 0 ≤ a ∧ a ≤ 65536) :
    Calls Tryz.prog 43 #[.slice A n c, .int .u8 e] w fun x w' => x = .returned (.int .i64 (placeV ats e)) ∧ w = w' := by
  unfold placeV
  rw [hl]
  obtain ⟨k, hk⟩ : ∃ k : Nat, e % ((n : Int) + 1) = k := ⟨(e % ((n : Int) + 1)).toNat, by have := Int.emod_nonneg e (show ((n : Int) + 1) ≠ 0 by omega); omega⟩
  have hkn : (k : Int) < (n : Int) + 1 := by rw [← hk]; exact Int.emod_lt_of_pos e (by omega)
  have b1 : ¬ ((n : Int) + 1) = 0 := by omega
  rw [hk]
  by_cases h : k = n
  · subst h
    rw [if_pos rfl]
    have d1 : ((k : Int) == (k : Int)) = true := by simp
    clear hr hb hl
    go_enter Tryz.func43, Tryz.ntmps43
    go_wp2
    go_ret
    exact ⟨rfl, rfl⟩
  · rw [if_neg (by omega), Int.toNat_natCast]
    have d1 : ((k : Int) == (n : Int)) = false := by rw [beq_eq_false_iff_ne]; omega
    have hk2 : k < ats.length := by omega
    obtain ⟨ad, rfl, hc⟩ := hr.at_ hk2
    have hbb := hb (ats.getD k 0) (by rw [List.getD_eq_getElem?_getD, List.getElem?_eq_getElem hk2]; exact List.getElem_mem hk2)
    generalize ats.getD k 0 = y at *
    have k0 : (0 : Int) ≤ (k : Int) := by omega
    have k1 : (k : Int) < (n : Int) := by omega
    clear hr hb hl h
    go_enter Tryz.func43, Tryz.ntmps43
    go_wp2
    go_ret
    exact ⟨rfl, rfl⟩

/-- A graph that isn't great. -/
def fewB (ds : List Nd) (m : Nat) : Bool := ds.all (fun d => decide (d.edges.length ≤ 10)) && (decide (ds.length ≤ 14) && decide (m ≤ 14))

set_option maxHeartbeats 1000000 in
theorem few_any {w : World} (A B : Option Addr) (n c m c' : Nat) (ds : List Nd) (hd : CameN w A n ds) (hm : m ≤ maxLen) :
    Calls Tryz.prog 5 #[.agg #[.slice A n c, .slice B m c']] w fun x w' => x = .returned (.bool (fewB ds m)) ∧ Below w.heap.size w w' := by
  obtain ⟨hn, hN, hF, hn2⟩ := hd
  unfold maxLen at hn2 hm
  unfold fewB
  rw [hn]
  have HN := Lib.hid hN
  have Hn := Lib.hid hn
  obtain ⟨b, hb⟩ : ∃ b, (ds.all (fun d => decide (d.edges.length ≤ 10)) && (decide (n ≤ 14) && decide (m ≤ 14))) = b := ⟨_, rfl⟩
  rw [hb]
  have HR := Lib.hid hb
  clear hN hn hF hb
  go_enter Tryz.func5, Tryz.ntmps5
  go_wp2
  go_loopw [8] (fun i wr => ∃ k : Nat, k ≤ n ∧ i = .int .i64 k ∧ (ds.take k).all (fun d => decide (d.edges.length ≤ 10)) = true ∧ Lies wr w.heap.size 25 [.slice A n c, .slice B m c'] ∧ Below w.heap.size w wr) (fun i _ => n - (intOf i).toNat)
  case atStart => exact ⟨0, Nat.zero_le _, rfl, by simp, Lies.new w 25 [_, _], below_one _ _⟩
  case round =>
    obtain ⟨k, hk, rfl, hall, L, BB⟩ := hrel
    have HA := Lib.hid hall
    clear hall
    have x0 : wr.cell? ⟨w.heap.size, 0, none⟩ = some (.slice A n c) := L.cell 0
    have x1 : wr.cell? ⟨w.heap.size, 1, none⟩ = some (.slice B m c') := L.cell 1
    by_cases hlt : k < n
    · obtain ⟨d, hd⟩ : ∃ d, ds[k]? = some d := ⟨_, List.getElem?_eq_getElem (by rw [Hn.out]; exact hlt)⟩
      obtain ⟨ad, E, ec, rfl, c0, c1, c2, -⟩ := HN.out.at_ BB hd
      have k0 : (0 : Int) ≤ (k : Int) := by omega
      have k1 : (k : Int) < (n : Int) := by omega
      obtain ⟨X, hX⟩ : ∃ X : Obj, X = .cells #[.int .u8 d.kind, .slice E d.edges.length ec, .int .u8 d.more] 59 := ⟨_, rfl⟩
      have LX : Lies (wr.alloc X) wr.heap.size 59 [.int .u8 d.kind, .slice E d.edges.length ec, .int .u8 d.more] := by rw [hX]; exact Lies.new wr 59 [_, _, _]
      have y1 : (wr.alloc X).cell? ⟨wr.heap.size, 1, none⟩ = some (.slice E d.edges.length ec) := LX.cell 1
      have B2 := on BB BB.size (below_one wr X)
      have L2 := L.alloc X
      have HX := Lib.hid hX
      have hdl : ∀ q, (ds.take (k + 1)).all q = ((ds.take k).all q && q d) := fun q => by
        have hlt2 : k < ds.length := by rw [Hn.out]; exact hlt
        have : ds[k] = d := by rw [List.getElem?_eq_getElem hlt2] at hd; injection hd
        rw [← List.take_append_getElem hlt2, List.all_append, this]; simp
      have HD := Lib.hid hdl
      have hdm := Lib.hid (List.mem_of_getElem? hd)
      obtain ⟨q, hq⟩ : ∃ q, d.edges.length = q := ⟨_, rfl⟩
      have HQ := Lib.hid hq
      rw [hq] at y1 c1 hX
      have HX2 := Lib.hid hX
      clear hX hdl hd LX hq HX
      by_cases hten : 10 < q
      · have d1 : decide ((10 : Int) < (q : Int)) = true := by simp; omega
        have hf : ds.all (fun d => decide (d.edges.length ≤ 10)) = false := by
          rw [List.all_eq_false]
          exact ⟨d, hdm.out, by rw [HQ.out]; simp; omega⟩
        have HF := Lib.hid hf
        clear hf
        go_wp2_with fail
        rw [← HX2.out]
        go_wp2
        go_ret
        exact ⟨(show Ending.returned (.bool false) = .returned (.bool b) from by rw [← HR.out, HF.out, Bool.false_and]), B2⟩
      · have d1 : decide ((10 : Int) < (q : Int)) = false := by simp; omega
        go_wp2_with fail
        rw [← HX2.out]
        go_wp2
        refine ⟨⟨k + 1, by omega, by go_num, ?_, L2, B2⟩, by simp [intOf]; omega⟩
        rw [HD.out, HA.out, HQ.out]
        simp; omega
    · obtain rfl : k = n := by omega
      have hall : ds.all (fun d => decide (d.edges.length ≤ 10)) = true := by
        have := HA.out
        rwa [← Hn.out, List.take_length] at this
      have HF := Lib.hid hall
      clear hall
      by_cases h1 : k ≤ 14
      · have d1 : decide ((k : Int) ≤ (14 : Int)) = true := by simp; omega
        have e1 : decide (k ≤ 14) = true := by simp; omega
        have e2 : decide ((m : Int) ≤ (14 : Int)) = decide (m ≤ 14) := by simp; omega
        go_wp2
        go_ret
        exact ⟨(show Ending.returned (.bool (decide (m ≤ 14))) = .returned (.bool b) from by rw [← HR.out, HF.out, e1, Bool.true_and, Bool.true_and]), BB⟩
      · have d1 : decide ((k : Int) ≤ (14 : Int)) = false := by simp; omega
        have e1 : decide (k ≤ 14) = false := by simp; omega
        go_wp2
        go_ret
        exact ⟨(show Ending.returned (.bool false) = .returned (.bool b) from by rw [← HR.out, HF.out, e1, Bool.true_and, Bool.false_and]), BB⟩
end Go.Proofs.YtklhdilbmpndkaaGreat

namespace Go.Proofs.YtklhdilbmpndkaaGreat
set_option maxRecDepth 20000
open Go.RowKit
set_option linter.unusedVariables false
set_option linter.unusedSimpArgs false

/-- As many words as are laid aside for a node. -/
def szN (d : Nd) : Nat := 3 + d.edges.length + (d.more % 4).toNat
def lenN (d : Nd) : Int := (d.edges.length : Int) + d.more % 4
def headN (d : Nd) : Int := packW (d.kind % 15) (lenN d) (d.edges.length : Nat)
/-- The objects, with a filler ahead of each third node. -/
def midN (k : Nat) (d : Nd) (obs : List Ob) : List Ob := if k % 3 = 2 then obs ++ [(packW 15 (d.kind % 2) 0, zeros (d.kind % 2))] else obs
/-- Behind so many nodes: the objects, and the nodes' addresses. -/
def laidG (ds : List Nd) : Nat → List Ob × List Int
  | 0 => ([], [])
  | k + 1 => match ds[k]? with
    | none => laidG ds k
    | some d => (midN k d (laidG ds k).1 ++ [(headN d, zeros (lenN d))], (laidG ds k).2 ++ [(((flat (midN k d (laidG ds k).1)).length : Nat) : Int)])
/-- As many words as the heap has. -/
def sizeG (ds : List Nd) (room k : Nat) : Nat := 1 + room + ((ds.take k).map szN).sum

theorem laid_succ {ds : List Nd} {k : Nat} {d : Nd} (h : ds[k]? = some d) : laidG ds (k + 1) = (midN k d (laidG ds k).1 ++ [(headN d, zeros (lenN d))], (laidG ds k).2 ++ [(((flat (midN k d (laidG ds k).1)).length : Nat) : Int)]) := by
  rw [laidG, h]
theorem size_succ {ds : List Nd} {k room : Nat} {d : Nd} (h : ds[k]? = some d) : sizeG ds room (k + 1) = sizeG ds room k + szN d := by
  obtain ⟨hk, e⟩ := List.getElem?_eq_some_iff.1 h
  unfold sizeG
  rw [← List.take_append_getElem hk, e]
  simp; omega
theorem size_le {ds : List Nd} {room : Nat} : ∀ {k j : Nat}, k ≤ j → sizeG ds room k ≤ sizeG ds room j := by
  intro k j h
  unfold sizeG
  have : ds.take j = ds.take k ++ (ds.take j).drop k := by
    have := List.take_append_drop k (ds.take j)
    rw [List.take_take, Nat.min_eq_left h] at this
    exact this.symm
  rw [this]; simp
theorem node_len {d : Nd} (hf : d.fit) (h : d.edges.length ≤ 10) : 0 ≤ lenN d ∧ lenN d ≤ 13 ∧ (lenN d).toNat = d.edges.length + (d.more % 4).toNat ∧ (d.more % 4).toNat ≤ 3 ∧ 0 ≤ d.kind % 15 ∧ d.kind % 15 ≤ 14 ∧ 0 ≤ d.kind % 2 ∧ d.kind % 2 ≤ 1 := by
  obtain ⟨⟨h1, h2⟩, ⟨h3, h4⟩, _⟩ := hf
  unfold lenN
  refine ⟨by omega, by omega, by omega, by omega, by omega, by omega, by omega, by omega⟩
theorem good_node {d : Nd} (hf : d.fit) (h : d.edges.length ≤ 10) : goodB (d.kind % 15) (lenN d) (d.edges.length : Nat) = true := by
  have := node_len hf h
  refine good_yes ⟨by omega, by omega, by omega, by omega, by omega, ?_, by omega⟩
  unfold lenN; have := hf.2.1; omega
theorem good_fill {d : Nd} (hf : d.fit) : goodB 15 (d.kind % 2) 0 = true := by
  have := hf.1
  exact good_yes ⟨by omega, by omega, by omega, by omega, by omega, by omega, by omega⟩
theorem place_eq {obs : List Ob} {tail : List Int} {k l p : Int} (hg : goodB k l p = true) (ht : 1 + l.toNat ≤ tail.length) :
    placeF obs tail k l p = ((((flat obs).length : Nat) : Int), 0, obs ++ [(packW k l p, zeros l)], tail.drop (1 + l.toNat)) := by
  unfold placeF
  rw [if_neg (by simp [hg]), if_neg (by omega)]
theorem flat_one (obs : List Ob) (z l : Int) : (flat (obs ++ [(z, zeros l)])).length = (flat obs).length + 1 + l.toNat := by
  simp [flat_append, flat_cons, flat_nil, zeros]; omega
theorem mid_len {k : Nat} {d : Nd} {obs : List Ob} (hf : d.fit) : (flat (midN k d obs)).length ≤ (flat obs).length + 2 := by
  unfold midN
  have := hf.1
  split
  · rw [flat_one]; omega
  · omega
theorem laid_len {ds : List Nd} (hf : ∀ d ∈ ds, d.fit) (he : ∀ d ∈ ds, d.edges.length ≤ 10) (room : Nat) : ∀ k, 1 + room + (flat (laidG ds k).1).length ≤ sizeG ds room k
  | 0 => by simp [laidG, flat_nil, sizeG]
  | k + 1 => by
    have ih := laid_len hf he room k
    cases h : ds[k]? with
    | none =>
      rw [laidG, h]
      exact Nat.le_trans ih (size_le (Nat.le_succ k))
    | some d =>
      rw [laid_succ h, size_succ h]
      have hm := List.mem_of_getElem? h
      have h1 := mid_len (k := k) (obs := (laidG ds k).1) (hf d hm)
      have h2 := node_len (hf d hm) (he d hm)
      simp only [flat_one]
      unfold szN
      omega
theorem mid_live {k : Nat} {d : Nd} {obs : List Ob} {a : Int} (h : Live obs a) : Live (midN k d obs) a := by
  unfold midN
  split
  · exact live_more h
  · exact h
theorem laid_ats {ds : List Nd} (hf : ∀ d ∈ ds, d.fit) (he : ∀ d ∈ ds, d.edges.length ≤ 10) : ∀ k, ∀ a ∈ (laidG ds k).2, Live (laidG ds k).1 a ∧ 0 ≤ a ∧ a ≤ ((flat (laidG ds k).1).length : Nat)
  | 0 => fun a h => by simp [laidG] at h
  | k + 1 => by
    have ih := laid_ats hf he k
    cases h : ds[k]? with
    | none => rw [laidG, h]; exact ih
    | some d =>
      rw [laid_succ h]
      have hm := List.mem_of_getElem? h
      intro a ha
      simp only [flat_one]
      rcases List.mem_append.1 ha with ha | ha
      · obtain ⟨h1, h2, h3⟩ := ih a ha
        refine ⟨live_more (mid_live h1), h2, ?_⟩
        have : (flat (laidG ds k).1).length ≤ (flat (midN k d (laidG ds k).1)).length := by
          unfold midN
          split
          · rw [flat_one]; omega
          · exact Nat.le_refl _
        omega
      · simp at ha
        subst ha
        refine ⟨⟨midN k d (laidG ds k).1, (headN d, zeros (lenN d)), [], rfl, rfl, ?_⟩, by omega, by omega⟩
        have h2 := node_len (hf d hm) (he d hm)
        have := (head_pack (good_node (hf d hm) (he d hm))).2.1
        show headN d % 16 ≠ 15
        unfold headN
        rw [this]; omega
theorem laid_count {ds : List Nd} : ∀ k, k ≤ ds.length → (laidG ds k).2.length = k
  | 0, _ => rfl
  | k + 1, h => by
    obtain ⟨d, hd⟩ : ∃ d, ds[k]? = some d := ⟨_, List.getElem?_eq_getElem (by omega)⟩
    rw [laid_succ hd]
    have := laid_count (ds := ds) k (by omega)
    simp [this]
/-- The heads, whatever is written. -/
theorem write_heads {obs : List Ob} {a f v : Int} : ((writeF obs a f v).2).map Prod.fst = obs.map Prod.fst := by
  unfold writeF
  cases hl : look obs a with
  | none => rfl
  | some x =>
    obtain ⟨e, _⟩ := look_some _ _ _ hl
    simp only
    split
    · rfl
    · split
      · rfl
      · rw [e]; simp
theorem write_live {obs : List Ob} {a f v b : Int} (h : Live obs b) : Live (writeF obs a f v).2 b := by
  unfold writeF
  cases hl : look obs a with
  | none => exact h
  | some x =>
    obtain ⟨pre, o, post⟩ := x
    obtain ⟨e0, _⟩ := look_some _ _ _ hl
    simp only at e0 ⊢
    subst e0
    split
    · exact h
    · next h1 =>
      split
      · exact h
      · have := live_swap (mid := [(o.1, o.2.set f.toNat v)]) h (by simp [flat_cons, flat_nil]; omega) (fun hk => ⟨_, _, rfl, hk⟩)
        simpa using this
theorem place_live {ats : List Int} {obs : List Ob} {e : Int} (h : ∀ a ∈ ats, Live obs a) (h0 : 0 ≤ e) : astrayO obs (placeV ats e) = false := by
  unfold placeV
  split
  · exact astray_live (.inl rfl)
  · next h1 =>
    have hn := Int.emod_nonneg e (show ((ats.length : Int) + 1) ≠ 0 by omega)
    have hlt := Int.emod_lt_of_pos e (show 0 < (ats.length : Int) + 1 by omega)
    have hk : (e % ((ats.length : Int) + 1)).toNat < ats.length := by omega
    refine astray_live (.inr ?_)
    rw [List.getD_eq_getElem?_getD, List.getElem?_eq_getElem hk]
    simp only [Option.getD_some]
    have := h _ (List.getElem_mem hk)
    have e1 : 1 + ats[(e % ((ats.length : Int) + 1)).toNat] - 1 = ats[(e % ((ats.length : Int) + 1)).toNat] := by omega
    rw [e1]; exact this
theorem place_fits {ats : List Int} {e : Int} (h : ∀ a ∈ ats, 0 ≤ a ∧ a ≤ 65536) (h0 : 0 ≤ e) : 0 ≤ placeV ats e ∧ placeV ats e ≤ 65537 := by
  unfold placeV
  split
  · omega
  · next h1 =>
    have hn := Int.emod_nonneg e (show ((ats.length : Int) + 1) ≠ 0 by omega)
    have hlt := Int.emod_lt_of_pos e (show 0 < (ats.length : Int) + 1 by omega)
    have hk : (e % ((ats.length : Int) + 1)).toNat < ats.length := by omega
    rw [List.getD_eq_getElem?_getD, List.getElem?_eq_getElem hk]
    have := h _ (List.getElem_mem hk)
    simp only [Option.getD_some]; omega
end Go.Proofs.YtklhdilbmpndkaaGreat
