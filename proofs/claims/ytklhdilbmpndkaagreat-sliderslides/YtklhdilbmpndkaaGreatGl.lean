/- What the closure of Is answers, as long as all is as it should be. The walk of HeapRefs. What Is answers where the heap and the reference's heap hold the same objects. The cells of a list of the reference's objects. -/
import Derived.Test.YtklhdilbmpndkaaGreatGe
import Derived.Test.YtklhdilbmpndkaaGreatGk
import Derived.Test.YtklhdilbmpndkaaGreatGd
namespace Go.Proofs.YtklhdilbmpndkaaGreat
set_option maxRecDepth 20000
open Go.RowKit
set_option linter.unusedVariables false
set_option linter.unusedSimpArgs false

end Go.Proofs.YtklhdilbmpndkaaGreat

namespace Go.Proofs.YtklhdilbmpndkaaGreat
set_option maxRecDepth 20000
open Go.RowKit Go.Sort
set_option linter.unusedVariables false
set_option linter.unusedSimpArgs false

end Go.Proofs.YtklhdilbmpndkaaGreat

namespace Go.Proofs.YtklhdilbmpndkaaGreat
set_option maxRecDepth 20000
open Go.RowKit Go.Sort
set_option linter.unusedVariables false
set_option linter.unusedSimpArgs false

/-- While Is goes through. -/
structure JI (w : World) (g gw gb bW bm bi bo : Nat) (s : Int) (A : Option Addr) (n c : Nat) (obs : List Ob) (tail : List Int) (pre : List Ob) (W : World) : Prop where
  st : St W g gw gb obs tail
  walk : Lies W bW 29 [.pointer (some ⟨g, 0, none⟩)]
  box : Lies W bm 34 [.int .i64 s, .slice A n c]
  i : Lies W bi 3 [.int .i64 (pre.length : Nat)]
  ok : Lies W bo 4 [.bool true]
  old : Below w.heap.size w W

theorem JI.kept {w W W' : World} {g gw gb bW bm bi bo n c : Nat} {s : Int} {A : Option Addr} {obs pre : List Ob} {tail : List Int} (h : JI w g gw gb bW bm bi bo s A n c obs tail pre W) (hb : Below W.heap.size W W') : JI w g gw gb bW bm bi bo s A n c obs tail pre W' :=
  ⟨h.st.kept hb, h.walk.below hb h.walk.lt, h.box.below hb h.box.lt, h.i.below hb h.i.lt, h.ok.below hb h.ok.lt, on h.old h.old.size hb⟩

theorem JI.cells {w W : World} {g gw gb bW bm bi bo n c : Nat} {s : Int} {A : Option Addr} {obs : List Ob} {tail : List Int} (h : JI w g gw gb bW bm bi bo s A n c obs tail obs W) (hn : obs.length = n) :
    W.cell? ⟨bm, 0, none⟩ = some (.int .i64 s) ∧ W.cell? ⟨bm, 1, none⟩ = some (.slice A n c) ∧ W.cell? ⟨bi, 0, none⟩ = some (.int .i64 (n : Int)) ∧ W.cell? ⟨bo, 0, none⟩ = some (.bool true) :=
  ⟨h.box.cell 0, h.box.cell 1, by rw [← hn]; exact h.i.cell 0, h.ok.cell 0⟩

theorem Row.front {w : World} {A : Option Addr} {xs ys : List Int} (h : Row w A (xs ++ ys)) : Row w A xs := fun h0 => by
  obtain ⟨ad, e, hl, hc⟩ := h (by simp; omega)
  refine ⟨ad, e, hl, fun j v hv => hc j v ?_⟩
  have hj := (List.getElem?_eq_some_iff.1 hv).1
  rw [List.map_append, List.getElem?_append_left hj]
  exact hv

theorem size_z {w : World} {g gw gb : Nat} {obs : List Ob} {tail : List Int} (S : St w g gw gb obs tail) (Z : Nat) (hZ : (flat obs ++ tail).length = Z) :
    Calls Tryz.prog 15 #[.pointer (some ⟨g, 0, none⟩)] w fun e w' => e = .returned (.int .i64 (Z : Int)) ∧ w' = w := by
  subst hZ
  exact (size_any S.lies).mono fun _ _ h => ⟨h.1, h.2.symm⟩

end Go.Proofs.YtklhdilbmpndkaaGreat

namespace Go.Proofs.YtklhdilbmpndkaaGreat
set_option maxRecDepth 20000
open Go.RowKit
set_option linter.unusedVariables false
set_option linter.unusedSimpArgs false

/-- These are the cells of those objects, the first of which lies at a. -/
def Cells (w : World) : Nat → List Ob → List Value → Prop
  | _, [], xs => xs = []
  | a, o :: l, xs => ∃ bd c ys, xs = thing a o (some bd) c ++ ys ∧ Row w (some bd) o.2 ∧ Cells w (a + 1 + o.2.length) l ys

theorem thing_len (a : Nat) (o : Ob) (B : Option Addr) (c : Nat) : (thing a o B c).length = 5 := rfl

theorem Cells.len {w : World} : ∀ {a : Nat} {obs : List Ob} {xs : List Value}, Cells w a obs xs → xs.length = obs.length * 5
  | _, [], xs, h => by have : xs = [] := h; rw [this]; rfl
  | a, o :: l, xs, h => by
    obtain ⟨bd, c, ys, rfl, _, h2⟩ := h
    have := h2.len
    simp [thing_len]; omega

theorem Cells.kept {w w' : World} (hb : Below w.heap.size w w') : ∀ {a : Nat} {obs : List Ob} {xs : List Value}, Cells w a obs xs → Cells w' a obs xs
  | _, [], xs, h => h
  | a, o :: l, xs, h => by
    obtain ⟨bd, c, ys, e, hr, h2⟩ := h
    exact ⟨bd, c, ys, e, hr.kept hb, h2.kept hb⟩

theorem Cells.append {w : World} : ∀ {a : Nat} {obs more : List Ob} {xs ys : List Value}, Cells w a obs xs → Cells w (a + (flat obs).length) more ys → Cells w a (obs ++ more) (xs ++ ys)
  | a, [], more, xs, ys, h, k => by
    have : xs = [] := h
    subst this
    simpa [flat_nil] using k
  | a, o :: l, more, xs, ys, h, k => by
    obtain ⟨bd, c, zs, rfl, hr, h2⟩ := h
    refine ⟨bd, c, zs ++ ys, by simp, hr, h2.append ?_⟩
    rw [flat_cons] at k
    have e : a + (o.1 :: (o.2 ++ flat l)).length = a + 1 + o.2.length + (flat l).length := by simp; omega
    rw [← e]
    exact k

theorem Cells.one {w : World} (a : Nat) (o : Ob) (bd : Addr) (c : Nat) (h : Row w (some bd) o.2) : Cells w a [o] (thing a o (some bd) c) := ⟨bd, c, [], by simp, h, rfl⟩

theorem Cells.at_ {w : World} : ∀ {a : Nat} {obs : List Ob} {xs : List Value}, Cells w a obs xs → ∀ i o, obs[i]? = some o → ∃ bd c, Row w (some bd) o.2 ∧ ∀ j v, (thing (a + atI obs i) o (some bd) c)[j]? = some v → xs[i * 5 + j]? = some v
  | _, [], xs, h, i, o, ho => by simp at ho
  | a, x :: l, xs, h, 0, o, ho => by
    obtain ⟨bd, c, ys, rfl, hr, h2⟩ := h
    simp at ho
    subst ho
    refine ⟨bd, c, hr, fun j v hv => ?_⟩
    rw [atI_zero] at hv
    have hj := (List.getElem?_eq_some_iff.1 hv).1
    rw [Nat.zero_mul, Nat.zero_add, List.getElem?_append_left (by rw [thing_len] at hj ⊢; exact hj)]
    exact hv
  | a, x :: l, xs, h, i + 1, o, ho => by
    obtain ⟨bd, c, ys, rfl, hr, h2⟩ := h
    simp at ho
    obtain ⟨bd', c', hr', hc⟩ := h2.at_ i o ho
    refine ⟨bd', c', hr', fun j v hv => ?_⟩
    have e : a + 1 + x.2.length + atI l i = a + atI (x :: l) (i + 1) := by
      unfold atI
      rw [List.take_succ_cons, flat_cons]
      simp; omega
    rw [e] at hc
    have := hc j v hv
    rw [List.getElem?_append_right (by rw [thing_len]; omega), thing_len]
    rw [show (i + 1) * 5 + j - 5 = i * 5 + j by omega]
    exact this

/-- Objects that lie in a row of one's own. -/
theorem things_own {w : World} {base n : Nat} {v : Value} {xs : List Value} {obs : List Ob} (h : w.ownsRow base 66 5 v n xs) (hc : Cells w 0 obs xs) : ∃ A c, v = .slice A n c ∧ Things w A obs := by
  obtain ⟨hl, ⟨rfl, h0⟩ | ⟨g, cap, cur, rfl, h2, h3, h4, h5, h6, h7⟩⟩ := h
  · refine ⟨none, 0, by rw [h0], fun i o ho => ?_⟩
    have h1 := hc.len
    have := (List.getElem?_eq_some_iff.1 ho).1
    omega
  · refine ⟨_, _, rfl, fun i o ho => ?_⟩
    obtain ⟨bd, c, hr, hx⟩ := hc.at_ i o ho
    refine ⟨⟨g, 0, none⟩, some bd, c, rfl, (Array.getElem?_eq_some_iff.1 h3).1, fun j u hu => ?_, hr, bd, rfl⟩
    have h1 := hx j u (by rw [Nat.zero_add]; exact hu)
    refine World.news_of_block h3 _ u ?_
    rw [← h7, List.getElem?_take] at h1
    split at h1
    · exact h1
    · cases h1

/-- What lies in a slice of objects, as cells. -/
theorem cells_of {w : World} {ad : Addr} : ∀ {obs : List Ob} (k : Nat) (a : Nat), (∀ i o, obs[i]? = some o → ∃ B c, (∀ j v, (thing (a + atI obs i) o B c)[j]? = some v → w.cell? (ad.add ((k + i) * 5 + j)) = some v) ∧ Row w B o.2 ∧ ∃ bd, B = some bd) →
    ∃ xs, Cells w a obs xs ∧ ∀ j u, xs[j]? = some u → w.cell? (ad.add (k * 5 + j)) = some u
  | [], k, a, h => ⟨[], rfl, fun j u hu => by simp at hu⟩
  | o :: l, k, a, h => by
    obtain ⟨B, c, h1, h2, bd, rfl⟩ := h 0 o rfl
    obtain ⟨ys, hy, hc⟩ := cells_of (w := w) (ad := ad) (obs := l) (k + 1) (a + 1 + o.2.length) (fun i x hx => by
      obtain ⟨B, c, h1, h2⟩ := h (i + 1) x (by simpa using hx)
      refine ⟨B, c, fun j v hv => ?_, h2⟩
      have e : a + 1 + o.2.length + atI l i = a + atI (o :: l) (i + 1) := by
        unfold atI
        rw [List.take_succ_cons, flat_cons]
        simp; omega
      rw [e] at hv
      have := h1 j v hv
      rwa [show (k + 1 + i) * 5 + j = (k + (i + 1)) * 5 + j by omega])
    refine ⟨thing a o (some bd) c ++ ys, ⟨bd, c, ys, rfl, h2, hy⟩, fun j u hu => ?_⟩
    by_cases hj : j < 5
    · rw [List.getElem?_append_left (by rw [thing_len]; exact hj)] at hu
      rw [atI_zero] at h1
      have := h1 j u hu
      simpa using this
    · rw [List.getElem?_append_right (by rw [thing_len]; omega), thing_len] at hu
      have := hc (j - 5) u hu
      rwa [show (k + 1) * 5 + (j - 5) = k * 5 + j by omega] at this

theorem Things.cells {w : World} {A : Option Addr} {obs : List Ob} (h : Things w A obs) (h0 : obs ≠ []) : ∃ ad xs, A = some ad ∧ Cells w 0 obs xs ∧ ∀ j u, xs[j]? = some u → w.cell? (ad.add j) = some u := by
  obtain ⟨o, ho⟩ : ∃ o, obs[0]? = some o := by
    cases obs with
    | nil => exact absurd rfl h0
    | cons o l => exact ⟨o, rfl⟩
  obtain ⟨ad, _, _, e, _⟩ := h 0 o ho
  subst e
  obtain ⟨xs, h1, h2⟩ := cells_of (w := w) (ad := ad) (obs := obs) 0 0 (fun i x hx => by
    obtain ⟨ad', B, c, e, _, hc, hr, hB⟩ := h i x hx
    injection e with e
    subst e
    exact ⟨B, c, fun j v hv => by rw [Nat.zero_add] at hv ⊢; exact hc j v hv, hr, hB⟩)
  exact ⟨ad, xs, rfl, h1, fun j u hu => by have := h2 j u hu; simpa using this⟩

theorem Cells.flatOne {w : World} : ∀ {a : Nat} {obs : List Ob} {xs : List Value}, Cells w a obs xs → ∀ u ∈ xs, u.oneCell' = true
  | _, [], xs, h, u, hu => by have : xs = [] := h; subst this; simp at hu
  | a, o :: l, xs, h, u, hu => by
    obtain ⟨bd, c, ys, rfl, _, h2⟩ := h
    rcases List.mem_append.1 hu with hu | hu
    · simp [thing] at hu
      rcases hu with rfl | rfl | rfl | rfl | rfl <;> rfl
    · exact h2.flatOne u hu
end Go.Proofs.YtklhdilbmpndkaaGreat
