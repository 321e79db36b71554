/- What the reference's Split answers where it splits. -/
import Derived.Test.YtklhdilbmpndkaaGreatGg
namespace Go.Proofs.YtklhdilbmpndkaaGreat
set_option maxRecDepth 20000
open Go.RowKit
set_option linter.unusedVariables false
set_option linter.unusedSimpArgs false

theorem CellsO.split {w : World} {base : Nat} : ∀ {a : Nat} {pre rest : List Ob} {xs : List Value}, CellsO w base a (pre ++ rest) xs → ∃ xs1 xs2, xs = xs1 ++ xs2 ∧ CellsO w base a pre xs1 ∧ CellsO w base (a + (flat pre).length) rest xs2
  | a, [], rest, xs, h => ⟨[], xs, rfl, rfl, by simpa [flat_nil] using h⟩
  | a, o :: l, rest, xs, h => by
    obtain ⟨b, c, ys, e, ho, h2⟩ := h
    obtain ⟨xs1, xs2, e2, h3, h4⟩ := CellsO.split h2
    refine ⟨thing a o (some ⟨b, 0, none⟩) c ++ xs1, xs2, by rw [e, e2, List.append_assoc], ⟨b, c, xs1, rfl, ho, h3⟩, ?_⟩
    have : a + (flat (o :: l)).length = a + 1 + o.2.length + (flat l).length := by rw [flat_cons]; simp; omega
    rw [this]; exact h4
theorem owns_cells {w : World} {base n g cap : Nat} {xs : List Value} (h : w.ownsRow base 66 5 (.slice (some ⟨g, 0, none⟩) n cap) n xs) : (∀ j u, xs[j]? = some u → w.cell? ((⟨g, 0, none⟩ : Addr).add j) = some u) ∧ n ≤ cap := by
  rcases h.2 with ⟨e, _⟩ | ⟨g', cap', cur, e, _, h3, h4, _, _, h7⟩
  · cases e
  · injection e with e1 _ e3
    injection e1 with e1
    injection e1 with e1
    subst e1 e3
    refine ⟨fun j u hu => World.news_of_block h3 j u ?_, h4⟩
    rw [← h7, List.getElem?_take] at hu
    split at hu
    · exact hu
    · cases hu
theorem add_off (g k j : Nat) : (⟨g, k, none⟩ : Addr).add j = (⟨g, 0, none⟩ : Addr).add (k + j) := by
  unfold Addr.add
  by_cases h : j = 0
  · subst h
    by_cases h' : k = 0
    · subst h'; rfl
    · rw [if_pos rfl, if_neg (by omega)]; simp
  · rw [if_neg h, if_neg (by omega)]; simp
theorem lies_news {w : World} {b : Nat} {t : TypeId} {cs : List Value} (h : Lies w b t cs) : ∀ j u, cs[j]? = some u → w.cell? ((⟨b, 0, none⟩ : Addr).add j) = some u := fun j u hu => by
  have e : (⟨b, 0, none⟩ : Addr).add j = ⟨b, j, none⟩ := by unfold Addr.add; split <;> simp_all
  rw [e, h.cell j]; exact hu
theorem csplit_even {w U : World} {base n' cap g bm aN q l : Nat} {pre post : List Ob} {xs1 xs2 : List Value} {k p : Int} (C1 : CellsO w base 0 pre xs1) (C2 : CellsO w base (aN + 1 + q) post xs2) (B : Below w.heap.size w U) {N : Nat}
    (O : U.ownsRow N 66 5 (.slice (some ⟨g, 0, none⟩) n' cap) n' ((xs1 ++ [.int .i64 (aN : Int), .int .i64 k, .int .i64 (l : Int), .int .i64 p, .slice (some ⟨bm, 0, none⟩) l l]) ++ xs2)) (MK : Lies U bm 3 (noughts l)) (hN : base ≤ N) (hbm : base ≤ bm) (haN : (flat pre).length = aN) (hg : goodB k (l : Int) p = true) (h1 : q ≤ l) (h2 : l ≤ q) (hl : l ≤ 65536) :
    Owned U base (some ⟨g, 0, none⟩) n' cap (pre ++ (packW k (l : Int) p, zeros (l : Int)) :: post) ((xs1 ++ [.int .i64 (aN : Int), .int .i64 k, .int .i64 (l : Int), .int .i64 p, .slice (some ⟨bm, 0, none⟩) l l]) ++ xs2) := by
  obtain rfl : l = q := by omega
  obtain ⟨_, e1, e2, e3⟩ := head_pack hg
  refine ⟨owns_base O hN, ?_⟩
  rw [List.append_assoc]
  refine (C1.kept B).append ?_
  rw [Nat.zero_add, haN]
  refine ⟨bm, l, xs2, ?_, ?_, ?_⟩
  · simp [thing, e1, e2, e3, zeros]
  · have := owns_lies MK (base := base) hbm hl
    simpa [zeros] using this
  · have := C2.kept B
    simpa [zeros] using this
theorem csplit_rest {w U : World} {base n' cap g bm bm2 aN q l m : Nat} {pre post : List Ob} {xs1 xs2 : List Value} {k p : Int} (C1 : CellsO w base 0 pre xs1) (C2 : CellsO w base (aN + 1 + q) post xs2) (B : Below w.heap.size w U) {N : Nat}
    (O : U.ownsRow N 66 5 (.slice (some ⟨g, 0, none⟩) n' cap) n' (((xs1 ++ [.int .i64 (aN : Int), .int .i64 k, .int .i64 (l : Int), .int .i64 p, .slice (some ⟨bm, 0, none⟩) l l]) ++ [.int .i64 ((aN : Int) + 1 + (l : Int)), .int .i64 15, .int .i64 ((q : Int) - (l : Int) - 1), .int .i64 0, .slice (some ⟨bm2, 0, none⟩) m m]) ++ xs2)) (MK : Lies U bm 3 (noughts l)) (MK2 : Lies U bm2 3 (noughts m)) (hN : base ≤ N) (hbm : base ≤ bm ∧ base ≤ bm2) (haN : (flat pre).length = aN) (hg : goodB k (l : Int) p = true) (hl : l ≤ 65536) (hlq : l < q) (hm : (m : Int) = (q : Int) - (l : Int) - 1) (hq : q ≤ 4095) :
    Owned U base (some ⟨g, 0, none⟩) n' cap (pre ++ (packW k (l : Int) p, zeros (l : Int)) :: (packW 15 ((q : Int) - (l : Int) - 1) 0, zeros ((q : Int) - (l : Int) - 1)) :: post) (((xs1 ++ [.int .i64 (aN : Int), .int .i64 k, .int .i64 (l : Int), .int .i64 p, .slice (some ⟨bm, 0, none⟩) l l]) ++ [.int .i64 ((aN : Int) + 1 + (l : Int)), .int .i64 15, .int .i64 ((q : Int) - (l : Int) - 1), .int .i64 0, .slice (some ⟨bm2, 0, none⟩) m m]) ++ xs2) := by
  obtain ⟨_, e1, e2, e3⟩ := head_pack hg
  rw [← hm]
  have hg2 : goodB 15 (m : Int) 0 = true := good_yes ⟨by omega, by omega, by omega, by omega, by omega, by omega, by omega⟩
  obtain ⟨_, f1, f2, f3⟩ := head_pack hg2
  rw [← hm] at O
  refine ⟨owns_base O hN, ?_⟩
  rw [List.append_assoc, List.append_assoc]
  refine (C1.kept B).append ?_
  rw [Nat.zero_add, haN]
  refine ⟨bm, l, [.int .i64 ((aN : Int) + 1 + (l : Int)), .int .i64 15, .int .i64 (m : Int), .int .i64 0, .slice (some ⟨bm2, 0, none⟩) m m] ++ xs2, ?_, ?_, ⟨bm2, m, xs2, ?_, ?_, ?_⟩⟩
  · simp [thing, e1, e2, e3, zeros]
  · have := owns_lies MK (base := base) hbm.1 hl
    simpa [zeros] using this
  · simp [thing, f1, f2, f3, zeros]
  · have := owns_lies MK2 (base := base) hbm.2 (by omega)
    simpa [zeros] using this
  · have h := C2.kept B
    have e : aN + 1 + (zeros (l : Int)).length + 1 + (zeros (m : Int)).length = aN + 1 + q := by simp [zeros]; omega
    simp only
    rw [e]; exact h
theorem owned_form {w : World} {base n sz : Nat} {t : TypeId} {v : Value} {xs : List Value} (h : w.ownsRow base t sz v n xs) (hne : v = .slice none 0 0 → False) : ∃ g cap, v = .slice (some ⟨g, 0, none⟩) n cap := by
  rcases h.2 with ⟨e, _⟩ | ⟨g, cap, cur, e, _⟩
  · exact (hne e).elim
  · exact ⟨g, cap, e⟩

end Go.Proofs.YtklhdilbmpndkaaGreat
