/- The walk of AllocApart. -/
import Derived.Test.YtibfhpbklnpknaaApTwo
import Derived.Test.YtibfhpbklnpknaaAlRead
import Derived.Test.YtibfhpbklnpknaaCheck2
import Derived.Deep.RegionHeld3
namespace Go.Proofs.Ytibfhpbklnpknaa
open Go.RowKit
set_option linter.unusedVariables false
set_option linter.unusedSimpArgs false

/-- Between two steps: what is taken is told, what was allocated stands there. -/
structure Ap (w W : World) (ga gf g gw gb bt N s n : Nat) (bs : List Int) (obs : List Ob) (tail : List Int) (A1 : Option Addr) (c1 : Nat) (xs : List Int) (A2 : Option Addr) (c2 : Nat) (hs : List Hd) : Prop where
  al : Al W ga gf g gw gb s bs obs tail
  len : (flat obs ++ tail).length = n
  bufs : Bufs bs obs
  clean : Clean obs
  taken : Lies W bt 4 ((full obs tail).map Value.bool)
  two : Two N W A1 c1 xs A2 c2 hs
  same : xs.length = hs.length
  rec_ : ∀ i, i < xs.length → wordAt obs (xs.getD i 0) = some (packW (hs.getD i (0, 0, 0)).1 (hs.getD i (0, 0, 0)).2.1 (hs.getD i (0, 0, 0)).2.2) ∧ goodB (hs.getD i (0, 0, 0)).1 (hs.getD i (0, 0, 0)).2.1 (hs.getD i (0, 0, 0)).2.2 = true ∧ (hs.getD i (0, 0, 0)).1 ≠ 15
  old : Below w.heap.size w W

/-- Where all that lies. -/
structure Low (B ga gf g gw gb bt N : Nat) : Prop where
  o1 : B ≤ g
  o2 : B ≤ gw
  o3 : B ≤ gb
  o4 : B ≤ gf
  o5 : B ≤ bt
  l1 : g < bt
  l2 : gw < bt
  l3 : gb < bt
  l4 : gf < bt
  l5 : ga < bt
  l6 : bt < N

section
variable {w W W' : World} {ga gf g gw gb bt N s n : Nat} {bs : List Int} {obs : List Ob} {tail : List Int} {A1 A2 : Option Addr} {c1 c2 : Nat} {xs : List Int} {hs : List Hd}
theorem Ap.kept (h : Ap w W ga gf g gw gb bt N s n bs obs tail A1 c1 xs A2 c2 hs) (bel : Below W.heap.size W W') : Ap w W' ga gf g gw gb bt N s n bs obs tail A1 c1 xs A2 c2 hs :=
  ⟨h.al.kept bel, h.len, h.bufs, h.clean, h.taken.below bel h.taken.lt, h.two.kept bel, h.same, h.rec_, on h.old h.old.size bel⟩
end

theorem fill_at (A C : List Bool) (q m : Nat) : (A ++ (List.replicate q true ++ (List.replicate (m + 1) false ++ C)))[A.length + q]? = some false := by
  rw [List.getElem?_append_right (by omega), List.getElem?_append_right (by simp)]
  simp [List.replicate_succ]
theorem fill_set (A C : List Bool) (q m : Nat) : (A ++ (List.replicate q true ++ (List.replicate (m + 1) false ++ C))).set (A.length + q) true = A ++ (List.replicate (q + 1) true ++ (List.replicate m false ++ C)) := by
  rw [List.set_append_right _ _ (by omega), List.set_append_right _ _ (by simp)]
  simp only [Nat.add_sub_cancel_left, List.length_replicate, Nat.sub_self, List.replicate_succ (n := m), List.cons_append, List.set_cons_zero]
  rw [List.replicate_succ' (n := q), List.append_assoc]
  rfl

theorem read_here (pre post : List Ob) (k l p : Int) (i : Nat) (hg : goodB k l p = true) (hi : (i : Int) < l) : readF (pre ++ (packW k l p, zeros l) :: post) (((flat pre).length : Nat) : Int) (i : Int) = (0, 0) := by
  unfold readF
  rw [look_here]
  simp only
  rw [(head_pack hg).2.2.1, if_pos (by omega)]
  simp [zeros, List.getD, List.getElem?_replicate]
  split <;> rfl

theorem head_here {obs : List Ob} {a k l p : Int} (h : wordAt obs a = some (packW k l p)) (hg : goodB k l p = true) : headF obs a = ((k, l, p), 0) := by
  obtain ⟨pre, o, post, rfl, rfl, e⟩ := wordAt_some h
  unfold headF
  rw [look_here]
  simp only
  rw [e, (head_pack hg).2.1, (head_pack hg).2.2.1, (head_pack hg).2.2.2]

theorem grown_low {U V : World} {row : Option Nat} {N : Nat} (h : U.grownBy V row) (hr : ∀ k, row = some k → N ≤ k) (hN : N ≤ U.heap.size) : Below N U V :=
  ⟨h.os, h.tape, h.output, h.size, fun k hk => h.block k (by omega) (fun e => by have := hr k e.symm; omega)⟩
theorem grown_lies {U V : World} {row : Option Nat} {b : Nat} {t : TypeId} {cs : List Value} (h : U.grownBy V row) (hl : Lies U b t cs) (hn : row ≠ some b) : Lies V b t cs := hl.of_block (h.block b hl.lt (fun e => hn e.symm))

theorem owns_read {w : World} {base n size : Nat} {t : TypeId} {A : Option Addr} {c : Nat} {xs : List Value} (h : w.ownsRow base t size (.slice A n c) n xs) (hn : 0 < n) : ∃ b, A = some ⟨b, 0, none⟩ ∧ ∀ j u, xs[j]? = some u → w.cell? ⟨b, j, none⟩ = some u := by
  rcases h.2 with ⟨_, e⟩ | ⟨g, cap, cur, e, _, h3, h4, _, _, h7⟩
  · omega
  · injection e with e1 _ _
    refine ⟨g, e1, fun j u hu => ?_⟩
    rw [cell_of_row w g j cur t (0, 0) h3]
    rw [← h7, List.getElem?_take] at hu
    split at hu
    · simpa using hu
    · cases hu

/-- Behind the two appends. -/
theorem Ap.next {w W W' : World} {ga gf g gw gb bt N s n : Nat} {bs2 : List Int} {obs obs2 : List Ob} {tail tail2 : List Int} {B1 B2 : Option Addr} {d1 d2 : Nat} {xs : List Int} {hs : List Hd} {r k l p : Int}
    (hsame : xs.length = hs.length)
    (hrec : ∀ i, i < xs.length → wordAt obs (xs.getD i 0) = some (packW (hs.getD i (0, 0, 0)).1 (hs.getD i (0, 0, 0)).2.1 (hs.getD i (0, 0, 0)).2.2) ∧ goodB (hs.getD i (0, 0, 0)).1 (hs.getD i (0, 0, 0)).2.1 (hs.getD i (0, 0, 0)).2.2 = true ∧ (hs.getD i (0, 0, 0)).1 ≠ 15)
    (T : Took obs tail bs2 obs2 tail2 r k l p) (hg : goodB k l p = true) (hk : k ≠ 15) (al : Al W ga gf g gw gb s bs2 obs2 tail2) (hlen : (flat obs2 ++ tail2).length = n) (hc : Clean obs2) (ht : Lies W bt 4 ((full obs2 tail2).map Value.bool)) (old : Below w.heap.size w W)
    (F : Low w.heap.size ga gf g gw gb bt N) (two : Two N W' B1 d1 (xs ++ [r]) B2 d2 (hs ++ [(k, l, p)])) (bl : Below N W W') :
    Ap w W' ga gf g gw gb bt N s n bs2 obs2 tail2 B1 d1 (xs ++ [r]) B2 d2 (hs ++ [(k, l, p)]) := by
  have h1 := F.l1
  have h2 := F.l2
  have h3 := F.l3
  have h4 := F.l4
  have h5 := F.l5
  have h6 := F.l6
  have h7 := F.o5
  refine ⟨⟨⟨al.st.fine, al.st.lies.of_below bl (by omega) (by omega) (by omega)⟩, al.own.below bl (by omega), al.row.below bl (by omega), al.ne, al.lo, al.hi, al.led⟩, hlen, T.bufs, hc, ht.below bl h6, two, by simp [hsame], fun i hi => ?_, old.trans (bl.mono (by omega))⟩
  by_cases hi' : i < xs.length
  · have e1 : (xs ++ [r]).getD i 0 = xs.getD i 0 := by simp [List.getD, List.getElem?_append, hi']
    have e2 : (hs ++ [(k, l, p)]).getD i (0, 0, 0) = hs.getD i (0, 0, 0) := by simp [List.getD, List.getElem?_append, hsame ▸ hi']
    rw [e1, e2]
    obtain ⟨a, b, c⟩ := hrec i hi'
    exact ⟨T.keep _ _ a (by rw [(head_pack b).2.1]; exact c), b, c⟩
  · have hi2 : i = xs.length := by simp at hi; omega
    subst hi2
    have e1 : (xs ++ [r]).getD xs.length 0 = r := by simp [List.getD]
    have e2 : (hs ++ [(k, l, p)]).getD xs.length (0, 0, 0) = (k, l, p) := by rw [hsame]; simp [List.getD]
    rw [e1, e2]
    refine ⟨?_, hg, hk⟩
    obtain ⟨pre, post, e, er⟩ := T.here
    rw [e, er]
    exact wordAt_here _ _ _
end Go.Proofs.Ytibfhpbklnpknaa
