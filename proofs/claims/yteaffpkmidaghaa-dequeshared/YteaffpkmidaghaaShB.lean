/- DequeShared: how it begins, and how calls begin. -/
import Derived.Test.YteaffpkmidaghaaPick
namespace Go.Proofs.Yteaffpkmidaghaa
open Go.RowKit Go.Maps
set_option linter.unusedVariables false
set_option linter.unusedSimpArgs false

def bx (gd g gw s : Nat) : Bx := ⟨gd, g, gw, s, s + 1, s + 1 + 1 + 1, s + 1 + 1, s + 1 + 1 + 1 + 1, s + 1 + 1 + 1 + 1 + 1⟩
theorem lies_new' (w : World) (t : TypeId) (cs : List Value) (s : Nat) (hs : w.heap.size = s) : Lies (w.alloc (.cells cs.toArray t)) s t cs := by rw [← hs]; exact Lies.new w t cs
theorem size_alloc (w : World) (o : Obj) {s : Nat} (hs : w.heap.size = s) : (w.alloc o).heap.size = s + 1 := by rw [← hs]; simp

theorem sta_start {w0 w : World} {gd g gw : Nat} (S : Sq w0 w gd g gw 40 0 0 [] 0) :
    Sta w0 ((((((w.alloc (.cells #[.pointer none, .pointer none, .pointer none, .pointer none] 38)).alloc (.cells #[.int .i64 0] 3)).alloc (.map #[] 0)).alloc (.cells #[.map (some (w.heap.size + 1 + 1))] 39)).alloc (.cells #[.int .i64 1] 3)).alloc
      (.cells #[.func (.func 16) #[] #[.pointer (some ⟨w.heap.size, 0, none⟩), .pointer (some ⟨w.heap.size + 1, 0, none⟩), .pointer (some ⟨w.heap.size + 1 + 1 + 1, 0, none⟩), .pointer (some ⟨w.heap.size + 1 + 1 + 1 + 1, 0, none⟩)]] 41)) (bx gd g gw w.heap.size) (List.replicate 4 none) 1 0 0 := by
  obtain ⟨s, hs⟩ : ∃ s, w.heap.size = s := ⟨_, rfl⟩
  rw [hs]
  have hlo := S.below.size
  have hgw : gw < w.heap.size := by obtain ⟨_, _, _, _, H, _⟩ := S; exact H.at_.words.lt
  obtain ⟨W1, hW1⟩ : ∃ W, w.alloc (.cells #[.pointer none, .pointer none, .pointer none, .pointer none] 38) = W := ⟨_, rfl⟩
  have L1 : Lies W1 s 38 [.pointer none, .pointer none, .pointer none, .pointer none] := by rw [← hW1]; exact lies_new' w 38 [_, _, _, _] s hs
  have B1 : Below w.heap.size w W1 := by rw [← hW1]; exact below_one _ _
  have s1 : W1.heap.size = s + 1 := by rw [← hW1]; exact size_alloc _ _ hs
  rw [hW1]
  obtain ⟨W2, hW2⟩ : ∃ W, W1.alloc (.cells #[.int .i64 0] 3) = W := ⟨_, rfl⟩
  have L2 : Lies W2 (s + 1) 3 [.int .i64 0] := by rw [← hW2]; exact lies_new' W1 3 [_] _ s1
  have B2 : Below W1.heap.size W1 W2 := by rw [← hW2]; exact below_one _ _
  have s2 : W2.heap.size = s + 1 + 1 := by rw [← hW2]; exact size_alloc _ _ s1
  rw [hW2]
  obtain ⟨W3, hW3⟩ : ∃ W, W2.alloc (.map #[] 0) = W := ⟨_, rfl⟩
  have M3 : W3.ownsMap Try.prog 3 (plainElem (H := Unit) Try.prog 3) (s + 1 + 1) 0 (.map []) := by rw [← hW3, ← s2]; exact World.ownsMap_made _ _ _ _
  have B3 : Below W2.heap.size W2 W3 := by rw [← hW3]; exact below_one _ _
  have s3 : W3.heap.size = s + 1 + 1 + 1 := by rw [← hW3]; exact size_alloc _ _ s2
  rw [hW3]
  obtain ⟨W4, hW4⟩ : ∃ W, W3.alloc (.cells #[.map (some (s + 1 + 1))] 39) = W := ⟨_, rfl⟩
  have L4 : Lies W4 (s + 1 + 1 + 1) 39 [.map (some (s + 1 + 1))] := by rw [← hW4]; exact lies_new' W3 39 [_] _ s3
  have B4 : Below W3.heap.size W3 W4 := by rw [← hW4]; exact below_one _ _
  have s4 : W4.heap.size = s + 1 + 1 + 1 + 1 := by rw [← hW4]; exact size_alloc _ _ s3
  rw [hW4]
  obtain ⟨W5, hW5⟩ : ∃ W, W4.alloc (.cells #[.int .i64 1] 3) = W := ⟨_, rfl⟩
  have L5 : Lies W5 (s + 1 + 1 + 1 + 1) 3 [.int .i64 1] := by rw [← hW5]; exact lies_new' W4 3 [_] _ s4
  have B5 : Below W4.heap.size W4 W5 := by rw [← hW5]; exact below_one _ _
  have s5 : W5.heap.size = s + 1 + 1 + 1 + 1 + 1 := by rw [← hW5]; exact size_alloc _ _ s4
  rw [hW5]
  obtain ⟨W6, hW6⟩ : ∃ W, W5.alloc (.cells #[.func (.func 16) #[] #[.pointer (some ⟨s, 0, none⟩), .pointer (some ⟨s + 1, 0, none⟩), .pointer (some ⟨s + 1 + 1 + 1, 0, none⟩), .pointer (some ⟨s + 1 + 1 + 1 + 1, 0, none⟩)]] 41) = W := ⟨_, rfl⟩
  have L6 : Lies W6 (s + 1 + 1 + 1 + 1 + 1) 41 [.func (.func 16) #[] #[.pointer (some ⟨s, 0, none⟩), .pointer (some ⟨s + 1, 0, none⟩), .pointer (some ⟨s + 1 + 1 + 1, 0, none⟩), .pointer (some ⟨s + 1 + 1 + 1 + 1, 0, none⟩)]] := by rw [← hW6]; exact lies_new' W5 41 [_] _ s5
  have B6 : Below W5.heap.size W5 W6 := by rw [← hW6]; exact below_one _ _
  rw [hW6]
  have S6 := (((((S.kept B1).kept B2).kept B3).kept B4).kept B5).kept B6
  have A6 : Lies W6 s 38 ((List.replicate 4 (none : Option (Nat × Cl))).map cellOf) := ((((L1.kept B2).kept B3).kept B4).kept B5).kept B6
  have hoc : ownOf (List.replicate 4 (none : Option (Nat × Cl))) = none := rfl
  have hnone : ∀ (i : Nat) (x : Option (Nat × Cl)), (List.replicate 4 (none : Option (Nat × Cl)))[i]? = some x → x = none := fun i x e => by
    rw [List.getElem?_replicate] at e
    split at e
    · injection e with e; exact e.symm
    · cases e
  refine ⟨0, 0, 0, [], 0, fun _ => 0, ?_, ?_, fun i gc cl e => (by cases hnone i _ e), Nat.le_refl _⟩
  · rw [hoc]
    have hC := S6.conc (own := 1) A6 hnone (by omega) (Or.inr rfl)
    have M4 := owns_block M3 (B4.block _ M3.lt)
    have M5 := owns_block M4 (B5.block _ M4.lt)
    have M6 := owns_block M5 (B6.block _ M5.lt)
    exact ⟨hC, rfl, (((L2.kept B3).kept B4).kept B5).kept B6, (L4.kept B5).kept B6, ⟨_, M6, Tells.empty⟩, L5.kept B6, L6, by show s + 1 ≠ gw; omega, by show s + 1 + 1 + 1 + 1 ≠ gw; omega, by show s + 1 ≠ s + 1 + 1 + 1 + 1; omega, by show _ ≤ s + 1; omega, by show _ ≤ s + 1 + 1 + 1 + 1; omega, by show _ ≤ s + 1 + 1; omega⟩
  · rw [hoc]
    exact ⟨by simp, fun y hy => by simp at hy, fun y => by simp, fun _ => rfl, fun c e => (by cases e), fun c e => (by cases e)⟩

section
variable {w0 w w' : World} {x : Bx} {cs : List (Option (Nat × Cl))} {nx : Int} {k mm kk : Nat} {cl : Cl}
theorem Sta.clen (h : Sta w0 w x cs nx k mm) : cs.length = 4 := by
  obtain ⟨t, tag, hi, row, pu, f, C, M, lv, htag⟩ := h; exact C.clen
theorem Sta.kept (h : Sta w0 w x cs nx k mm) (b : Below w.heap.size w w') : Sta w0 w' x cs nx k mm := by
  obtain ⟨t, tag, hi, row, pu, f, C, M, lv, htag⟩ := h; exact ⟨t, tag, hi, row, pu, f, C.kept b, M, lv, htag⟩
theorem Sta.more (h : Sta w0 w x cs nx k mm) {k' mm' : Nat} (h1 : k ≤ k') (h2 : mm ≤ mm') : Sta w0 w x cs nx k' mm' := by
  obtain ⟨t, tag, hi, row, pu, f, C, M, lv, htag⟩ := h; exact ⟨t, tag, hi, row, pu, f, C.more h1 h2, M, lv, by omega⟩
theorem Sta.below (h : Sta w0 w x cs nx k mm) : Below w0.heap.size w0 w := by
  obtain ⟨t, tag, hi, row, pu, f, C, M, lv, htag⟩ := h; exact C.conc.below
theorem Sta.cell (h : Sta w0 w x cs nx k mm) {o : Option (Nat × Cl)} (hc : cs[kk]? = some o) : w.cell? ⟨x.bc, kk, none⟩ = some (cellOf o) := by
  obtain ⟨t, tag, hi, row, pu, f, C, M, lv, htag⟩ := h; exact C.conc.cell hc
theorem Sta.frozen (h : Sta w0 w x cs nx k mm) (i : Nat) : w.frozen? ⟨x.bc, i, none⟩ = false := by
  obtain ⟨t, tag, hi, row, pu, f, C, M, lv, htag⟩ := h; exact C.conc.arr_.frozen i
theorem Sta.own (h : Sta w0 w x cs nx k mm) : Lies w x.gd 55 [.pointer (some ⟨x.g, 0, none⟩)] := by
  obtain ⟨t, tag, hi, row, pu, f, C, M, lv, htag⟩ := h; exact C.conc.own_
theorem Sta.bp (h : Sta w0 w x cs nx k mm) : ∃ pu, Lies w x.bp 3 [.int .i64 pu] := by
  obtain ⟨t, tag, hi, row, pu, f, C, M, lv, htag⟩ := h; exact ⟨pu, C.pu_⟩
theorem Sta.bn (h : Sta w0 w x cs nx k mm) : Lies w x.bn 3 [.int .i64 nx] := by
  obtain ⟨t, tag, hi, row, pu, f, C, M, lv, htag⟩ := h; exact C.nx_
theorem Conc.fresh {gd g gw ba : Nat} {ty : TypeId} {own n t tag hi : Nat} {row : List Int} {oc : Option Cl} (h : Conc w0 w gd g gw ba ty own n t tag hi row oc cs k) : ∀ (j gj : Nat) (clj : Cl), cs[j]? = some (some (gj, clj)) → gj ≠ w.heap.size := fun j gj clj hj => by have := (h.lies hj).lt; omega

theorem Sta.thief (h : Sta w0 w x cs nx k mm) (hk : kk < 4) (hk0 : 0 < kk) (L : Lies w' w.heap.size 58 (Cl.cells x.g ⟨(kk : Int), 27, 0, 0, 0, 0⟩)) (B : Below w.heap.size w w') :
    Sta w0 (w'.setCell ⟨x.bc, kk, none⟩ (.pointer (some ⟨w.heap.size, 0, none⟩))) x (cs.set kk (some (w.heap.size, ⟨(kk : Int), 27, 0, 0, 0, 0⟩))) nx k mm := by
  obtain ⟨t, tag, hi, row, pu, f, C, M, lv, htag⟩ := h
  refine ⟨t, tag, hi, row, pu, f, ?_, by rw [ownOf_set hk0]; exact M, live_set lv (fun _ _ e => by injection e with e; injection e with _ e; subst e; show (27 : Nat) ≠ 0; decide), htag⟩
  rw [ownOf_set hk0]
  refine (C.kept B).put (some (w.heap.size, _)) (ownOf cs) hk (fun _ s => s) (fun gc cl e => ?_)
  injection e with e; injection e with e1 e2; subst e1 e2
  refine ⟨L, C.conc.below.size, C.conc.fresh, fun _ zs s => Or.inr ⟨?_, ?_, rfl, Or.inl ⟨rfl, rfl, rfl⟩⟩⟩
  · show (0 : Int) ≤ (kk : Int); omega
  · show (kk : Int) < 64; omega
theorem sh_begin {zs : List Int} {n t tag hi : Nat} {row : List Int} (s : Sh zs n t tag hi row none) (c : Cl) (h : c = ⟨0, 25, 0, 0, c.word, 0⟩ ∨ c = ⟨0, 26, 0, 0, c.word, 0⟩) : Sh zs n t tag hi row (some c) := by
  refine ⟨s.len, s.n2, s.n', s.hin, s.thi, s.top, s.tag', s.rlen, s.row_, ?_⟩
  have := s.own
  simp only [OwnOk] at this ⊢
  rcases h with e | e <;> rw [e]
  · exact ⟨rfl, rfl, by simp, by simp, Or.inl ⟨Or.inl rfl, this, rfl⟩⟩
  · exact ⟨rfl, rfl, by simp, by simp, Or.inl ⟨Or.inr rfl, this, rfl⟩⟩
theorem Sta.pop (h : Sta w0 w x cs nx k mm) (ho : cs[0]? = some none) (L : Lies w' w.heap.size 58 (Cl.cells x.g ⟨0, 26, 0, 0, 0, 0⟩)) (B : Below w.heap.size w w') :
    Sta w0 (w'.setCell ⟨x.bc, 0, none⟩ (.pointer (some ⟨w.heap.size, 0, none⟩))) x (cs.set 0 (some (w.heap.size, ⟨0, 26, 0, 0, 0, 0⟩))) nx k mm := by
  obtain ⟨t, tag, hi, row, pu, f, C, M, lv, htag⟩ := h
  have hoc := ownOf_none ho
  have hoc' : ownOf (cs.set 0 (some (w.heap.size, (⟨0, 26, 0, 0, 0, 0⟩ : Cl)))) = some ⟨0, 26, 0, 0, 0, 0⟩ := ownOf_some (getElem_set C.clen (by omega) _)
  rw [hoc] at C M
  refine ⟨t, tag, hi, row, pu, f, ?_, ?_, live_set lv (fun _ _ e => by injection e with e; injection e with _ e; subst e; show (26 : Nat) ≠ 0; decide), htag⟩
  · rw [hoc']
    refine (C.kept B).put (i := 0) (some (w.heap.size, _)) _ (by omega) (fun _ s => sh_begin s _ (Or.inr rfl)) (fun gc cl e => ?_)
    injection e with e; injection e with e1 e2; subst e1 e2
    exact ⟨L, C.conc.below.size, C.conc.fresh, fun h => by omega⟩
  · rw [hoc']
    exact ⟨M.nodup, M.rng, M.f_, fun e => (by cases e), fun c e hp => by injection e with e; subst e; simp [Pushes] at hp, fun c e _ => M.none_ rfl⟩
theorem Sta.push (h : Sta w0 w x cs nx k mm) (ho : cs[0]? = some none) (hnx : 1 ≤ nx) {w1 : World} (hw1 : w.setCell ⟨x.bp, 0, none⟩ (.int .i64 nx) = w1) (L : Lies w' w1.heap.size 58 (Cl.cells x.g ⟨0, 25, 0, 0, nx, 0⟩)) (B : Below w1.heap.size w1 w') :
    Sta w0 ((w'.setCell ⟨x.bc, 0, none⟩ (.pointer (some ⟨w1.heap.size, 0, none⟩))).setCell ⟨x.bn, 0, none⟩ (.int .i64 (nx + 1))) x (cs.set 0 (some (w1.heap.size, ⟨0, 25, 0, 0, nx, 0⟩))) (nx + 1) k mm := by
  obtain ⟨t, tag, hi, row, pu, f, C, M, lv, htag⟩ := h
  have hoc := ownOf_none ho
  have hoc' : ownOf (cs.set 0 (some (w1.heap.size, (⟨0, 25, 0, 0, nx, 0⟩ : Cl)))) = some ⟨0, 25, 0, 0, nx, 0⟩ := ownOf_some (getElem_set C.clen (by omega) _)
  rw [hoc] at C M
  have C1 : Core w0 w1 x cs none row t tag hi nx nx f k mm := hw1 ▸ C.setp nx
  refine ⟨t, tag, hi, row, nx, f, ?_, ?_, live_set lv (fun _ _ e => by injection e with e; injection e with _ e; subst e; show (25 : Nat) ≠ 0; decide), htag⟩
  · rw [hoc']
    refine Core.setn ((C1.kept B).put (i := 0) (some (w1.heap.size, _)) _ (by omega) (fun _ s => sh_begin s _ (Or.inl rfl)) (fun gc cl e => ?_)) (nx + 1)
    injection e with e; injection e with e1 e2; subst e1 e2
    exact ⟨L, C1.conc.below.size, C1.conc.fresh, fun h => by omega⟩
  · rw [hoc']
    refine ⟨M.nodup, fun y hy => ?_, M.f_, fun e => (by cases e), fun c e _ => ?_, fun c e hp => ?_⟩
    · have := M.rng y hy; omega
    · injection e with e; subst e
      exact ⟨rfl, by omega, by omega, fun h => by have := M.rng nx h; omega⟩
    · injection e with e; subst e; simp [Pushes] at hp
end
end Go.Proofs.Yteaffpkmidaghaa
