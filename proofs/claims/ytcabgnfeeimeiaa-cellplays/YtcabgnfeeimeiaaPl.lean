/- What CellPlays keeps: the cells of the program beside its own words and its own touches. -/
import Derived.Test.YtcabgnfeeimeiaaNear
namespace Go.Proofs.Ytcabgnfeeimeiaa
open Go.RowKit
set_option linter.unusedVariables false
set_option linter.unusedSimpArgs false

structure Pl (wr w : World) (g gw gv s j : Nat) (zs : List Int) (A : Option Addr) (c : Nat) (ts : List Tc) (L : Option Addr) (lc : Nat) : Prop where
  at_ : At wr w.heap.size g gw zs A c ts
  own : Lies wr gv 3 (zs.map (Value.int .i64))
  log : wr.ownsRow w.heap.size 39 5 (.slice L ts.length lc) ts.length (cellsT ts)
  apart : ∀ k, blk L = some k → blk A ≠ some k
  len : zs.length = s
  few : ts.length ≤ j
  old : Below w.heap.size w wr
  ne : gv ≠ gw
  low : w.heap.size ≤ gv

theorem row_of {w : World} {base n : Nat} {A : Option Addr} {c : Nat} {xs : List Value} (h : w.ownsRow base 39 5 (.slice A n c) n xs) {k : Nat} (hk : blk A = some k) : base ≤ k ∧ k < w.heap.size ∧ ∃ cs, Lies w k 39 cs := by
  have hl := h.lt k (by rw [own_blk]; exact hk)
  obtain ⟨_, ⟨e, _⟩ | ⟨q, cap, cur, e, _, hq, _⟩⟩ := h
  · injection e with e; subst e; cases hk
  · injection e with e; subst e
    obtain rfl : q = k := by simpa [blk] using hk
    exact ⟨hl.1, hl.2, cur.toList, hq⟩
theorem row_not {w : World} {base n : Nat} {A : Option Addr} {c : Nat} {xs : List Value} (h : w.ownsRow base 39 5 (.slice A n c) n xs) {b : Nat} {t : TypeId} {cs : List Value} (hl : Lies w b t cs) (ht : t ≠ 39) : ∀ k, blk A = some k → k ≠ b := fun k hk => by
  obtain ⟨_, _, cs', h'⟩ := row_of h hk
  exact (hl.apart h' ht).symm
theorem row_keep {w w' : World} {base n : Nat} {A : Option Addr} {c : Nat} {xs : List Value} (h : w.ownsRow base 39 5 (.slice A n c) n xs) (hb : ∀ k, blk A = some k → w'.heap[k]? = w.heap[k]?) : w'.ownsRow base 39 5 (.slice A n c) n xs :=
  owns_of_block h fun k hk => hb k (by rw [own_blk] at hk; exact hk)

section
variable {w wr w' : World} {g gw gv s j : Nat} {zs : List Int} {A : Option Addr} {c : Nat} {ts : List Tc} {L : Option Addr} {lc : Nat}

theorem Pl.kept (h : Pl wr w g gw gv s j zs A c ts L lc) (hb : Below wr.heap.size wr w') : Pl w' w g gw gv s j zs A c ts L lc :=
  ⟨h.at_.kept hb, h.own.kept hb, row_keep h.log fun k hk => hb.block k (row_of h.log hk).2.1, h.apart, h.len, h.few, on h.old h.old.size hb, h.ne, h.low⟩
theorem Pl.more (h : Pl wr w g gw gv s j zs A c ts L lc) : Pl wr w g gw gv s (j + 1) zs A c ts L lc :=
  ⟨h.at_, h.own, h.log, h.apart, h.len, by have := h.few; omega, h.old, h.ne, h.low⟩
theorem Pl.form (h : Pl wr w g gw gv s j zs A c ts L lc) : Plain L := by
  obtain ⟨_, ⟨e, _⟩ | ⟨q, cap, cur, e, _⟩⟩ := h.log
  · injection e with e; exact Or.inl e
  · injection e with e; exact Or.inr ⟨q, e⟩
theorem Pl.cleared (h : Pl wr w g gw gv s j zs A c ts L lc) (ha : At w' w.heap.size g gw zs none 0 []) (he : Else g gw none wr w') : Pl w' w g gw gv s (j + 1) zs none 0 [] none 0 :=
  ⟨ha, he.lies h.own (h.own.apart h.at_.own (by decide)) h.ne (by simp), World.ownsRow_nil _ _ _ _, (fun k hk => by cases hk), h.len, (by simp), h.old.trans (he.below h.at_.old h.at_.lo h.at_.lo' (fun k hk => by cases hk)), h.ne, h.low⟩

/-- A cell of a block of its own is set. -/
theorem Pl.far (h : Pl wr w g gw gv s j zs A c ts L lc) {q : Nat} (h1 : q ≠ g) (h2 : q ≠ gw) (h3 : some q ≠ blk A) (h4 : some q ≠ blk L) (h5 : q ≠ gv) (h6 : w.heap.size ≤ q) (i : Nat) (u : Value) : Pl (wr.setCell ⟨q, i, none⟩ u) w g gw gv s j zs A c ts L lc :=
  ⟨⟨h.at_.own.far (p := ⟨q, i, none⟩) h1.symm u, h.at_.words.far (p := ⟨q, i, none⟩) h2.symm u, row_keep h.at_.log fun k hk => Below.heap_setCell wr _ _ k (fun e => h3 (by rw [hk, e])), h.at_.some_, h.at_.most, h.at_.lo, h.at_.lo'⟩,
   h.own.far (p := ⟨q, i, none⟩) h5.symm u, row_keep h.log fun k hk => Below.heap_setCell wr _ _ k (fun e => h4 (by rw [hk, e])), h.apart, h.len, h.few, h.old.setCell (p := ⟨q, i, none⟩) h6 u, h.ne, h.low⟩

/-- What stands behind a call, ahead of the law's own words and touches. -/
structure Mid (W w : World) (g gw gv s p : Nat) (zs : List Int) (is : Int) (A : Option Addr) (c : Nat) (ts : List Tc) (t : Tc) (L : Option Addr) (lc : Nat) : Prop where
  at_ : At W w.heap.size g gw (zs.set p is) A c (ts ++ [t])
  own : Lies W gv 3 (zs.map (Value.int .i64))
  log : W.ownsRow w.heap.size 39 5 (.slice L ts.length lc) ts.length (cellsT ts)
  apart : ∀ k, blk L = some k → blk A ≠ some k
  len : zs.length = s
  old : Below w.heap.size w W
  ne : gv ≠ gw
  low : w.heap.size ≤ gv

theorem Pl.did (h : Pl wr w g gw gv s j zs A c ts L lc) {p : Nat} {is : Int} {t : Tc} (d : Did wr w' w.heap.size g gw A (zs.set p is) (ts ++ [t])) :
    ∃ A' c', Mid w' w g gw gv s p zs is A' c' ts t L lc := by
  obtain ⟨A', c', h1, h2, h3⟩ := d
  have hL : ∀ k, blk L = some k → w'.heap[k]? = wr.heap[k]? := fun k hk => by
    obtain ⟨_, hk2, cs, hk3⟩ := row_of h.log hk
    exact h2.block k hk2 (hk3.apart h.at_.own (by decide)) (hk3.apart h.at_.words (by decide)) (fun e => h.apart k hk e.symm)
  refine ⟨A', c', h1, h.at_.else_lies h2 h.own (by decide) (by decide) h.ne, row_keep h.log hL, fun k hk => ?_, h.len, h.old.trans (h.at_.below h2), h.ne, h.low⟩
  rcases h3 with e | ⟨q, e, hq⟩
  · rw [e]; exact h.apart k hk
  · rw [e]
    intro e2
    injection e2 with e2
    have := (row_of h.log hk).2.1
    omega

/-- The law's own word is set, a touch laid, and written down behind the others. -/
theorem Mid.put {W : World} {p : Nat} {is : Int} {t : Tc} (h : Mid W w g gw gv s p zs is A c ts t L lc) :
    (W.setCell ⟨gv, p, none⟩ (.int .i64 is)).ownsRow w.heap.size 39 5 (.slice L ts.length lc) ts.length (cellsT ts) :=
  row_keep h.log fun k hk => Below.heap_setCell W _ _ k (row_not h.log h.own (by decide) k hk)

theorem Mid.done {W W3 W4 : World} {p g' cap : Nat} {is : Int} {t : Tc} (h : Mid W w g gw gv s p zs is A c ts t L lc) (hb : Below (W.setCell ⟨gv, p, none⟩ (.int .i64 is)).heap.size (W.setCell ⟨gv, p, none⟩ (.int .i64 is)) W3)
    (O : W4.ownsRow w.heap.size 39 5 (.slice (some ⟨g', 0, none⟩) (ts.length + 1) cap) (ts.length + 1) (cellsT (ts ++ [t]))) (G : W3.grownBy W4 (blk L)) (M : blk L = some g' ∨ g' = W3.heap.size) (hj : ts.length ≤ j) :
    Pl W4 w g gw gv s (j + 1) (zs.set p is) A c (ts ++ [t]) (some ⟨g', 0, none⟩) cap := by
  have a2 := (h.at_.far h.own h.ne p (.int .i64 is)).kept hb
  have l2 := ((h.own.set p (.int .i64 is)).kept hb)
  rw [set_map] at l2
  have o3 := row_keep h.put fun k hk => hb.block k (row_of h.put hk).2.1
  have n1 : some g ≠ blk L := fun e => row_not o3 a2.own (by decide) g e.symm rfl
  have n2 : some gw ≠ blk L := fun e => row_not o3 a2.words (by decide) gw e.symm rfl
  have n3 : some gv ≠ blk L := fun e => row_not o3 l2 (by decide) gv e.symm rfl
  have sz : W.heap.size ≤ W3.heap.size := by have := hb.size; simpa using this
  have hold : Below w.heap.size w W3 := (h.old.setCell (p := ⟨gv, p, none⟩) h.low _).trans (hb.mono (by have := h.old.size; simpa using this))
  refine ⟨⟨a2.own.of_block (G.block g a2.own.lt n1), a2.words.of_block (G.block gw a2.words.lt n2), ?_, a2.some_, a2.most, a2.lo, a2.lo'⟩, l2.of_block (G.block gv l2.lt n3), ?_, ?_, by simpa using h.len, by simp; omega, ?_, h.ne, h.low⟩
  · exact row_keep a2.log fun k hk => G.block k (row_of a2.log hk).2.1 (fun e => h.apart k e.symm hk)
  · simpa using O
  · intro k hk
    have hk' : g' = k := by simpa [blk] using hk
    subst hk'
    rcases M with e | e
    · exact h.apart _ e
    · intro e2
      have := (row_of a2.log e2).2.1
      omega
  · exact ⟨G.os.trans hold.os, G.tape.trans hold.tape, G.output.trans hold.output, Nat.le_trans hold.size G.size, fun k hk => (G.block k (by have := hold.size; omega) (fun e => by have := (row_of o3 e.symm).1; omega)).trans (hold.block k hk)⟩
end

/-- append of one touch, in a plain region. -/
theorem wpList_touch {ops : Array Oper} {rest : List Oper} {o : Oper} {a : Act} {W : World} {Q : Exit → Act → World → Prop} (hgd : o.guard = none) (s x : Operand)
    (ho : o.op = .call { callee := .builtin .append, args := #[s, x], argTypes := #[30, 30] })
    (base : Nat) (A : Option Addr) (c : Nat) (ts : List Tc) (n : Nat) (hnn : ts.length = n) (hs : a.eval s = .slice A n c) (hown : W.ownsRow base 39 5 (.slice A ts.length c) ts.length (cellsT ts))
    (ad : Addr) (t : Tc) (hx : a.eval x = .slice (some ad) 1 1) (hnews : ∀ j u, t.cells[j]? = some u → W.cell? (ad.add j) = some u) (hn : ts.length ≤ 1000) (hbase : base ≤ W.heap.size)
    (h : ∀ g cap w', w'.ownsRow base 39 5 (.slice (some ⟨g, 0, none⟩) (ts.length + 1) cap) (ts.length + 1) (cellsT (ts ++ [t])) → W.grownBy w' (blk A) → (blk A = some g ∨ g = W.heap.size) → wpList Try.prog ops Q rest (a.put o.dst (.slice (some ⟨g, 0, none⟩) (n + 1) cap)) w') :
    wpList Try.prog ops Q (o :: rest) a W := by
  subst hnn
  obtain ⟨i, z, hi, hz, hsz, hby, hzc⟩ := info_39
  refine wpList_append_lies W hgd s x 30 ho base 39 i z 5 40 Try.underlying30 hi hz hsz hby hzc (by decide) (.slice A ts.length c) ts.length (cellsT ts) hs hown ad 1 1 t.cells hx rfl hnews ?_ (by decide) (by unfold maxLen; omega) (by omega) hbase _ rfl ?_
  · intro u hu
    simp [Tc.cells] at hu
    rcases hu with rfl | rfl | rfl | rfl | rfl <;> rfl
  · intro g cap w' h1 h2 h3 h4
    rw [own_blk] at h2 h3
    rw [← cellsT_add] at h1
    exact h g cap w' h1 h2 h3

theorem cellsT_at : ∀ (ts : List Tc) (k m : Nat), m < 5 → (cellsT ts)[k * 5 + m]? = (ts[k]?).bind fun t => t.cells[m]?
  | [], k, m, _ => by simp [cellsT]
  | t :: l, 0, m, hm => by
    simp only [cellsT, List.flatMap_cons]
    rw [List.getElem?_append_left (by simp [Tc.cells]; omega)]
    simp
  | t :: l, k + 1, m, hm => by
    have := cellsT_at l k m hm
    simp only [cellsT, List.flatMap_cons] at this ⊢
    rw [List.getElem?_append_right (by simp [Tc.cells]; omega)]
    rw [show (k + 1) * 5 + m - t.cells.length = k * 5 + m by simp [Tc.cells]; omega]
    simpa using this
end Go.Proofs.Ytcabgnfeeimeiaa
