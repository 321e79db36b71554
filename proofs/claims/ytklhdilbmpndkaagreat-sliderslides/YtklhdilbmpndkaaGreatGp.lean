/- Cells of the program in memory: the words that tell where they lie, and what stays as it is. What 'note' does: a touch is written down behind the others. What Load, Store, Swap and Add do: the answer, the words and the touches behind them. Load, Store, Swap and Add: the answer, the words and the touches behind them. New, Len, Clear and Words. -/
import Derived.Test.YtklhdilbmpndkaaGreatGi
import Derived.WalkKit
import Derived.WalkSpells
import Derived.WalkLawsBesides
import Derived.Laws.MakeOwn
import Derived.Laws.CopyOwn
import Derived.Maps.AppendAt
import Derived.Deep.QuietTactic
import Derived.BigQuiet
import Derived.Lib.Hide
import Derived.Deep.AppendLies
import Derived.Deep.RegionLaw
namespace Go.Proofs.YtklhdilbmpndkaaGreat.Ce
set_option maxRecDepth 20000
open Go.RowKit
set_option linter.unusedVariables false

/-- One step more, behind which nothing that was there has turned. -/
theorem on {B : Nat} {a b c : World} (h : Below B a b) (hB : B ≤ b.heap.size) (k : Below b.heap.size b c) : Below B a c := h.trans (k.mono hB)
theorem ret_bool {a b : Bool} (h : a = b) : Ending.returned (.bool a) = .returned (.bool b) := by rw [h]
theorem below_one (w : World) (X : Obj) : Below w.heap.size w (w.alloc X) := (Below.refl _ _).alloc (Nat.le_refl _) _

/-- A touch, as its five numbers. -/
structure Tc where
  who : Int
  place : Int
  what : Int
  was : Int
  is : Int
def Tc.cells (t : Tc) : List Value := [.int .i64 t.who, .int .i64 t.place, .int .i64 t.what, .int .i64 t.was, .int .i64 t.is]
def cellsT (ts : List Tc) : List Value := ts.flatMap Tc.cells
theorem cellsT_nil : cellsT [] = [] := rfl
theorem cellsT_add (ts : List Tc) (t : Tc) : cellsT (ts ++ [t]) = cellsT ts ++ t.cells := by simp [cellsT]
theorem cellsT_len : ∀ ts : List Tc, (cellsT ts).length = ts.length * 5
  | [] => rfl
  | t :: l => by
    have := cellsT_len l
    simp only [cellsT, List.flatMap_cons, List.length_append, List.length_cons, Tc.cells, List.length_nil] at this ⊢
    omega

/-- Cells: their own three words, the words, the touches in a row of their own. -/
structure At (w : World) (base g gw : Nat) (zs : List Int) (A : Option Addr) (c : Nat) (ts : List Tc) : Prop where
  own : Lies w g 123 [.slice (some ⟨gw, 0, none⟩) zs.length zs.length, .slice A ts.length c, .int .i64 0]
  words : Lies w gw 3 (zs.map (Value.int .i64))
  log : w.ownsRow base 157 5 (.slice A ts.length c) ts.length (cellsT ts)
  some_ : 1 ≤ zs.length
  most : zs.length ≤ 65536
  lo : base ≤ g
  lo' : base ≤ gw

/-- All but two blocks, and a row, are as they were. -/
structure Else (g gw : Nat) (row : Option Nat) (w w' : World) : Prop where
  os : w'.os = w.os
  tape : w'.tape = w.tape
  output : w'.output = w.output
  size : w.heap.size ≤ w'.heap.size
  block : ∀ k, k < w.heap.size → k ≠ g → k ≠ gw → some k ≠ row → w'.heap[k]? = w.heap[k]?

def blk (A : Option Addr) : Option Nat := A.map Addr.block
theorem own_blk (A : Option Addr) (n c : Nat) : (Value.slice A n c).ownBlock = blk A := by cases A <;> rfl

theorem Else.refl (g gw : Nat) (row : Option Nat) (w : World) : Else g gw row w w := ⟨rfl, rfl, rfl, Nat.le_refl _, fun _ _ _ _ _ => rfl⟩
theorem Else.of_below {g gw : Nat} {row : Option Nat} {w w' : World} (h : Below w.heap.size w w') : Else g gw row w w' := ⟨h.os, h.tape, h.output, h.size, fun i hi _ _ _ => h.block i hi⟩
theorem Else.below {g gw B : Nat} {row : Option Nat} {w w' : World} (h : Else g gw row w w') (hB : B ≤ w.heap.size) (h1 : B ≤ g) (h2 : B ≤ gw) (h3 : ∀ k, row = some k → B ≤ k) : Below B w w' :=
  ⟨h.os, h.tape, h.output, h.size, fun k hk => h.block k (by omega) (by omega) (by omega) (fun e => by have := h3 k e.symm; omega)⟩
theorem Else.lies {g gw b : Nat} {row : Option Nat} {w w' : World} {t : TypeId} {cs : List Value} (h : Else g gw row w w') (hl : Lies w b t cs) (h1 : b ≠ g) (h2 : b ≠ gw) (h3 : some b ≠ row) : Lies w' b t cs :=
  hl.of_block (h.block b hl.lt h1 h2 h3)
/-- The row may have moved, to a place that is new. -/
def Moved (w : World) (r r' : Option Nat) : Prop := r' = r ∨ ∃ k, r' = some k ∧ w.heap.size ≤ k
theorem Else.trans {g gw : Nat} {r r' : Option Nat} {a b c : World} (h : Else g gw r a b) (k : Else g gw r' b c) (m : Moved a r r') : Else g gw r a c :=
  ⟨k.os.trans h.os, k.tape.trans h.tape, k.output.trans h.output, Nat.le_trans h.size k.size, fun i hi h1 h2 h3 =>
    (k.block i (Nat.lt_of_lt_of_le hi h.size) h1 h2 (by
      rcases m with rfl | ⟨q, rfl, hq⟩
      · exact h3
      · intro e; injection e with e; omega)).trans (h.block i hi h1 h2 h3)⟩
theorem Moved.trans {a b : World} {r r' r'' : Option Nat} (h : Moved a r r') (k : Moved b r' r'') (hs : a.heap.size ≤ b.heap.size) : Moved a r r'' := by
  rcases k with rfl | ⟨q, rfl, hq⟩
  · exact h
  · exact Or.inr ⟨q, rfl, by omega⟩

section
variable {w w' : World} {base g gw : Nat} {zs : List Int} {A : Option Addr} {c : Nat} {ts : List Tc}
theorem At.gne (h : At w base g gw zs A c ts) : g ≠ gw := h.own.apart h.words (by decide)
theorem At.row_of (h : At w base g gw zs A c ts) : ∀ k, blk A = some k → base ≤ k ∧ k < w.heap.size ∧ k ≠ g ∧ k ≠ gw := fun k hk => by
  have hl := h.log.lt k (by rw [own_blk]; exact hk)
  obtain ⟨_, ⟨e, _⟩ | ⟨q, cap, cur, e, _, hq, _⟩⟩ := h.log
  · injection e with e; subst e; cases hk
  · injection e with e; subst e
    obtain rfl : q = k := by simpa [blk] using hk
    have : Lies w q 157 cur.toList := hq
    exact ⟨hl.1, hl.2, this.apart h.own (by decide), this.apart h.words (by decide)⟩
theorem owns_of_block {w w' : World} {base n size : Nat} {e : TypeId} {v : Value} {xs : List Value} (h : w.ownsRow base e size v n xs) (hb : ∀ k, v.ownBlock = some k → w'.heap[k]? = w.heap[k]?) : w'.ownsRow base e size v n xs := by
  obtain ⟨h1, h2 | ⟨q, cap, cur, rfl, hq0, hq, hq'⟩⟩ := h
  · exact ⟨h1, Or.inl h2⟩
  · exact ⟨h1, Or.inr ⟨q, cap, cur, rfl, hq0, (hb q rfl).trans hq, hq'⟩⟩
theorem At.kept (h : At w base g gw zs A c ts) (hb : Below w.heap.size w w') : At w' base g gw zs A c ts :=
  ⟨h.own.kept hb, h.words.kept hb, owns_of_block h.log fun k hk => hb.block k (h.row_of k (by rw [own_blk] at hk; exact hk)).2.1, h.some_, h.most, h.lo, h.lo'⟩
theorem At.old (h : At w base g gw zs A c ts) : base ≤ w.heap.size := by have := h.own.lt; have := h.lo; omega
theorem At.below (h : At w base g gw zs A c ts) (he : Else g gw (blk A) w w') : Below base w w' :=
  he.below h.old h.lo h.lo' fun k hk => (h.row_of k hk).1
end
end Go.Proofs.YtklhdilbmpndkaaGreat.Ce

namespace Go.Proofs.YtklhdilbmpndkaaGreat.Ce
set_option maxRecDepth 20000
open Go.RowKit
set_option linter.unusedVariables false
set_option linter.unusedSimpArgs false

theorem info_39 : ∃ i z, Tryz.prog.info? 157 = some i ∧ i.zero = some z ∧ i.size = 5 ∧ i.bytes = 40 ∧ z.cells.size = 5 := ⟨_, _, rfl, rfl, rfl, rfl, rfl⟩

/-- What is told of cells behind a step. -/
def Did (w w' : World) (base g gw : Nat) (A : Option Addr) (zs : List Int) (ts : List Tc) : Prop :=
  ∃ A' c', At w' base g gw zs A' c' ts ∧ Else g gw (blk A) w w' ∧ Moved w (blk A) (blk A')

/-- append of one touch onto touches that the call owns. -/
theorem step_touch {ops : Array Oper} {o : Oper} {a : Act} {W : World} {K : Act → World → Prop} {Q : Exit → Act → World → Prop} {E : Prop} (hgd : o.guard = none) (s x : Operand)
    (ho : o.op = .call { callee := .builtin .append, args := #[s, x], argTypes := #[121, 121] })
    (base : Nat) (A : Option Addr) (c : Nat) (ts : List Tc) (hs : a.eval s = .slice A ts.length c) (hown : W.ownsRow base 157 5 (.slice A ts.length c) ts.length (cellsT ts))
    (ad : Addr) (t : Tc) (hx : a.eval x = .slice (some ad) 1 1) (hnews : ∀ j u, t.cells[j]? = some u → W.cell? (ad.add j) = some u) (hn : ts.length ≤ 30000) (hbase : base ≤ W.heap.size)
    (h : ∀ g cap w', w'.ownsRow base 157 5 (.slice (some ⟨g, 0, none⟩) (ts.length + 1) cap) (ts.length + 1) (cellsT (ts ++ [t])) → W.grownBy w' (blk A) → (blk A = some g ∨ g = W.heap.size) → g < w'.heap.size → K (a.put o.dst (.slice (some ⟨g, 0, none⟩) (ts.length + 1) cap)) w') :
    if Region.wanted o (yielded ops a.tmps) = true then Oper.wp Tryz.prog o a W K Q else E := by
  obtain ⟨i, z, hi, hz, hsz, hby, hzc⟩ := info_39
  refine step_append_lies W hgd s x 121 ho base 157 i z 5 40 Tryz.underlying121 hi hz hsz hby hzc (by decide) (.slice A ts.length c) ts.length (cellsT ts) hs hown ad 1 1 t.cells hx rfl hnews ?_ (by decide) (by unfold maxLen; omega) (by omega) hbase _ rfl ?_
  · intro u hu
    simp [Tc.cells] at hu
    rcases hu with rfl | rfl | rfl | rfl | rfl <;> rfl
  · intro g cap w' h1 h2 h3 h4
    rw [own_blk] at h2 h3
    rw [← cellsT_add] at h1
    exact h g cap w' h1 h2 h3 h4

theorem note_end {w w1 W w2 : World} {base g gw g' cap : Nat} {zs : List Int} {A : Option Addr} {c : Nat} {ts : List Tc} {t : Tc} (H : At w1 base g gw zs A c ts) (hb : Below w.heap.size w w1) (hY : Below w1.heap.size w1 W)
    (O2 : w2.ownsRow base 157 5 (.slice (some ⟨g', 0, none⟩) (ts.length + 1) cap) (ts.length + 1) (cellsT (ts ++ [t]))) (G2 : W.grownBy w2 (blk A)) (M2 : blk A = some g' ∨ g' = W.heap.size) :
    Did w (w2.setCell ⟨g, 1, none⟩ (.slice (some ⟨g', 0, none⟩) (ts.length + 1) cap)) base g gw A zs (ts ++ [t]) := by
  have HW := H.kept hY
  have hg : some g ≠ blk A := fun e => (H.row_of g e.symm).2.2.1 rfl
  have hgw : some gw ≠ blk A := fun e => (H.row_of gw e.symm).2.2.2 rfl
  have hne := H.gne
  have s1 := hb.size
  have s2 := hY.size
  have s3 := G2.size
  have hg' : g' ≠ g := by
    rcases M2 with e | e
    · exact (H.row_of g' e).2.2.1
    · have := HW.own.lt; omega
  have L0 := (HW.own.of_block (G2.block g HW.own.lt hg)).set 1 (.slice (some ⟨g', 0, none⟩) (ts.length + 1) cap)
  have L1 := (HW.words.of_block (G2.block gw HW.words.lt hgw)).far (p := ⟨g, 1, none⟩) hne.symm (.slice (some ⟨g', 0, none⟩) (ts.length + 1) cap)
  have L2 := owns_of_block (w' := w2.setCell ⟨g, 1, none⟩ (.slice (some ⟨g', 0, none⟩) (ts.length + 1) cap)) O2 (fun k hk => Below.heap_setCell w2 _ _ k (by
    injection hk with hk; subst hk; exact hg'))
  refine ⟨some ⟨g', 0, none⟩, cap, ⟨?_, L1, ?_, H.some_, H.most, H.lo, H.lo'⟩, ⟨?_, ?_, ?_, ?_, ?_⟩, ?_⟩
  · simpa using L0
  · simpa using L2
  · exact (G2.os.trans hY.os).trans hb.os
  · exact (G2.tape.trans hY.tape).trans hb.tape
  · exact (G2.output.trans hY.output).trans hb.output
  · have : (w2.setCell ⟨g, 1, none⟩ (.slice (some ⟨g', 0, none⟩) (ts.length + 1) cap)).heap.size = w2.heap.size := by simp
    omega
  · intro k hk h1 h2 h3
    rw [Below.heap_setCell w2 _ _ k h1, G2.block k (by omega) h3, hY.block k (by omega), hb.block k hk]
  · rcases M2 with e | e
    · exact Or.inl (by rw [e]; rfl)
    · exact Or.inr ⟨g', rfl, by omega⟩

set_option maxRecDepth 100000 in
set_option maxHeartbeats 1000000 in
theorem note_any {w : World} {base g gw : Nat} {zs : List Int} {A : Option Addr} {c : Nat} {ts : List Tc} (h : At w base g gw zs A c ts) (hn : ts.length ≤ 30000) (who place what was is : Int) :
    Calls Tryz.prog 104 #[.pointer (some ⟨g, 0, none⟩), .agg #[.int .i64 who, .int .i64 place, .int .i64 what, .int .i64 was, .int .i64 is]] w fun e w' => e = .returned (.tuple #[]) ∧ Did w w' base g gw A zs (ts ++ [⟨who, place, what, was, is⟩]) := by
  have hc1 : w.cell? ⟨g, 1, none⟩ = some (.slice A ts.length c) := h.own.cell 1
  have hf1 : w.frozen? ⟨g, 1, none⟩ = false := h.own.frozen 1
  have hlt := h.own.lt
  have hl : (ts.length : Int) < 100000 := by omega
  have H := Lib.hid h
  clear h
  go_enter Tryz.func104, Tryz.ntmps104
  go_wp2_with fail
  obtain ⟨X, hX⟩ : ∃ X : Obj, X = .cells #[.int .i64 who, .int .i64 place, .int .i64 what, .int .i64 was, .int .i64 is] 157 := ⟨_, rfl⟩
  have LX : Lies (w.alloc X) w.heap.size 157 [.int .i64 who, .int .i64 place, .int .i64 what, .int .i64 was, .int .i64 is] := by rw [hX]; exact Lies.new w 157 [_, _, _, _, _]
  have H1 := Lib.hid (H.out.kept (below_one w X))
  have B1 := Lib.hid (below_one w X)
  rw [← hX]
  have HS : Hid ((w.alloc X).heap.size = w.heap.size + 1) := Lib.hid (by simp)
  have hb1 : base ≤ (w.alloc X).heap.size := H1.out.old
  have hc1 : (w.alloc X).cell? ⟨g, 1, none⟩ = some (.slice A ts.length c) := H1.out.own.cell 1
  have hf1 : (w.alloc X).frozen? ⟨g, 1, none⟩ = false := H1.out.own.frozen 1
  have l0 : (w.alloc X).cell? ⟨w.heap.size, 0, none⟩ = some (.int .i64 who) := LX.cell 0
  have l1 : (w.alloc X).cell? ⟨w.heap.size, 1, none⟩ = some (.int .i64 place) := LX.cell 1
  have l2 : (w.alloc X).cell? ⟨w.heap.size, 2, none⟩ = some (.int .i64 what) := LX.cell 2
  have l3 : (w.alloc X).cell? ⟨w.heap.size, 3, none⟩ = some (.int .i64 was) := LX.cell 3
  have l4 : (w.alloc X).cell? ⟨w.heap.size, 4, none⟩ = some (.int .i64 is) := LX.cell 4
  have hlt1 := H1.out.own.lt
  have hrow := Lib.hid H1.out.row_of
  clear LX hX
  generalize w.alloc X = w1 at *
  obtain ⟨t, ht⟩ : ∃ t : Tc, t = ⟨who, place, what, was, is⟩ := ⟨_, rfl⟩
  have HO : Hid (∀ Y, (w1.alloc Y).drew.ownsRow base 157 5 (.slice A ts.length c) ts.length (cellsT ts)) := Lib.hid (fun Y => (H1.out.kept (below_one w1 Y)).log)
  have HN : Hid (∀ j u, t.cells[j]? = some u → (w1.alloc (.cells #[.int .i64 who, .int .i64 place, .int .i64 what, .int .i64 was, .int .i64 is] 157)).drew.cell? ((⟨w1.heap.size, 0, none⟩ : Addr).add j) = some u) := Lib.hid (by rw [ht]; exact World.news_of_block (w := (w1.alloc (.cells #[.int .i64 who, .int .i64 place, .int .i64 what, .int .i64 was, .int .i64 is] 157)).drew) (Lies.new w1 157 [_, _, _, _, _]))
  have hfY : Hid ((w1.alloc (.cells #[.int .i64 who, .int .i64 place, .int .i64 what, .int .i64 was, .int .i64 is] 157)).drew.frozen? ⟨g, 1, none⟩ = false) := Lib.hid ((H1.out.kept (below_one w1 _)).own.frozen 1)
  have HZ : Hid (∀ Y, base ≤ (w1.alloc Y).drew.heap.size) := Lib.hid (fun Y => by show _ ≤ (w1.heap.push _).size; simp; omega)
  have HLN : Hid (∀ Y, Below w1.heap.size w1 (w1.alloc Y).drew) := Lib.hid (fun Y => (below_one w1 Y).drew)
  have HT := Lib.hid ht
  clear ht
  go_region_law (refine step_touch rfl (.tmp 14) (.tmp 16) rfl base A c ts (by simp [Act.eval, Act.put]) (HO.out _) _ t (by simp [Act.eval, Act.put]) HN.out hn (HZ.out _) ?_; intro g' cap w2 O2 G2 M2 L2; have hnr : some g ≠ blk A := (fun e => (hrow.out g e.symm).2.2.1 rfl); have K2 := World.cell?_of_block (a := ⟨g, 1, none⟩) (G2.block g (Nat.lt_of_lt_of_le hlt1 (HLN.out _).size) hnr); have K3 : w2.frozen? ⟨g, 1, none⟩ = false := (World.frozen?_of_block (a := ⟨g, 1, none⟩) (G2.block g (Nat.lt_of_lt_of_le hlt1 (HLN.out _).size) hnr)).trans hfY.out; have HO2 := Lib.hid O2; have HG2 := Lib.hid G2; have HM2 := Lib.hid M2; clear O2 G2 M2)
  all_goals
    go_wp2
    refine bodyPost_ret (results_none rfl _ _ _) rfl ?_
    refine ⟨rfl, ?_⟩
    rw [← HT.out]
    exact note_end H1.out B1.out (HLN.out _) HO2.out HG2.out HM2.out
end Go.Proofs.YtklhdilbmpndkaaGreat.Ce

namespace Go.Proofs.YtklhdilbmpndkaaGreat.Ce
set_option maxRecDepth 20000
open Go.RowKit
set_option linter.unusedVariables false
set_option linter.unusedSimpArgs false

theorem set_map {zs : List Int} {p : Nat} {x : Int} : (zs.map (Value.int .i64)).set p (.int .i64 x) = (zs.set p x).map (Value.int .i64) := by rw [List.map_set]

/-- A word is set. -/
theorem At.put {w : World} {base g gw : Nat} {zs : List Int} {A : Option Addr} {c : Nat} {ts : List Tc} (h : At w base g gw zs A c ts) (p : Nat) (x : Int) :
    At (w.setCell ⟨gw, p, none⟩ (.int .i64 x)) base g gw (zs.set p x) A c ts :=
  ⟨by simpa using h.own.far (p := ⟨gw, p, none⟩) h.gne _, by rw [← set_map]; exact h.words.set p _,
   owns_of_block h.log fun k hk => Below.heap_setCell w _ _ k (h.row_of k (by rw [own_blk] at hk; exact hk)).2.2.2, by simpa using h.some_, by simpa using h.most, h.lo, h.lo'⟩
theorem Else.put {g gw p : Nat} {row : Option Nat} {w : World} {u : Value} : Else g gw row w (w.setCell ⟨gw, p, none⟩ u) :=
  ⟨rfl, rfl, rfl, by simp, fun k hk h1 h2 h3 => Below.heap_setCell w _ _ k h2⟩
theorem Did.after {w w1 w' : World} {base g gw : Nat} {A : Option Addr} {zs : List Int} {ts : List Tc} (d : Did w1 w' base g gw A zs ts) (e : Else g gw (blk A) w w1) : Did w w' base g gw A zs ts := by
  obtain ⟨A', c', h1, h2, h3⟩ := d
  refine ⟨A', c', h1, e.trans h2 (Or.inl rfl), ?_⟩
  rcases h3 with h | ⟨k, h, hk⟩
  · exact Or.inl h
  · exact Or.inr ⟨k, h, Nat.le_trans e.size hk⟩
theorem Did.then {w w1 w' : World} {base g gw : Nat} {A : Option Addr} {zs : List Int} {ts : List Tc} (d : Did w w1 base g gw A zs ts) (e : Below w1.heap.size w1 w') : Did w w' base g gw A zs ts := by
  obtain ⟨A', c', h1, h2, h3⟩ := d
  exact ⟨A', c', h1.kept e, h2.trans (Else.of_below (row := blk A') e) h3, h3⟩

set_option maxHeartbeats 1000000 in
theorem touch_yes {w : World} {base g gw : Nat} {zs : List Int} {A : Option Addr} {c : Nat} {ts : List Tc} (h : At w base g gw zs A c ts) (hn : ts.length ≤ 30000) (who what : Int) (p : Nat) (F : Nat) (caps : Array Value) (h0 : 0 ≤ who) (h1 : who < 64) (h3 : p < zs.length) (was is : Int) (hwas : zs.getD p 0 = was)
    (hen : ∀ args W, (callFunc F args).run Tryz.prog W = .ok (.enter F args) W)
    (hcl : Calls Tryz.prog F (#[.int .i64 was] ++ caps) w fun e w' => e = .returned (.int .i64 is) ∧ Below w.heap.size w w') :
    Calls Tryz.prog 88 #[.pointer (some ⟨g, 0, none⟩), .int .i64 who, .int .i64 p, .int .i64 what, .func (.func F) #[] caps] w fun e w' =>
      e = .returned (.tuple #[.int .i64 was, .int .i64 0]) ∧ Did w w' base g gw A (zs.set p is) (ts ++ [⟨who, p, what, was, is⟩]) := by
  have hc0 : w.cell? ⟨g, 0, none⟩ = some (.slice (some ⟨gw, 0, none⟩) zs.length zs.length) := h.own.cell 0
  have hcw : w.cell? ⟨gw, p, none⟩ = some (.int .i64 was) := by rw [h.words.cell p]; simp [List.getD, h3] at hwas ⊢; exact hwas
  have d0 : decide (who < 0) = false := by simp; omega
  have d1 : decide (64 ≤ who) = false := by simp; omega
  have d2 : (0 : Int) ≤ p := by omega
  have d3 : (p : Int) < zs.length := by omega
  have HC := Lib.hid hcl
  have H := Lib.hid h
  clear hwas hcl h
  go_enter Tryz.func88, Tryz.ntmps88
  go_wp2_with fail
  refine HC.out.mono ?_
  rintro e w1 ⟨rfl, hb1⟩
  have H1 := Lib.hid (H.out.kept hb1)
  have E1 : Hid (Else g gw (blk A) w w1) := Lib.hid (Else.of_below hb1)
  have k0 : w1.cell? ⟨g, 0, none⟩ = some (.slice (some ⟨gw, 0, none⟩) zs.length zs.length) := H1.out.own.cell 0
  have kw : w1.cell? ⟨gw, p, none⟩ = some (.int .i64 was) := (hb1.cell H.out.words.lt).trans hcw
  have kf : w1.frozen? ⟨gw, p, none⟩ = false := H1.out.words.frozen p
  clear hc0 hcw HC hb1
  go_wp2_with fail
  refine (note_any (H1.out.put p is) hn who p what was is).mono ?_
  rintro e w2 ⟨rfl, D2⟩
  have HD := Lib.hid ((D2.after Else.put).after E1.out)
  clear D2
  go_wp2
  go_ret2
  exact ⟨rfl, HD.out⟩

set_option maxHeartbeats 1000000 in
theorem touch_no {w : World} {base g gw : Nat} {zs : List Int} {A : Option Addr} {c : Nat} {ts : List Tc} (h : At w base g gw zs A c ts) (who place what : Int) (f : Value) (hbad : ¬ (0 ≤ who ∧ who < 64 ∧ 0 ≤ place ∧ place < zs.length)) :
    Calls Tryz.prog 88 #[.pointer (some ⟨g, 0, none⟩), .int .i64 who, .int .i64 place, .int .i64 what, f] w fun e w' =>
      e = .returned (.tuple #[.int .i64 0, .int .i64 1]) ∧ w = w' := by
  have hc0 : w.cell? ⟨g, 0, none⟩ = some (.slice (some ⟨gw, 0, none⟩) zs.length zs.length) := h.own.cell 0
  by_cases h0 : who < 0
  · have d0 : decide (who < 0) = true := by simp; omega
    go_enter Tryz.func88, Tryz.ntmps88
    go_wp2
    go_ret2
    exact ⟨rfl, rfl⟩
  have d0 : decide (who < 0) = false := by simp; omega
  by_cases h1 : 64 ≤ who
  · have d1 : decide (64 ≤ who) = true := by simp; omega
    go_enter Tryz.func88, Tryz.ntmps88
    go_wp2
    go_ret2
    exact ⟨rfl, rfl⟩
  have d1 : decide (64 ≤ who) = false := by simp; omega
  by_cases h2 : place < 0
  · have d2 : decide (place < 0) = true := by simp; omega
    go_enter Tryz.func88, Tryz.ntmps88
    go_wp2
    go_ret2
    exact ⟨rfl, rfl⟩
  have d2 : decide (place < 0) = false := by simp; omega
  have h3 : (zs.length : Int) ≤ place := by omega
  go_enter Tryz.func88, Tryz.ntmps88
  go_wp2
  go_ret2
  exact ⟨rfl, rfl⟩
end Go.Proofs.YtklhdilbmpndkaaGreat.Ce

namespace Go.Proofs.YtklhdilbmpndkaaGreat.Ce
set_option maxRecDepth 20000
open Go.RowKit
set_option linter.unusedVariables false
set_option linter.unusedSimpArgs false

theorem run_mf (fn : Fn) (first cap : Array Value) (w : World) : (Instr.makeFunc fn first cap).run Tryz.prog w = .ok (.func fn first cap) w := rfl
theorem enter20 (args : Array Value) (W : World) : (callFunc 110 args).run Tryz.prog W = .ok (.enter 110 args) W := by
  simp [callFunc, go_sem, Tryz.func110]
  kernel_rfl
theorem enter23 (args : Array Value) (W : World) : (callFunc 105 args).run Tryz.prog W = .ok (.enter 105 args) W := by
  simp [callFunc, go_sem, Tryz.func105]
  kernel_rfl

theorem cl20 (was : Int) (w : World) : Calls Tryz.prog 110 (#[.int .i64 was] ++ #[]) w fun e w' => e = .returned (.int .i64 was) ∧ Below w.heap.size w w' := by
  show Calls Tryz.prog 110 #[.int .i64 was] w _
  go_enter Tryz.func110, Tryz.ntmps110
  go_wp2
  go_ret
  exact ⟨rfl, Below.refl _ _⟩
theorem cl23 (was b' : Int) (b : Nat) (w : World) (hb : w.cell? ⟨b, 0, none⟩ = some (.int .i64 b')) : Calls Tryz.prog 105 (#[.int .i64 was] ++ #[.pointer (some ⟨b, 0, none⟩)]) w fun e w' => e = .returned (.int .i64 (wrap64 (was + b'))) ∧ Below w.heap.size w w' := by
  show Calls Tryz.prog 105 #[.int .i64 was, .pointer (some ⟨b, 0, none⟩)] w _
  go_enter Tryz.func105, Tryz.ntmps105
  go_wp2
  go_ret
  exact ⟨rfl, Below.refl _ _⟩

theorem enter21 (args : Array Value) (W : World) : (callFunc 89 args).run Tryz.prog W = .ok (.enter 89 args) W := by
  simp [callFunc, go_sem, Tryz.func89]
  kernel_rfl
theorem cl21 (was b' : Int) (b : Nat) (w : World) (hb : w.cell? ⟨b, 0, none⟩ = some (.int .i64 b')) : Calls Tryz.prog 89 (#[.int .i64 was] ++ #[.pointer (some ⟨b, 0, none⟩)]) w fun e w' => e = .returned (.int .i64 b') ∧ Below w.heap.size w w' := by
  show Calls Tryz.prog 89 #[.int .i64 was, .pointer (some ⟨b, 0, none⟩)] w _
  go_enter Tryz.func89, Tryz.ntmps89
  go_wp2
  go_ret
  exact ⟨rfl, Below.refl _ _⟩

section
variable {w : World} {base g gw : Nat} {zs : List Int} {A : Option Addr} {c : Nat} {ts : List Tc}

theorem set_same {zs : List Int} {p : Nat} {was : Int} (h : p < zs.length) (hw : zs.getD p 0 = was) : zs.set p was = zs := by
  apply List.ext_getElem?
  intro i
  rw [List.getElem?_set]
  split
  · next e => subst e; simp [List.getD, h] at hw; simp [h, hw]
  · rfl

set_option maxHeartbeats 1000000 in
theorem load_yes (h : At w base g gw zs A c ts) (hn : ts.length ≤ 30000) (who : Int) (p : Nat) (h0 : 0 ≤ who) (h1 : who < 64) (h3 : p < zs.length) (was : Int) (hwas : zs.getD p 0 = was) :
    Calls Tryz.prog 106 #[.pointer (some ⟨g, 0, none⟩), .int .i64 who, .int .i64 p] w fun e w' => e = .returned (.tuple #[.int .i64 was, .int .i64 0]) ∧ Did w w' base g gw A zs (ts ++ [⟨who, p, 1, was, was⟩]) := by
  have hmf := run_mf
  have T := Lib.hid (touch_yes h hn who 1 p 110 #[] h0 h1 h3 was was hwas enter20 (cl20 was w))
  rw [set_same h3 hwas] at T
  clear hwas h
  go_enter Tryz.func106, Tryz.ntmps106
  go_wp2_with fail
  refine T.out.mono ?_
  rintro e w1 ⟨rfl, D⟩
  have HD := Lib.hid D
  clear D
  go_wp2
  go_ret2
  exact ⟨rfl, HD.out⟩

set_option maxHeartbeats 1000000 in
theorem add_yes (h : At w base g gw zs A c ts) (hn : ts.length ≤ 30000) (who : Int) (p : Nat) (n : Int) (h0 : 0 ≤ who) (h1 : who < 64) (h3 : p < zs.length) (was : Int) (hwas : zs.getD p 0 = was) :
    Calls Tryz.prog 90 #[.pointer (some ⟨g, 0, none⟩), .int .i64 who, .int .i64 p, .int .i64 n] w fun e w' => e = .returned (.tuple #[.int .i64 was, .int .i64 0]) ∧ Did w w' base g gw A (zs.set p (wrap64 (was + n))) (ts ++ [⟨who, p, 4, was, wrap64 (was + n)⟩]) := by
  have hmf := run_mf
  obtain ⟨X, hX⟩ : ∃ X : Obj, X = .cells #[.int .i64 n] 3 := ⟨_, rfl⟩
  have LX : Lies (w.alloc X) w.heap.size 3 [.int .i64 n] := by rw [hX]; exact Lies.new w 3 [_]
  have T := Lib.hid (touch_yes (h.kept (below_one w X)) hn who 4 p 105 #[.pointer (some ⟨w.heap.size, 0, none⟩)] h0 h1 h3 was _ hwas enter23 (cl23 was n _ _ (LX.cell 0)))
  clear hwas h LX
  go_enter Tryz.func90, Tryz.ntmps90
  go_wp2_with fail
  rw [← hX]
  refine T.out.mono ?_
  rintro e w1 ⟨rfl, D⟩
  have HD := Lib.hid (D.after (Else.of_below (below_one w X)))
  clear D T hX
  go_wp2
  go_ret2
  exact ⟨rfl, HD.out⟩

set_option maxHeartbeats 1000000 in
theorem store_yes (h : At w base g gw zs A c ts) (hn : ts.length ≤ 30000) (who : Int) (p : Nat) (n : Int) (h0 : 0 ≤ who) (h1 : who < 64) (h3 : p < zs.length) :
    Calls Tryz.prog 57 #[.pointer (some ⟨g, 0, none⟩), .int .i64 who, .int .i64 p, .int .i64 n] w fun e w' => e = .returned (.int .i64 0) ∧ Did w w' base g gw A (zs.set p n) (ts ++ [⟨who, p, 2, zs.getD p 0, n⟩]) := by
  have hmf := run_mf
  obtain ⟨X, hX⟩ : ∃ X : Obj, X = .cells #[.int .i64 n] 3 := ⟨_, rfl⟩
  have LX : Lies (w.alloc X) w.heap.size 3 [.int .i64 n] := by rw [hX]; exact Lies.new w 3 [_]
  have T := Lib.hid (touch_yes (h.kept (below_one w X)) hn who 2 p 89 #[.pointer (some ⟨w.heap.size, 0, none⟩)] h0 h1 h3 _ _ rfl enter21 (cl21 _ n _ _ (LX.cell 0)))
  clear h LX
  go_enter Tryz.func57, Tryz.ntmps57
  go_wp2_with fail
  rw [← hX]
  refine T.out.mono ?_
  rintro e w1 ⟨rfl, D⟩
  have HD := Lib.hid (D.after (Else.of_below (below_one w X)))
  clear D T hX
  go_wp2
  go_ret
  exact ⟨rfl, HD.out⟩

theorem load_no (h : At w base g gw zs A c ts) (who place : Int) (hbad : ¬ (0 ≤ who ∧ who < 64 ∧ 0 ≤ place ∧ place < zs.length)) :
    Calls Tryz.prog 106 #[.pointer (some ⟨g, 0, none⟩), .int .i64 who, .int .i64 place] w fun e w' => e = .returned (.tuple #[.int .i64 0, .int .i64 1]) ∧ Below w.heap.size w w' := by
  have hmf := run_mf
  have T := Lib.hid (touch_no h who place 1 (.func (.func 110) #[] #[]) hbad)
  clear h hbad
  go_enter Tryz.func106, Tryz.ntmps106
  go_wp2_with fail
  refine T.out.mono ?_
  rintro e w1 ⟨rfl, rfl⟩
  go_wp2
  go_ret2
  exact ⟨rfl, Below.refl _ _⟩

theorem add_no (h : At w base g gw zs A c ts) (who place n : Int) (hbad : ¬ (0 ≤ who ∧ who < 64 ∧ 0 ≤ place ∧ place < zs.length)) :
    Calls Tryz.prog 90 #[.pointer (some ⟨g, 0, none⟩), .int .i64 who, .int .i64 place, .int .i64 n] w fun e w' => e = .returned (.tuple #[.int .i64 0, .int .i64 1]) ∧ Below w.heap.size w w' := by
  have hmf := run_mf
  obtain ⟨X, hX⟩ : ∃ X : Obj, X = .cells #[.int .i64 n] 3 := ⟨_, rfl⟩
  have T := Lib.hid (touch_no (h.kept (below_one w X)) who place 4 (.func (.func 105) #[] #[.pointer (some ⟨w.heap.size, 0, none⟩)]) hbad)
  clear h hbad
  go_enter Tryz.func90, Tryz.ntmps90
  go_wp2_with fail
  rw [← hX]
  refine T.out.mono ?_
  rintro e w1 ⟨rfl, rfl⟩
  have HB := Lib.hid (below_one w X)
  clear hX T
  go_wp2
  go_ret2
  exact ⟨rfl, HB.out⟩

end
end Go.Proofs.YtklhdilbmpndkaaGreat.Ce

namespace Go.Proofs.YtklhdilbmpndkaaGreat.Ce
set_option maxRecDepth 20000
open Go.RowKit
set_option linter.unusedVariables false
set_option linter.unusedSimpArgs false

def noughts (n : Nat) : List Value := List.replicate n (.int .i64 0)
theorem noughts_length (n : Nat) : (noughts n).length = n := by simp [noughts]
theorem noughts_eq (n : Nat) : noughts n = (List.replicate n (0 : Int)).map (Value.int .i64) := by simp [noughts]
theorem made_one (z : Value) (n : Nat) : madeCells #[z] n = (List.replicate n z).toArray := by
  apply Array.ext
  · simp [madeCells]
  · intro i h1 h2
    simp [madeCells, Nat.mod_one]
theorem info3 : ∃ i, Tryz.prog.info? 3 = some i ∧ i.zero = some (.int .i64 0) ∧ i.size = 1 ∧ i.bytes = 8 := ⟨_, rfl, rfl, rfl, rfl⟩

theorem make29 (n : Nat) (hn : n ≤ 65536) (w : World) : (Instr.makeSlice 30 (.int .i64 (n : Int)) (.int .i64 (n : Int))).run Tryz.prog w = .ok (.slice (some ⟨w.heap.size, 0, none⟩) n n) (w.alloc (.cells (noughts n).toArray 3)) := by
  obtain ⟨i0, hi0, hz0, hz1, hz2⟩ := info3
  have := run_make (P := Tryz.prog) w 30 3 i0 _ Tryz.underlying30 hi0 hz0 .i64 .i64 n n (by omega) (Int.le_refl _) (by rw [hz2]; omega) (by omega)
  rw [this, hz1]
  simp [Value.cells, made_one, noughts]

set_option maxRecDepth 100000 in
set_option maxHeartbeats 1000000 in
theorem new_yes (n : Nat) (w : World) (base : Nat) (hb : base ≤ w.heap.size) (h1 : 1 ≤ n) (h2 : n ≤ 65536) :
    Calls Tryz.prog 56 #[.int .i64 (n : Int)] w fun e w' => ∃ g gw, e = .returned (.tuple #[.pointer (some ⟨g, 0, none⟩), .int .i64 0]) ∧ Below w.heap.size w w' ∧ w.heap.size ≤ g ∧ w.heap.size ≤ gw ∧ At w' base g gw (List.replicate n 0) none 0 [] := by
  have hmk := make29 n h2
  have d1 : decide ((n : Int) < 1) = false := by simp; omega
  have d2 : decide (65536 < (n : Int)) = false := by simp; omega
  obtain ⟨X, hX⟩ : ∃ X : Obj, X = .cells (noughts n).toArray 3 := ⟨_, rfl⟩
  have HB := Lib.hid (below_one w X)
  have hL0 : Hid (Lies (w.alloc X) w.heap.size 3 (noughts n)) := Lib.hid (by rw [hX]; exact Lies.new w 3 (noughts n))
  have HS : Hid ((w.alloc X).heap.size = w.heap.size + 1) := Lib.hid (by simp)
  rw [← hX] at hmk
  clear hX
  go_enter Tryz.func56, Tryz.ntmps56
  go_wp2
  go_ret2
  refine ⟨w.heap.size + 1, w.heap.size, rfl, on HB.out HB.out.size (below_one _ _), by omega, Nat.le_refl _, ?_⟩
  have L1 := Lies.new (w.alloc X) 123 [.slice (some ⟨w.heap.size, 0, none⟩) n n, .slice none 0 0, .int .i64 0]
  rw [HS.out] at L1
  have L0 := hL0.out.alloc (.cells [.slice (some ⟨w.heap.size, 0, none⟩) n n, .slice none 0 0, .int .i64 0].toArray 123)
  refine ⟨by simpa using L1, by rw [← noughts_eq]; exact L0, World.ownsRow_nil _ _ _ _, by simp; omega, by simp; omega, by omega, hb⟩

set_option maxRecDepth 100000 in
set_option maxHeartbeats 1000000 in
theorem new_no (n : Int) (w : World) (h : n < 1 ∨ 65536 < n) :
    Calls Tryz.prog 56 #[.int .i64 n] w fun e w' => e = .returned (.tuple #[.pointer none, .int .i64 1]) ∧ Below w.heap.size w w' := by
  by_cases h1 : n < 1
  · have d1 : decide (n < 1) = true := by simp; omega
    go_enter Tryz.func56, Tryz.ntmps56
    go_wp2
    go_ret2
    exact ⟨rfl, Below.refl _ _⟩
  · have d1 : decide (n < 1) = false := by simp; omega
    have d2 : decide (65536 < n) = true := by simp; omega
    go_enter Tryz.func56, Tryz.ntmps56
    go_wp2
    go_ret2
    exact ⟨rfl, Below.refl _ _⟩

section
variable {w : World} {base g gw : Nat} {zs : List Int} {A : Option Addr} {c : Nat} {ts : List Tc}

theorem At.cleared (h : At w base g gw zs A c ts) : At ((w.setCell ⟨g, 1, none⟩ (.slice none 0 0)).setCell ⟨g, 2, none⟩ (.int .i64 0)) base g gw zs none 0 [] :=
  ⟨by simpa using (h.own.set 1 (.slice none 0 0)).set 2 (.int .i64 0), (h.words.far (p := ⟨g, 1, none⟩) h.gne.symm _).far (p := ⟨g, 2, none⟩) h.gne.symm _, World.ownsRow_nil _ _ _ _, h.some_, h.most, h.lo, h.lo'⟩

set_option maxHeartbeats 1000000 in
theorem clear_any (h : At w base g gw zs A c ts) : Calls Tryz.prog 58 #[.pointer (some ⟨g, 0, none⟩)] w fun e w' => e = .returned (.tuple #[]) ∧ At w' base g gw zs none 0 [] ∧ Else g gw none w w' := by
  have hc1 : w.cell? ⟨g, 1, none⟩ = some (.slice A ts.length c) := h.own.cell 1
  have hc2 : w.cell? ⟨g, 2, none⟩ = some (.int .i64 0) := h.own.cell 2
  have hf1 := h.own.frozen 1
  have hf2 := h.own.frozen 2
  have H := Lib.hid h.cleared
  clear h
  go_enter Tryz.func58, Tryz.ntmps58
  go_wp2
  go_end0
  refine ⟨rfl, H.out, ⟨rfl, rfl, rfl, by simp, fun k hk h1 h2 h3 => ?_⟩⟩
  rw [Below.heap_setCell _ _ _ k h1, Below.heap_setCell _ _ _ k h1]
end
end Go.Proofs.YtklhdilbmpndkaaGreat.Ce
