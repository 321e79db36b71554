/- What 'note' does: a touch is written down behind the others. -/
import Derived.Test.YtpifnhfdbcckjaaMem
import Derived.Deep.AppendLies
import Derived.Deep.RegionLaw
namespace Go.Proofs.Ytpifnhfdbcckjaa
open Go.RowKit
set_option linter.unusedVariables false
set_option linter.unusedSimpArgs false

theorem info_39 : ∃ i z, Try.prog.info? 58 = some i ∧ i.zero = some z ∧ i.size = 5 ∧ i.bytes = 40 ∧ z.cells.size = 5 := ⟨_, _, rfl, rfl, rfl, rfl, rfl⟩

/-- What is told of cells behind a step. -/
def Did (w w' : World) (base g gw : Nat) (A : Option Addr) (zs : List Int) (ts : List Tc) : Prop :=
  ∃ A' c', At w' base g gw zs A' c' ts ∧ Else g gw (blk A) w w' ∧ Moved w (blk A) (blk A')

/-- append of one touch onto touches that the call owns. -/
theorem step_touch {ops : Array Oper} {o : Oper} {a : Act} {W : World} {K : Act → World → Prop} {Q : Exit → Act → World → Prop} {E : Prop} (hgd : o.guard = none) (s x : Operand)
    (ho : o.op = .call { callee := .builtin .append, args := #[s, x], argTypes := #[37, 37] })
    (base : Nat) (A : Option Addr) (c : Nat) (ts : List Tc) (hs : a.eval s = .slice A ts.length c) (hown : W.ownsRow base 58 5 (.slice A ts.length c) ts.length (cellsT ts))
    (ad : Addr) (t : Tc) (hx : a.eval x = .slice (some ad) 1 1) (hnews : ∀ j u, t.cells[j]? = some u → W.cell? (ad.add j) = some u) (hn : ts.length ≤ 30000) (hbase : base ≤ W.heap.size)
    (h : ∀ g cap w', w'.ownsRow base 58 5 (.slice (some ⟨g, 0, none⟩) (ts.length + 1) cap) (ts.length + 1) (cellsT (ts ++ [t])) → W.grownBy w' (blk A) → (blk A = some g ∨ g = W.heap.size) → g < w'.heap.size → K (a.put o.dst (.slice (some ⟨g, 0, none⟩) (ts.length + 1) cap)) w') :
    if Region.wanted o (yielded ops a.tmps) = true then Oper.wp Try.prog o a W K Q else E := by
  obtain ⟨i, z, hi, hz, hsz, hby, hzc⟩ := info_39
  refine step_append_lies W hgd s x 37 ho base 58 i z 5 40 Try.underlying37 hi hz hsz hby hzc (by decide) (.slice A ts.length c) ts.length (cellsT ts) hs hown ad 1 1 t.cells hx rfl hnews ?_ (by decide) (by unfold maxLen; omega) (by omega) hbase _ rfl ?_
  · intro u hu
    simp [Tc.cells] at hu
    rcases hu with rfl | rfl | rfl | rfl | rfl <;> rfl
  · intro g cap w' h1 h2 h3 h4
    rw [own_blk] at h2 h3
    rw [← cellsT_add] at h1
    exact h g cap w' h1 h2 h3 h4

theorem note_end {w w1 W w2 : World} {base g gw g' cap : Nat} {zs : List Int} {A : Option Addr} {c : Nat} {ts : List Tc} {t : Tc} (H : At w1 base g gw zs A c ts) (hb : Below w.heap.size w w1) (hY : Below w1.heap.size w1 W)
    (O2 : w2.ownsRow base 58 5 (.slice (some ⟨g', 0, none⟩) (ts.length + 1) cap) (ts.length + 1) (cellsT (ts ++ [t]))) (G2 : W.grownBy w2 (blk A)) (M2 : blk A = some g' ∨ g' = W.heap.size) :
    Did w (w2.setCell ⟨g, 1, none⟩ (.slice (some ⟨g', 0, none⟩) (ts.length + 1) cap)) base g gw A zs (ts ++ [t]) := by
  have HW := H.kept hY
  have hg : some g ≠ blk A := fun e => (H.row_of g e.symm).2.2.1 rfl
  have hgw : some gw ≠ blk A := fun e => (H.row_of gw e.symm).2.2.2 rfl
  have hne := H.gne
  have s1 := hb.size
  have s2 := hY.size
  have s3 := G2.size
  have hg' : g' ≠ g := by
    rcases M2 with e | e
    · exact (H.row_of g' e).2.2.1
    · have := HW.own.lt; omega
  have L0 := (HW.own.of_block (G2.block g HW.own.lt hg)).set 1 (.slice (some ⟨g', 0, none⟩) (ts.length + 1) cap)
  have L1 := (HW.words.of_block (G2.block gw HW.words.lt hgw)).far (p := ⟨g, 1, none⟩) hne.symm (.slice (some ⟨g', 0, none⟩) (ts.length + 1) cap)
  have L2 := owns_of_block (w' := w2.setCell ⟨g, 1, none⟩ (.slice (some ⟨g', 0, none⟩) (ts.length + 1) cap)) O2 (fun k hk => Below.heap_setCell w2 _ _ k (by
    injection hk with hk; subst hk; exact hg'))
  refine ⟨some ⟨g', 0, none⟩, cap, ⟨?_, L1, ?_, H.some_, H.most, H.lo, H.lo'⟩, ⟨?_, ?_, ?_, ?_, ?_⟩, ?_⟩
  · simpa using L0
  · simpa using L2
  · exact (G2.os.trans hY.os).trans hb.os
  · exact (G2.tape.trans hY.tape).trans hb.tape
  · exact (G2.output.trans hY.output).trans hb.output
  · have : (w2.setCell ⟨g, 1, none⟩ (.slice (some ⟨g', 0, none⟩) (ts.length + 1) cap)).heap.size = w2.heap.size := by simp
    omega
  · intro k hk h1 h2 h3
    rw [Below.heap_setCell w2 _ _ k h1, G2.block k (by omega) h3, hY.block k (by omega), hb.block k hk]
  · rcases M2 with e | e
    · exact Or.inl (by rw [e]; rfl)
    · exact Or.inr ⟨g', rfl, by omega⟩

set_option maxRecDepth 100000 in
set_option maxHeartbeats 1000000 in
theorem note_any {w : World} {base g gw : Nat} {zs : List Int} {A : Option Addr} {c : Nat} {ts : List Tc} (h : At w base g gw zs A c ts) (hn : ts.length ≤ 30000) (who place what was is : Int) :
    Calls Try.prog 25 #[.pointer (some ⟨g, 0, none⟩), .agg #[.int .i64 who, .int .i64 place, .int .i64 what, .int .i64 was, .int .i64 is]] w fun e w' => e = .returned (.tuple #[]) ∧ Did w w' base g gw A zs (ts ++ [⟨who, place, what, was, is⟩]) := by
  have hc1 : w.cell? ⟨g, 1, none⟩ = some (.slice A ts.length c) := h.own.cell 1
  have hf1 : w.frozen? ⟨g, 1, none⟩ = false := h.own.frozen 1
  have hlt := h.own.lt
  have hl : (ts.length : Int) < 100000 := by omega
  have H := Lib.hid h
  clear h
  go_enter Try.func25, Try.ntmps25
  go_wp2_with fail
  obtain ⟨X, hX⟩ : ∃ X : Obj, X = .cells #[.int .i64 who, .int .i64 place, .int .i64 what, .int .i64 was, .int .i64 is] 58 := ⟨_, rfl⟩
  have LX : Lies (w.alloc X) w.heap.size 58 [.int .i64 who, .int .i64 place, .int .i64 what, .int .i64 was, .int .i64 is] := by rw [hX]; exact Lies.new w 58 [_, _, _, _, _]
  have H1 := Lib.hid (H.out.kept (below_one w X))
  have B1 := Lib.hid (below_one w X)
  rw [← hX]
  have HS : Hid ((w.alloc X).heap.size = w.heap.size + 1) := Lib.hid (by simp)
  have hb1 : base ≤ (w.alloc X).heap.size := H1.out.old
  have hc1 : (w.alloc X).cell? ⟨g, 1, none⟩ = some (.slice A ts.length c) := H1.out.own.cell 1
  have hf1 : (w.alloc X).frozen? ⟨g, 1, none⟩ = false := H1.out.own.frozen 1
  have l0 : (w.alloc X).cell? ⟨w.heap.size, 0, none⟩ = some (.int .i64 who) := LX.cell 0
  have l1 : (w.alloc X).cell? ⟨w.heap.size, 1, none⟩ = some (.int .i64 place) := LX.cell 1
  have l2 : (w.alloc X).cell? ⟨w.heap.size, 2, none⟩ = some (.int .i64 what) := LX.cell 2
  have l3 : (w.alloc X).cell? ⟨w.heap.size, 3, none⟩ = some (.int .i64 was) := LX.cell 3
  have l4 : (w.alloc X).cell? ⟨w.heap.size, 4, none⟩ = some (.int .i64 is) := LX.cell 4
  have hlt1 := H1.out.own.lt
  have hrow := Lib.hid H1.out.row_of
  clear LX hX
  generalize w.alloc X = w1 at *
  obtain ⟨t, ht⟩ : ∃ t : Tc, t = ⟨who, place, what, was, is⟩ := ⟨_, rfl⟩
  have HO : Hid (∀ Y, (w1.alloc Y).drew.ownsRow base 58 5 (.slice A ts.length c) ts.length (cellsT ts)) := Lib.hid (fun Y => (H1.out.kept (below_one w1 Y)).log)
  have HN : Hid (∀ j u, t.cells[j]? = some u → (w1.alloc (.cells #[.int .i64 who, .int .i64 place, .int .i64 what, .int .i64 was, .int .i64 is] 58)).drew.cell? ((⟨w1.heap.size, 0, none⟩ : Addr).add j) = some u) := Lib.hid (by rw [ht]; exact World.news_of_block (w := (w1.alloc (.cells #[.int .i64 who, .int .i64 place, .int .i64 what, .int .i64 was, .int .i64 is] 58)).drew) (Lies.new w1 58 [_, _, _, _, _]))
  have hfY : Hid ((w1.alloc (.cells #[.int .i64 who, .int .i64 place, .int .i64 what, .int .i64 was, .int .i64 is] 58)).drew.frozen? ⟨g, 1, none⟩ = false) := Lib.hid ((H1.out.kept (below_one w1 _)).own.frozen 1)
  have HZ : Hid (∀ Y, base ≤ (w1.alloc Y).drew.heap.size) := Lib.hid (fun Y => by show _ ≤ (w1.heap.push _).size; simp; omega)
  have HLN : Hid (∀ Y, Below w1.heap.size w1 (w1.alloc Y).drew) := Lib.hid (fun Y => (below_one w1 Y).drew)
  have HT := Lib.hid ht
  clear ht
  go_region_law (refine step_touch rfl (.tmp 14) (.tmp 16) rfl base A c ts (by simp [Act.eval, Act.put]) (HO.out _) _ t (by simp [Act.eval, Act.put]) HN.out hn (HZ.out _) ?_; intro g' cap w2 O2 G2 M2 L2; have hnr : some g ≠ blk A := (fun e => (hrow.out g e.symm).2.2.1 rfl); have K2 := World.cell?_of_block (a := ⟨g, 1, none⟩) (G2.block g (Nat.lt_of_lt_of_le hlt1 (HLN.out _).size) hnr); have K3 : w2.frozen? ⟨g, 1, none⟩ = false := (World.frozen?_of_block (a := ⟨g, 1, none⟩) (G2.block g (Nat.lt_of_lt_of_le hlt1 (HLN.out _).size) hnr)).trans hfY.out; have HO2 := Lib.hid O2; have HG2 := Lib.hid G2; have HM2 := Lib.hid M2; clear O2 G2 M2)
  all_goals
    go_wp2
    refine bodyPost_ret (results_none rfl _ _ _) rfl ?_
    refine ⟨rfl, ?_⟩
    rw [← HT.out]
    exact note_end H1.out B1.out (HLN.out _) HO2.out HG2.out HM2.out
end Go.Proofs.Ytpifnhfdbcckjaa
