/- What the reference's Words answers. The walk of HeapFulls. What the reference's Check answers. -/
import Derived.Test.YtklhdilbmpndkaaGreatModel
import Derived.Deep.AppendLies
import Derived.Deep.RegionHeld3
import Derived.Test.YtklhdilbmpndkaaGreatGd
import Derived.Lib.QuietBelow
namespace Go.Proofs.YtklhdilbmpndkaaGreat
set_option maxRecDepth 20000
open Go.RowKit
set_option linter.unusedVariables false
set_option linter.unusedSimpArgs false

set_option maxRecDepth 100000 in
theorem info_3 : ∃ i, Tryz.prog.info? 3 = some i ∧ i.zero = some (.int .i64 0) ∧ i.size = 1 ∧ i.bytes = 8 := ⟨_, rfl, rfl, rfl, rfl⟩

/-- append onto a slice of words that the call owns. -/
theorem step_ints {ops : Array Oper} {o : Oper} {a : Act} {w : World} {K : Act → World → Prop} {Q : Exit → Act → World → Prop} {E : Prop} (hgd : o.guard = none) (s x : Operand)
    (ho : o.op = .call { callee := .builtin .append, args := #[s, x], argTypes := #[30, 30] })
    (base : Nat) (v : Value) (n : Nat) (xs : List Int) (hs : a.eval s = v) (hown : w.ownsRow base 3 1 v n (xs.map (Value.int .i64)))
    (ad : Addr) (m c : Nat) (ys : List Int) (hx : a.eval x = .slice (some ad) m c) (hm : ys.length = m) (hr : Row w (some ad) ys) (hb : n + m ≤ 100000) (hbase : base ≤ w.heap.size)
    (h : ∀ v' w', w'.ownsRow base 3 1 v' (n + m) ((xs ++ ys).map (Value.int .i64)) → w.grownBy w' v.ownBlock → K (a.put o.dst v') w') :
    if Region.wanted o (yielded ops a.tmps) = true then Oper.wp Tryz.prog o a w K Q else E := by
  have hw : Region.wanted o (yielded ops a.tmps) = true := by simp [Region.wanted, hgd]
  rw [if_pos hw]
  obtain ⟨i, hi, hz, hsz, hby⟩ := info_3
  obtain ⟨v', w', hrn, h2, h3, _, _⟩ := run_append_own_at (P := Tryz.prog) w base 30 o.type 3 i (.int .i64 0) 1 8 Tryz.underlying30 hi hz hsz hby rfl (by decide) v n (xs.map (Value.int .i64)) hown ad m c (ys.map (Value.int .i64)) (by simp [hm])
    (fun j u hu => by
      have hj : 0 < ys.length := by
        have := (List.getElem?_eq_some_iff.1 hu).1
        simp at this; omega
      obtain ⟨ad', e, _, hc⟩ := hr hj
      injection e with e
      subst e
      exact hc j u hu) (fun u hu => by simp at hu; obtain ⟨_, _, rfl⟩ := hu; rfl) (by unfold maxLen; omega) (by omega) hbase
  unfold Oper.wp execOp
  simp only [ho, resolve, invoke, builtin, Sem.run_bind, Sem.run_pure, Result.andThen_ok, List.map_toArray, List.map_cons, List.map_nil, hs, hx, hrn]
  exact h v' w' (by simpa using h2) h3

theorem owns_kept {w w' : World} {base n : Nat} {v : Value} {xs : List Value} (h : w.ownsRow base 3 1 v n xs) (hb : Below w.heap.size w w') : w'.ownsRow base 3 1 v n xs := by
  refine ⟨h.1, h.2.imp id ?_⟩
  rintro ⟨g, cap, cur, h1, h2, h3, h4⟩
  exact ⟨g, cap, cur, h1, h2, (hb.block g (Array.getElem?_eq_some_iff.1 h3).1).trans h3, h4⟩

theorem owns_row {w : World} {base n : Nat} {v : Value} {zs : List Int} (h : w.ownsRow base 3 1 v n (zs.map (Value.int .i64))) : ∃ A c, v = .slice A n c ∧ Row w A zs := by
  obtain ⟨hl, ⟨rfl, h0⟩ | ⟨g, cap, cur, rfl, h2, h3, h4, h5, h6, h7⟩⟩ := h
  · exact ⟨none, 0, by rw [h0], fun hz => by simp at hl; omega⟩
  · refine ⟨_, _, rfl, fun _ => ⟨_, rfl, (Array.getElem?_eq_some_iff.1 h3).1, fun j u hu => ?_⟩⟩
    refine World.news_of_block h3 j u ?_
    rw [← h7] at hu
    rw [List.getElem?_take] at hu
    split at hu
    · exact hu
    · cases hu

/-- Below a bound, as a world that grew in one row of its own. -/
theorem below_own {w W W' : World} {C base : Nat} {v : Value} {n : Nat} {xs : List Value} (h : Below C w W) (hC : C ≤ base) (hB : C ≤ W.heap.size) (ho : W.ownsRow base 3 1 v n xs) (hg : W.grownBy W' v.ownBlock) : Below C w W' :=
  h.grown hg hB (fun k e => by
    obtain ⟨_, ⟨rfl, _⟩ | ⟨g, cap, cur, rfl, h2, _⟩⟩ := ho
    · simp [Value.ownBlock] at e
    · simp [Value.ownBlock] at e; omega)

theorem pack_back {n : Int} (h : headB n = true) : packW (n % 16) (n / 65536) (n % 65536 / 16) = n := by
  unfold packW
  omega

theorem cell_two {W0 w w' : World} (h : Below W0.heap.size W0 w) (h' : Below W0.heap.size W0 w') (u : Value) (a : Addr) (hl : a.block < W0.heap.size) (hc : w.cell? a = some u) : w'.cell? a = some u :=
  (h'.cell hl).trans ((h.cell hl).symm.trans hc)

theorem Things.at2 {w wr : World} {A : Option Addr} {obs : List Ob} (h : Things w A obs) {i : Nat} {o : Ob} (ho : obs[i]? = some o) (hb : Below w.heap.size w wr) :
    ∃ ad bd c, A = some ad ∧ wr.cell? (ad.add (i * 5)) = some (.int .i64 (atI obs i)) ∧ wr.cell? ⟨(ad.add (i * 5)).block, (ad.add (i * 5)).off + 1, none⟩ = some (.int .i64 (o.1 % 16)) ∧
      wr.cell? ⟨(ad.add (i * 5)).block, (ad.add (i * 5)).off + 2, none⟩ = some (.int .i64 (o.1 / 65536)) ∧ wr.cell? ⟨(ad.add (i * 5)).block, (ad.add (i * 5)).off + 3, none⟩ = some (.int .i64 (o.1 % 65536 / 16)) ∧
      wr.cell? ⟨(ad.add (i * 5)).block, (ad.add (i * 5)).off + 4, none⟩ = some (.slice (some bd) o.2.length c) ∧ Row w (some bd) o.2 ∧ (ad.add (i * 5)).block < w.heap.size := by
  obtain ⟨ad, B, c, e, c0, c1, c2, c3, c4, hR, ⟨bd, rfl⟩, hl⟩ := h.at_ ho
  have hl' : (ad.add (i * 5)).block < w.heap.size := by rw [block_add]; exact hl
  exact ⟨ad, bd, c, e, (hb.cell hl').trans c0, (hb.cell (p := ⟨(ad.add (i * 5)).block, _, none⟩) hl').trans c1, (hb.cell (p := ⟨(ad.add (i * 5)).block, _, none⟩) hl').trans c2, (hb.cell (p := ⟨(ad.add (i * 5)).block, _, none⟩) hl').trans c3, (hb.cell (p := ⟨(ad.add (i * 5)).block, _, none⟩) hl').trans c4, hR, hl'⟩

end Go.Proofs.YtklhdilbmpndkaaGreat

namespace Go.Proofs.YtklhdilbmpndkaaGreat
set_option maxRecDepth 20000
open Go.RowKit Go.Sort
set_option linter.unusedVariables false
set_option linter.unusedSimpArgs false

theorem nil_ne (w : World) (g : Nat) : (binOp .eql 29 (.pointer (some ⟨g, 0, none⟩)) (.pointer none)).run Tryz.prog w = .ok (.bool false) w := by kernel_rfl

theorem new_st (n : Nat) (w : World) (h1 : 1 ≤ n) (h2 : n ≤ 65536) :
    Calls Tryz.prog 21 #[.int .i64 (n : Int)] w fun e w' => ∃ g gw gb, e = .returned (.tuple #[.pointer (some ⟨g, 0, none⟩), .int .i64 0]) ∧ Below w.heap.size w w' ∧ w.heap.size ≤ g ∧ w.heap.size ≤ gw ∧ w.heap.size ≤ gb ∧ St w' g gw gb [] (List.replicate n 0) :=
  (new_yes n w h1 h2).mono fun e w' ⟨g, gw, gb, he, hb, h3, h4, h5, H⟩ => ⟨g, gw, gb, he, hb, h3, h4, h5, fun o ho => by simp at ho, by simpa [flat_nil] using H⟩

theorem flat_rep (o : Ob) : ∀ i : Nat, (flat (List.replicate i o)).length = i * (1 + o.2.length)
  | 0 => by simp [flat_nil]
  | i + 1 => by
    rw [List.replicate_succ, flat_cons]
    simp [flat_rep o i, Nat.add_mul]
    omega

end Go.Proofs.YtklhdilbmpndkaaGreat

namespace Go.Proofs.YtklhdilbmpndkaaGreat
set_option maxRecDepth 20000
open Go.RowKit Go.Sort
set_option linter.unusedVariables false
set_option linter.unusedSimpArgs false

end Go.Proofs.YtklhdilbmpndkaaGreat
