/- SpillCrowd: what holds on the way. -/
import Derived.Test.YtcnpbdboeaaajaaRp
namespace Go.Proofs.Ytcnpbdboeaaajaa
open Go.RowKit
set_option linter.unusedVariables false
set_option linter.unusedSimpArgs false

def op1 : Option (Nat × Cl × Int) → Nat
  | none => 0
  | some p => if p.2.1.nx = 0 then 0 else 1
def opn (cs : Cs) : Nat := (cs.map op1).sum
theorem opn_set {o o' : Option (Nat × Cl × Int)} : ∀ {cs : Cs} {i : Nat}, cs[i]? = some o → opn (cs.set i o') + op1 o = opn cs + op1 o'
  | [], i, h => by simp at h
  | a :: l, 0, h => by
    simp at h; subst h
    simp [opn]; omega
  | a :: l, i + 1, h => by
    have := opn_set (o' := o') (cs := l) (i := i) (by simpa using h)
    simp [opn] at this ⊢; omega
theorem opn_app (cs : Cs) (o : Option (Nat × Cl × Int)) : opn (cs ++ [o]) = opn cs + op1 o := by simp [opn]
def blkOf : Option (Nat × Cl × Int) → Nat
  | none => 0
  | some p => p.1
theorem blk_set {cs : Cs} {i gc : Nat} {c c' : Cl} {x x' : Int} (h : cs[i]? = some (some (gc, c, x))) : (cs.set i (some (gc, c', x'))).map blkOf = cs.map blkOf := by
  apply List.ext_getElem?
  intro j
  rw [List.getElem?_map, List.getElem?_map, List.getElem?_set]
  by_cases e : i = j
  · subst e
    rw [if_pos rfl, if_pos (List.getElem?_eq_some_iff.1 h).1, h]; rfl
  · rw [if_neg e]

/-- A crowd that puts: each its own word. -/
structure Cw (cs : Cs) (pile : List Int) : Prop where
  mem : ∀ (i : Nat) (o : Option (Nat × Cl × Int)), cs[i]? = some o → ∃ gc cl, o = some (gc, cl, 500 + (i : Int)) ∧ cl.mv = 25 ∧ (cl.nx = 0 → cl.err = 0 ∧ (500 + (i : Int)) ∈ pile)
  pm : ∀ y ∈ pile, ∃ (i gc : Nat) (cl : Cl) (x : Int), cs[i]? = some (some (gc, cl, x)) ∧ y = 500 + (i : Int) ∧ cl.nx = 0
  nd : pile.Nodup
  cnt : pile.length + opn cs = cs.length

theorem Cw.nil : Cw [] [] := ⟨fun i o h => by simp at h, fun y h => by simp at h, by simp, by simp [opn]⟩
theorem Cw.app {cs : Cs} {gc : Nat} {cl : Cl} (h : Cw cs []) (hn : cl.nx = 27) (hm : cl.mv = 25) : Cw (cs ++ [some (gc, cl, 500 + (cs.length : Int))]) [] := by
  refine ⟨fun i o e => ?_, fun y h => by simp at h, by simp, ?_⟩
  · rcases app_some e with ⟨rfl, rfl⟩ | e
    · exact ⟨gc, cl, rfl, hm, fun h => by omega⟩
    · exact h.mem i o e
  · have := h.cnt
    rw [opn_app]
    simp [op1, hn] at this ⊢; omega
theorem Cw.step {cs : Cs} {pile pile' : List Int} {i gc : Nat} {cl cl' : Cl} {x : Int} (h : Cw cs pile) (hc : cs[i]? = some (some (gc, cl, x))) (hn : cl.nx ≠ 0) (hl : cs.length ≤ 64) (hmv : cl'.mv = cl.mv) (m : Moves cs i cl cl' x 64 pile pile') : Cw (cs.set i (some (gc, cl', x))) pile' := by
  obtain ⟨gc0, cl0, e0, hmv0, _⟩ := h.mem i _ hc
  injection e0 with e0; injection e0 with e1 e2; injection e2 with e2 e3
  subst e1 e2
  have hos := opn_set (o' := some (gc, cl', x)) hc
  have ho1 : op1 (some (gc, cl, x)) = 1 := by simp [op1, hn]
  have hpm : ∀ y ∈ pile, ∃ (j gc' : Nat) (c' : Cl) (x' : Int), i ≠ j ∧ cs[j]? = some (some (gc', c', x')) ∧ y = 500 + (j : Int) ∧ c'.nx = 0 := fun y hy => by
    obtain ⟨j, g1, c1, x1, hj, hy1, hz⟩ := h.pm y hy
    refine ⟨j, g1, c1, x1, fun e => ?_, hj, hy1, hz⟩
    subst e
    rw [hc] at hj; injection hj with hj; injection hj with hj; injection hj with _ hj; injection hj with hj _
    rw [← hj] at hz; exact hn hz
  rcases m with ⟨_, rfl, rfl⟩ | ⟨_, hz, _, rfl, _⟩ | ⟨_, hz, O, _⟩
  · rw [set_same_some hc]; exact h
  · refine ⟨fun j o e => ?_, fun y hy => ?_, h.nd, ?_⟩
    · rcases set_some e with ⟨rfl, rfl⟩ | ⟨_, e⟩
      · exact ⟨gc, cl', by rw [e3], hmv.trans hmv0, fun h => absurd h hz⟩
      · exact h.mem j o e
    · obtain ⟨j, g1, c1, x1, hij, hj, hy1, hz1⟩ := hpm y hy
      exact ⟨j, g1, c1, x1, by rw [List.getElem?_set_ne hij]; exact hj, hy1, hz1⟩
    · have h2 : op1 (some (gc, cl', x)) = 1 := by simp [op1, hz]
      have := h.cnt
      simp; omega
  · rw [hmv0] at O
    have h2 : op1 (some (gc, cl', x)) = 0 := by simp [op1, hz]
    have hcnt := h.cnt
    rcases O with ⟨_, e1, _, rfl, hlt⟩ | ⟨_, _, _, _, e⟩ | ⟨e, _⟩ | ⟨e, _⟩
    · refine ⟨fun j o e => ?_, fun y hy => ?_, ?_, ?_⟩
      · rcases set_some e with ⟨rfl, rfl⟩ | ⟨_, e⟩
        · exact ⟨gc, cl', by rw [e3], hmv.trans hmv0, fun _ => ⟨e1, by simp [e3]⟩⟩
        · obtain ⟨g1, c1, o1, m1, k1⟩ := h.mem j o e
          exact ⟨g1, c1, o1, m1, fun z => ⟨(k1 z).1, List.mem_append_left _ (k1 z).2⟩⟩
      · rcases List.mem_append.1 hy with hy | hy
        · obtain ⟨j, g1, c1, x1, hij, hj, hy1, hz1⟩ := hpm y hy
          exact ⟨j, g1, c1, x1, by rw [List.getElem?_set_ne hij]; exact hj, hy1, hz1⟩
        · have : y = x := by simpa using hy
          exact ⟨i, gc, cl', x, List.getElem?_set_self (List.getElem?_eq_some_iff.1 hc).1, by rw [this, e3], hz⟩
      · rw [List.nodup_append]
        refine ⟨h.nd, by simp, fun a ha b hb e => ?_⟩
        have : b = x := by simpa using hb
        obtain ⟨j, _, _, _, hij, _, hy1, _⟩ := hpm a ha
        omega
      · simp; omega
    · omega
    · cases e
    · cases e
theorem Cw.done {cs : Cs} {pile : List Int} {zs : List Int} {n : Nat} (h : Cw cs pile) (S : Sh zs n pile cs) (h0 : tot cs = 0) : ∀ (i : Nat), i < cs.length → ∃ gc cl, cs[i]? = some (some (gc, cl, 500 + (i : Int))) ∧ cl.nx = 0 ∧ cl.err = 0 ∧ (500 + (i : Int)) ∈ pile := by
  intro i hi
  obtain ⟨gc, cl, e, _, k⟩ := h.mem i _ (List.getElem?_eq_getElem hi)
  have hc : cs[i]? = some (some (gc, cl, 500 + (i : Int))) := by rw [List.getElem?_eq_getElem hi, e]
  have hr := tot_zero h0 hc
  simp [rk] at hr
  have hz : cl.nx = 0 := by
    rcases S.st with ⟨_, _, fr⟩ | ⟨_, hh, gh, ch, xh, hhc, ho, oth⟩
    · rcases fr i gc cl _ hc with e | e
      · rw [e] at hr; simp [rank] at hr
      · exact e
    · by_cases e : i = hh
      · subst e
        rw [hc] at hhc; injection hhc with hhc; injection hhc with hhc; injection hhc with _ hhc; injection hhc with e1 e2; subst e1 e2
        have := rank_pos (ho.fit (S.ok _ _ _ _ hc))
        omega
      · rcases oth i gc cl _ e hc with e | e
        · rw [e] at hr; simp [rank] at hr
        · exact e
  exact ⟨gc, cl, hc, hz, (k hz).1, (k hz).2⟩
theorem Cw.free {cs : Cs} {pile : List Int} {zs : List Int} {n : Nat} (h : Cw cs pile) (S : Sh zs n pile cs) (h0 : tot cs = 0) : Free cs := by
  intro i gc c x e
  obtain ⟨g1, c1, e1, hz, _⟩ := h.done S h0 i (List.getElem?_eq_some_iff.1 e).1
  rw [e] at e1; injection e1 with e1; injection e1 with e1; injection e1 with _ e1; injection e1 with e1 _
  rw [e1]; exact Or.inr hz

/-- All of it, in memory. -/
structure Cr (w0 w : World) (gd g gw : Nat) (v : Value) (cs : Cs) (pile : List Int) (k : Nat) : Prop where
  conc : ∃ k', k' ≤ k ∧ Conc w0 w gd g gw 64 pile cs k'
  row : Rp w w0.heap.size gw v (cs.map blkOf)
  cw : Cw cs pile

section
variable {w0 w w' : World} {gd g gw : Nat} {v : Value} {cs : Cs} {pile : List Int} {k i : Nat}
theorem Rp.keptB {base gc : Nat} {row : List Nat} (h : Rp w base gw v row) (K : KeptB w w' gc g gw) {k' n : Nat} (C : Conc w0 w gd g gw n pile cs k') {vs : List Value} (L : Lies w gc 62 vs) : Rp w' base gw v row := by
  obtain ⟨vg, Lg⟩ := C.g_lies
  exact h.kept fun b cs' hl hne => K.lies hl (hl.apart L (by decide)) (hl.apart Lg (by decide)) hne (by decide)
theorem Rp.at_ {base : Nat} {row : List Nat} {A : Option Addr} {l cap : Nat} (h : Rp w base gw (.slice A l cap) row) {i : Nat} (hi : i < row.length) : ∃ ad, A = some ad ∧ w.cell? (ad.add i) = some (pv (row.getD i 0)) := by
  obtain ⟨q, off, cap', cs, h1, h2, h3, h4, h5, h6, h7⟩ := h.some_ (by omega)
  injection h1 with hA _ _
  exact ⟨_, hA, by rw [add_mid', h4.cell, h7 i hi]⟩
theorem Conc.grownp {n : Nat} {row0 : List Nat} (h : Conc w0 w gd g gw n pile cs k) (r : Rp w w0.heap.size gw v row0) (gr : w.grownBy w' v.ownBlock) : Conc w0 w' gd g gw n pile cs k := by
  rcases r with ⟨rfl, rfl⟩ | ⟨q, off, cap, vs, rfl, h2, h3, h4, _⟩
  · exact h.kept ⟨gr.os, gr.tape, gr.output, gr.size, fun i hi => gr.block i hi (fun e => by cases e)⟩
  · have O : Only q w w' := ⟨gr.os, gr.tape, gr.output, gr.size, fun i hi hne => gr.block i hi (fun e => hne (by injection e))⟩
    exact h.only_lies O h4 (by decide) (by decide) (by decide) (by decide) h3 h2
theorem Cr.kept (h : Cr w0 w gd g gw v cs pile k) (b : Below w.heap.size w w') : Cr w0 w' gd g gw v cs pile k := by
  obtain ⟨⟨k', hk, C⟩, r, c⟩ := h; exact ⟨⟨k', hk, C.kept b⟩, r.below b, c⟩
theorem Cr.more (h : Cr w0 w gd g gw v cs pile k) {k2 : Nat} (hk2 : k ≤ k2) : Cr w0 w gd g gw v cs pile k2 := by
  obtain ⟨⟨k', hk, C⟩, r, c⟩ := h; exact ⟨⟨k', by omega, C⟩, r, c⟩
theorem Cr.below (h : Cr w0 w gd g gw v cs pile k) : Below w0.heap.size w0 w := by
  obtain ⟨⟨k', hk, C⟩, r, c⟩ := h; exact C.below
theorem Cr.own (h : Cr w0 w gd g gw v cs pile k) : Lies w gd 58 [.pointer (some ⟨g, 0, none⟩)] := by
  obtain ⟨⟨k', hk, C⟩, r, c⟩ := h; exact C.own
theorem Cr.far {r B : Nat} (h : Cr w0 w gd g gw v cs pile k) (ht : tot cs + r ≤ B ∨ tot cs = 0) : Far cs r B 0 := by
  obtain ⟨⟨k', hk, C⟩, _, c⟩ := h; exact C.far ht
theorem Cr.call (h : Cr w0 w gd g gw v cs pile k) (hi : i < cs.length) : ∃ gc cl, cs[i]? = some (some (gc, cl, 500 + (i : Int))) := by
  obtain ⟨gc, cl, e, _⟩ := h.cw.mem i _ (List.getElem?_eq_getElem hi)
  exact ⟨gc, cl, by rw [List.getElem?_eq_getElem hi, e]⟩
theorem Cr.ptr {A : Option Addr} {l cap gc : Nat} {cl : Cl} {x : Int} (h : Cr w0 w gd g gw (.slice A l cap) cs pile k) (hc : cs[i]? = some (some (gc, cl, x))) : ∃ ad, A = some ad ∧ w.cell? (ad.add i) = some (.pointer (some ⟨gc, 0, none⟩)) := by
  have hi : i < (cs.map blkOf).length := by rw [List.length_map]; exact (List.getElem?_eq_some_iff.1 hc).1
  obtain ⟨ad, hA, hcell⟩ := h.row.at_ hi
  refine ⟨ad, hA, ?_⟩
  rw [hcell, List.getD_eq_getElem?_getD, List.getElem?_map, hc]; rfl
/-- A step of one of the crowd. -/
theorem Cr.step {gc : Nat} {cl : Cl} {x : Int} (h : Cr w0 w gd g gw v cs pile k) (hc : cs[i]? = some (some (gc, cl, x))) (hl : cs.length ≤ 64) (hk : k ≤ 30000) :
    Calls Try.prog 16 #[.pointer (some ⟨gc, 0, none⟩)] w fun e w' => ∃ b cs' pile', e = .returned (.bool b) ∧ Cr w0 w' gd g gw v cs' pile' (k + 1) ∧ Turn cs cs' i ∧ cs'.length = cs.length := by
  by_cases hn : cl.nx = 0
  · obtain ⟨⟨k', hk', C⟩, r, c⟩ := h
    refine (step_over (C.lies hc) hn).mono ?_
    rintro e w' ⟨rfl, rfl⟩
    refine ⟨true, cs, pile, rfl, ⟨⟨k', by omega, C⟩, r, c⟩, Or.inl ⟨rfl, fun ⟨g1, c1, x1, h1, h2, _⟩ => ?_⟩, rfl⟩
    rw [hc] at h1; injection h1 with h1; injection h1 with h1; injection h1 with _ h1; injection h1 with h1 _
    rw [← h1] at h2; exact h2 hn
  · obtain ⟨⟨k', hk', C⟩, r, c⟩ := h
    refine (step_conc C hc hn (by omega)).mono ?_
    rintro e w' ⟨cl', pile', rfl, C', M, hmv, K⟩
    exact ⟨_, _, pile', rfl, ⟨⟨k' + 1, by omega, C'⟩, by rw [blk_set hc]; exact r.keptB K C (C.lies hc), c.step hc hn hl hmv M⟩, M.turn hc, by simp⟩
end
end Go.Proofs.Ytcnpbdboeaaajaa
