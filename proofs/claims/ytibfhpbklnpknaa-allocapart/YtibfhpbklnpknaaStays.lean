/- The walk of HeapStays. -/
import Derived.Test.YtibfhpbklnpknaaSteps
namespace Go.Proofs.Ytibfhpbklnpknaa
open Go.RowKit
set_option linter.unusedVariables false
set_option linter.unusedSimpArgs false

/-- What is done: its seven numbers. -/
structure Deed where
  kind : Int
  k : Int
  l : Int
  p : Int
  at_ : Int
  field : Int
  word : Int

def Deed.cells (d : Deed) : List Value := [.int .u8 d.kind, .int .i64 d.k, .int .i64 d.l, .int .i64 d.p, .int .i64 d.at_, .int .i64 d.field, .int .i64 d.word]

/-- A slice of deeds reads as a list. -/
def Deeds (w : World) (A : Option Addr) (ds : List Deed) : Prop :=
  ∀ i d, ds[i]? = some d → ∃ ad, A = some ad ∧ ad.block < w.heap.size ∧ ∀ j v, d.cells[j]? = some v → w.cell? (ad.add (i * 7 + j)) = some v

theorem Deeds.kept {w w' : World} {A : Option Addr} {ds : List Deed} (h : Deeds w A ds) (hb : Below w.heap.size w w') : Deeds w' A ds := fun i d hd => by
  obtain ⟨ad, e, hl, hc⟩ := h i d hd
  exact ⟨ad, e, Nat.lt_of_lt_of_le hl hb.size, fun j v hv => (hb.cell (by rw [block_add]; exact hl)).trans (hc j v hv)⟩

theorem add_next (a : Addr) (n j : Nat) (hj : 0 < j) : a.add (n + j) = ⟨(a.add n).block, (a.add n).off + j, none⟩ := by
  unfold Addr.add
  rw [if_neg (by omega)]
  split <;> simp_all [Nat.add_assoc]

theorem Deeds.at_ {w : World} {A : Option Addr} {ds : List Deed} (h : Deeds w A ds) {i : Nat} (hi : i < ds.length) (wr : World) (hb : Below w.heap.size w wr) :
    ∃ ad, A = some ad ∧ wr.cell? (ad.add (i * 7)) = some (.int .u8 ds[i].kind) ∧ wr.cell? ⟨(ad.add (i * 7)).block, (ad.add (i * 7)).off + 1, none⟩ = some (.int .i64 ds[i].k) ∧
      wr.cell? ⟨(ad.add (i * 7)).block, (ad.add (i * 7)).off + 2, none⟩ = some (.int .i64 ds[i].l) ∧ wr.cell? ⟨(ad.add (i * 7)).block, (ad.add (i * 7)).off + 3, none⟩ = some (.int .i64 ds[i].p) ∧
      wr.cell? ⟨(ad.add (i * 7)).block, (ad.add (i * 7)).off + 4, none⟩ = some (.int .i64 ds[i].at_) ∧ wr.cell? ⟨(ad.add (i * 7)).block, (ad.add (i * 7)).off + 5, none⟩ = some (.int .i64 ds[i].field) ∧
      wr.cell? ⟨(ad.add (i * 7)).block, (ad.add (i * 7)).off + 6, none⟩ = some (.int .i64 ds[i].word) := by
  obtain ⟨ad, e, hl, hc⟩ := (h.kept hb) i ds[i] (List.getElem?_eq_getElem hi)
  refine ⟨ad, e, hc 0 _ rfl, ?_, ?_, ?_, ?_, ?_, ?_⟩
  all_goals rw [← add_next _ _ _ (by omega)]
  · exact hc 1 _ rfl
  · exact hc 2 _ rfl
  · exact hc 3 _ rfl
  · exact hc 4 _ rfl
  · exact hc 5 _ rfl
  · exact hc 6 _ rfl

/-- Each number fits. -/
def Deed.fit (d : Deed) : Prop := (0 ≤ d.kind ∧ d.kind ≤ 255) ∧ (-9223372036854775808 ≤ d.word ∧ d.word ≤ 9223372036854775807)

theorem split_keep {obs : List Ob} {a k l p : Int} (h : (splitF obs a k l p).2.1 ≠ 0) : (splitF obs a k l p).2.2 = obs := by
  unfold splitF at h ⊢
  cases hl : look obs a with
  | none => rfl
  | some x =>
    rw [hl] at h
    simp only at h ⊢
    by_cases h1 : x.2.1.1 % 16 ≠ 15
    · rw [if_pos h1]
    · rw [if_neg h1] at h ⊢
      by_cases h2 : goodB k l p = false
      · rw [if_pos h2]
      · rw [if_neg h2] at h ⊢
        by_cases h3 : x.2.1.1 / 65536 < l
        · rw [if_pos h3]
        · rw [if_neg h3] at h ⊢
          by_cases h4 : x.2.1.1 / 65536 = l
          · rw [if_pos h4] at h; exact absurd rfl h
          · rw [if_neg h4] at h; exact absurd rfl h
theorem split_len {obs : List Ob} {a k l p : Int} (hf : Fine obs) : (flat (splitF obs a k l p).2.2).length = (flat obs).length := by
  unfold splitF
  cases hl : look obs a with
  | none => rfl
  | some x =>
    obtain ⟨pre, o, post⟩ := x
    obtain ⟨rfl, _⟩ := look_some _ _ _ hl
    have hlen := hf.right.head.2
    simp only
    split
    · rfl
    · split
      · rfl
      · next hg =>
        have hg' : goodB k l p = true := by simpa using hg
        have l0 := ((good_iff k l p).1 hg').2.2.1
        split
        · rfl
        · split
          · next h1 h2 => simp [flat_append, flat_cons, zeros, hlen, lenOf, h2]
          · next h1 h2 =>
            simp [flat_append, flat_cons, zeros, hlen, lenOf]
            omega
theorem write_keep {obs : List Ob} {a f v : Int} (h : (writeF obs a f v).1 ≠ 0) : (writeF obs a f v).2 = obs := by
  unfold writeF at h ⊢
  cases hl : look obs a with
  | none => rfl
  | some x =>
    rw [hl] at h
    simp only at h ⊢
    split
    · rfl
    · next h1 =>
      rw [if_neg h1] at h
      split
      · rfl
      · next h2 => rw [if_neg h2] at h; exact absurd rfl h
theorem write_len {obs : List Ob} {a f v : Int} : (flat (writeF obs a f v).2).length = (flat obs).length := by
  unfold writeF
  cases hl : look obs a with
  | none => rfl
  | some x =>
    obtain ⟨pre, o, post⟩ := x
    obtain ⟨rfl, _⟩ := look_some _ _ _ hl
    simp only
    split
    · rfl
    · split
      · rfl
      · simp [flat_append, flat_cons]
theorem place_nil {obs : List Ob} {k l p : Int} : ((placeF obs [] k l p).2.1 = 1 ∨ (placeF obs [] k l p).2.1 = 6) ∧ (placeF obs [] k l p).2.2.1 = obs ∧ (placeF obs [] k l p).2.2.2 = [] := by
  unfold placeF
  split
  · exact ⟨.inl rfl, rfl, rfl⟩
  · rw [if_pos (by simp; omega)]
    exact ⟨.inr rfl, rfl, rfl⟩

theorem words_n {w : World} {g gw gb : Nat} {obs : List Ob} (S : St w g gw gb obs []) (N : Nat) (hN : (flat obs).length = N) :
    Calls Try.prog 24 #[.pointer (some ⟨g, 0, none⟩)] w fun e w' => e = .returned (.slice (some ⟨w.heap.size, 0, none⟩) N N) ∧ Lies w' w.heap.size 3 ((flat obs).map (Value.int .i64)) ∧ Below w.heap.size w w' := by
  subst hN
  have := words_any S.lies
  simpa using this
theorem top_n {w : World} {g gw gb : Nat} {obs : List Ob} {tail : List Int} (S : St w g gw gb obs tail) (N : Nat) (hN : (flat obs).length = N) :
    Calls Try.prog 23 #[.pointer (some ⟨g, 0, none⟩)] w fun e w' => e = .returned (.int .i64 (N : Int)) ∧ w = w' := by
  subst hN
  exact top_any S.lies
theorem ints_n (A B : Option Addr) (c d n m : Nat) (xs ys : List Int) (w : World) (hx : Row w A xs) (hy : Row w B ys) (hn : xs.length = n) (hm : ys.length = m) (h1 : n ≤ 65536) (h2 : m ≤ 65536) (b : Bool) (hb : decide (xs = ys) = b) :
    Calls Try.prog 39 #[.slice A n c, .slice B m d] w fun e w' => e = .returned (.bool b) ∧ Below w.heap.size w w' := by
  subst hn hm hb
  exact ints_any A B c d xs ys w hx hy h1 h2

end Go.Proofs.Ytibfhpbklnpknaa
