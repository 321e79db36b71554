/- cellsOf: cells that have these words at first. A sliding in memory. New: a sliding of a heap and its marks. Over, Touches, Moved, Roots. The document's answers for layer 14: To, Word, Right. Step where there is none; the document's fixed fact. -/
import Derived.Test.YtklhdilbmpndkaaGreatGp
import Derived.Test.YtklhdilbmpndkaaGreatGr
import Derived.Test.YtklhdilbmpndkaaGreatSlF
import Derived.Test.YtklhdilbmpndkaaGreatGe
namespace Go.Proofs.YtklhdilbmpndkaaGreat
set_option maxRecDepth 20000
open Go.RowKit
set_option linter.unusedVariables false
set_option linter.unusedSimpArgs false


theorem take_set {zs : List Int} {n k : Nat} (hn : zs.length = n) (hk : k < n) : (zs.take k ++ List.replicate (n - k) 0).set k (zs.getD k 0) = zs.take (k + 1) ++ List.replicate (n - (k + 1)) 0 := by
  refine List.ext_getElem? fun i => ?_
  rw [List.getElem?_set]
  by_cases h : k = i
  · subst h
    rw [if_pos rfl, if_pos (by simp; omega), List.getElem?_append_left (by simp; omega), List.getElem?_take_of_lt (by omega)]
    simp [List.getD, show k < zs.length by omega]
  · rw [if_neg h]
    by_cases h2 : i < k
    · rw [List.getElem?_append_left (by simp; omega), List.getElem?_append_left (by simp; omega), List.getElem?_take_of_lt (by omega), List.getElem?_take_of_lt (by omega)]
    · rw [List.getElem?_append_right (by simp; omega), List.getElem?_append_right (by simp; omega)]
      simp only [List.length_take, List.getElem?_replicate]
      rw [Nat.min_eq_left (by omega), Nat.min_eq_left (by omega)]
      by_cases h3 : i < n
      · rw [if_pos (by omega), if_pos (by omega)]
      · rw [if_neg (by omega), if_neg (by omega)]
theorem did_at {w w' : World} {base g gw : Nat} {A : Option Addr} {zs zs0 : List Int} {c : Nat} {ts ts0 : List Ce.Tc} (d : Ce.Did w w' base g gw A zs ts) (h : Ce.At w base g gw zs0 A c ts0) : (∃ A' c', Ce.At w' base g gw zs A' c' ts) ∧ Below base w w' := by
  obtain ⟨A', c', h1, h2, h3⟩ := d
  exact ⟨⟨A', c', h1⟩, h.below h2⟩

set_option maxRecDepth 1000000 in
set_option maxHeartbeats 4000000 in
theorem cellsof_any {w : World} (A : Option Addr) (n c : Nat) (zs : List Int) (hr : Row w A zs) (hn : zs.length = n) (h1 : 1 ≤ n) (h2 : n ≤ 30000) :
    Calls Tryz.prog 28 #[.slice A n c] w fun e w' => ∃ g gw, e = .returned (.pointer (some ⟨g, 0, none⟩)) ∧ Ce.At w' w.heap.size g gw zs none 0 [] ∧ Below w.heap.size w w' := by
  have HR := Lib.hid hr
  have HN := Lib.hid hn
  clear hr hn
  go_enter Tryz.func28, Tryz.ntmps28
  go_wp2_with fail
  refine (Ce.new_yes n w w.heap.size (Nat.le_refl _) h1 (by omega)).mono ?_
  rintro e w1 ⟨g, gw, rfl, hb1, hg, hgw, H1⟩
  have HB1 := Lib.hid hb1
  have HA1 := Lib.hid H1
  clear hb1 H1
  go_wp2_with fail
  go_loopw [15] (fun i wr => ∃ (k : Nat) (A' : Option Addr) (c' : Nat) (ts : List Ce.Tc), k ≤ n ∧ i = .int .i64 (k : Nat) ∧ ts.length = k ∧ Ce.At wr w.heap.size g gw (zs.take k ++ List.replicate (n - k) 0) A' c' ts ∧ Below w.heap.size w wr) (fun i _ => n - (intOf i).toNat)
  case atStart => exact ⟨0, none, 0, [], Nat.zero_le _, rfl, rfl, by simpa using HA1.out, HB1.out⟩
  case round =>
    obtain ⟨k, A', c', ts, hk, rfl, hts, H, hb⟩ := hrel
    have HH := Lib.hid H
    have HB := Lib.hid hb
    clear H hb
    by_cases hlt : k < n
    · obtain ⟨ad, rfl, hcell⟩ := (HR.out.kept HB.out).at_ (i := k) (by rw [HN.out]; exact hlt)
      have k0 : (0 : Int) ≤ (k : Int) := by omega
      have k1 : (k : Int) < (n : Int) := by omega
      have HST := Lib.hid (Ce.store_yes HH.out (by omega) 0 k (zs.getD k 0) (by omega) (by omega) (by have := HN.out; simp; omega))
      rw [take_set HN.out hlt] at HST
      generalize zs.getD k 0 = z at *
      go_wp2_with fail
      refine HST.out.mono ?_
      rintro e w2 ⟨rfl, D⟩
      obtain ⟨⟨A2, c2, H2⟩, hb2⟩ := did_at D HH.out
      have HH2 := Lib.hid H2
      have HB2 := Lib.hid (HB.out.trans hb2)
      clear D H2 hb2 hcell HST
      go_wp2_with fail
      refine ⟨⟨k + 1, A2, c2, _, by omega, by go_num, ?_, HH2.out, HB2.out⟩, by simp [intOf]; omega⟩
      simp [hts]
    · obtain rfl : k = n := by omega
      go_wp2_with fail
      refine (Ce.clear_any HH.out).mono ?_
      rintro e w2 ⟨rfl, H2, E2⟩
      have HH2 := Lib.hid H2
      have HB2 := Lib.hid (HB.out.trans (E2.below HB.out.size HH.out.lo HH.out.lo' (fun k e => by cases e)))
      clear H2 E2
      go_wp2_with fail
      go_ret
      refine ⟨g, gw, rfl, ?_, HB2.out⟩
      have := HH2.out
      rw [Nat.sub_self, List.take_of_length_le (by rw [HN.out]; exact Nat.le_refl _)] at this
      simpa using this
end Go.Proofs.YtklhdilbmpndkaaGreat

namespace Go.Proofs.YtklhdilbmpndkaaGreat
set_option maxRecDepth 20000
open Go.RowKit
set_option linter.unusedVariables false
set_option linter.unusedSimpArgs false


/-- A worker's own fields. -/
structure Wk where
  next : Nat
  region : Int
  SB : Option Addr
  sc : Nat
  stays : List Int
  frm : Int
  upTo : Int
  at_ : Int
  to_ : Int
  hk : Int
  hl : Int
  hp : Int
  many : Int
  word : Int
  AB : Option Addr
  ac : Nat
  awaiting : List Int
def Wk.cells (S who : Nat) (k : Wk) : List Value := [.pointer (some ⟨S, 0, none⟩), .int .i64 (who : Nat), .func (.func k.next) #[] #[], .int .i64 k.region, .slice k.SB k.stays.length k.sc, .int .i64 k.frm, .int .i64 k.upTo, .int .i64 k.at_, .int .i64 k.to_, .int .i64 k.hk, .int .i64 k.hl, .int .i64 k.hp, .int .i64 k.many, .int .i64 k.word, .slice k.AB k.awaiting.length k.ac]
def Wk.new : Wk := ⟨30, 0, none, 0, [], 0, 0, 0, 0, 0, 0, 0, 0, 0, none, 0, []⟩

/-- Where a sliding lies, and what of it stays. -/
structure Cx where
  S : Nat
  g1 : Nat
  gw1 : Nat
  g2 : Nat
  gw2 : Nat
  sb : Nat
  bcap : Nat
  wb : Nat
  wcap : Nat
  n : Nat
  B2 : Nat
  b : Nat
  W : Nat
  K : Nat
  T : Nat
  top : Nat
  wk : Nat → Nat
  f : Nat → Bool
  obs : List Ob
  B1 : Nat
/-- Two worlds: what lay there ahead of the sliding; what lay in the blocks from B1 to B2, which no step turns. -/
structure W2 extends World where
  also : World
/-- What turns. -/
structure Ms where
  cells : List Int
  signs : List Int
  left : Int
  touches : Int
  moved : Int
  wks : Nat → Wk

/-- A slice of numbers that is read alone: its block lies behind base, if it holds something; no more of it is there than may be. -/
def Sq (w : World) (base : Nat) (A : Option Addr) (cap : Nat) (row : List Int) : Prop := row.length ≤ cap ∧ (0 < row.length → ∃ q o cs, A = some ⟨q, o, none⟩ ∧ base ≤ q ∧ Lies w q 3 cs ∧ ∀ i, i < row.length → cs[o + i]? = some (.int .i64 (row.getD i 0)))
theorem Sq.nil (w : World) (base : Nat) (A : Option Addr) (cap : Nat) : Sq w base A cap [] := ⟨Nat.zero_le _, fun h => absurd h (Nat.not_lt_zero _)⟩
theorem Sq.of_rv {w : World} {base base' : Nat} {B : Option Addr} {cap : Nat} {row : List Int} (h : Rv w base B cap row) (hb : base' ≤ base) : Sq w base' B cap row := by
  refine ⟨?_, fun h0 => ?_⟩
  · rcases h with ⟨_, rfl, rfl⟩ | ⟨q, cs, _, _, _, _, h5, _⟩
    · exact Nat.le_refl _
    · exact h5
  · obtain ⟨q, cs, h1, h2, h3, h4, h5, h6⟩ := h.some_ h0
    exact ⟨q, 0, cs, h1, Nat.le_trans hb h2, h3, fun i hi => by rw [Nat.zero_add]; exact h6 i hi⟩
theorem Sq.kept {w w' : World} {base : Nat} {A : Option Addr} {cap : Nat} {row : List Int} (h : Sq w base A cap row) (hk : ∀ b, base ≤ b → b < w.heap.size → w'.heap[b]? = w.heap[b]?) : Sq w' base A cap row := by
  refine ⟨h.1, fun h0 => ?_⟩
  obtain ⟨q, o, cs, h1, h2, h3, h4⟩ := h.2 h0
  exact ⟨q, o, cs, h1, h2, h3.of_block (hk q h2 h3.lt), h4⟩
theorem Sq.tail {w : World} {base q o cap : Nat} {x : Int} {row : List Int} (h : Sq w base (some ⟨q, o, none⟩) cap (x :: row)) (A : Option Addr) (hA : row ≠ [] → A = some ⟨q, o + 1, none⟩) : Sq w base A (cap - 1) row := by
  refine ⟨by have := h.1; simp at this; omega, fun h0 => ?_⟩
  obtain ⟨q', o', cs, h1, h2, h3, h4⟩ := h.2 (by simp)
  injection h1 with h1
  injection h1 with e1 e2
  subst e1 e2
  refine ⟨q, o + 1, cs, hA (by intro e; subst e; simp at h0), h2, h3, fun i hi => ?_⟩
  have := h4 (i + 1) (by simp; omega)
  rw [show o + 1 + i = o + (i + 1) by omega, this]
  simp [List.getD]
theorem Sq.head {w : World} {base : Nat} {A : Option Addr} {cap : Nat} {x : Int} {row : List Int} (h : Sq w base A cap (x :: row)) : ∃ q o, A = some ⟨q, o, none⟩ ∧ w.cell? ⟨q, o, none⟩ = some (.int .i64 x) ∧ q < w.heap.size ∧ base ≤ q := by
  obtain ⟨q, o, cs, h1, h2, h3, h4⟩ := h.2 (by simp)
  refine ⟨q, o, h1, ?_, h3.lt, h2⟩
  have := h4 0 (by simp)
  rw [h3.cell]; simpa using this

/-- A sliding in memory; w0 is the world behind the Forward's making. -/
structure Sl (w0 : W2) (w : World) (C : Cx) (M : Ms) : Prop where
  fo : Fo w0.toWorld C.b C.W C.K C.T C.top C.f C.obs
  old : Below w0.heap.size w0.toWorld w
  own : Lies w C.S 74 [.pointer (some ⟨C.b, 0, none⟩), .pointer (some ⟨C.g1, 0, none⟩), .pointer (some ⟨C.g2, 0, none⟩), .slice (some ⟨C.sb, 0, none⟩) (C.K + 1) C.bcap, .slice (some ⟨C.wb, 0, none⟩) C.n C.wcap, .int .i64 M.left, .int .i64 M.touches, .int .i64 M.moved]
  words : Ce.At w w0.heap.size C.g1 C.gw1 M.cells none 0 []
  signs : Ce.At w w0.heap.size C.g2 C.gw2 M.signs none 0 []
  bg : Rv w w0.heap.size (some ⟨C.sb, 0, none⟩) C.bcap (beginsL C.W (adr 0 C.obs) C.top C.K)
  wrow : ∃ cs, Lies w C.wb 78 cs ∧ ∀ i, i < C.n → cs[i]? = some (.pointer (some ⟨C.wk i, 0, none⟩))
  wks : ∀ i, i < C.n → Lies w (C.wk i) 81 ((M.wks i).cells C.S i)
  inj : ∀ i j, i < C.n → j < C.n → C.wk i = C.wk j → i = j
  rows : ∀ i, i < C.n → Sq w C.B2 (M.wks i).SB (M.wks i).sc (M.wks i).stays ∧ Sq w C.B2 (M.wks i).AB (M.wks i).ac (M.wks i).awaiting
  gg : C.g1 ≠ C.g2
  ww : C.gw1 ≠ C.gw2
  sw : C.sb ≠ C.gw1 ∧ C.sb ≠ C.gw2
  loS : w0.heap.size ≤ C.S
  low : ∀ i, i < C.n → w0.heap.size ≤ C.wk i
  hi : C.S < C.B2 ∧ C.g1 < C.B2 ∧ C.gw1 < C.B2 ∧ C.g2 < C.B2 ∧ C.gw2 < C.B2 ∧ C.sb < C.B2 ∧ C.wb < C.B2 ∧ ∀ i, i < C.n → C.wk i < C.B2
  size : C.B2 ≤ w.heap.size
  n1 : 1 ≤ C.n
  n2 : C.n ≤ 64
  hi1 : C.S < C.B1 ∧ C.g1 < C.B1 ∧ C.gw1 < C.B1 ∧ C.g2 < C.B1 ∧ C.gw2 < C.B1 ∧ C.sb < C.B1 ∧ C.wb < C.B1 ∧ ∀ i, i < C.n → C.wk i < C.B1
  hik : ∀ b, C.B1 ≤ b → b < C.B2 → w.heap[b]? = w0.also.heap[b]?
section
variable {w0 : W2} {w w' : World} {C : Cx} {M : Ms}
/-- What is new alone. -/
theorem Sl.kept (h : Sl w0 w C M) (hb : Below w.heap.size w w') : Sl w0 w' C M := by
  obtain ⟨cs, h1, h2⟩ := h.wrow
  exact ⟨h.fo, on h.old h.old.size hb, h.own.kept hb, h.words.kept hb, h.signs.kept hb, h.bg.below hb, ⟨cs, h1.kept hb, h2⟩, fun i hi => (h.wks i hi).kept hb, h.inj, fun i hi => ⟨(h.rows i hi).1.kept fun b _ hl => hb.block b hl, (h.rows i hi).2.kept fun b _ hl => hb.block b hl⟩, h.gg, h.ww, h.sw, h.loS, h.low, h.hi, Nat.le_trans h.size hb.size, h.n1, h.n2, h.hi1, fun b hB1 hB2 => (hb.block b (Nat.lt_of_lt_of_le hB2 h.size)).trans (h.hik b hB1 hB2)⟩
/-- The sliding's own block differs from a worker's, and from others of another type. -/
theorem Sl.wk_ne (h : Sl w0 w C M) {i : Nat} (hi : i < C.n) : C.wk i ≠ C.S ∧ C.wk i ≠ C.g1 ∧ C.wk i ≠ C.gw1 ∧ C.wk i ≠ C.g2 ∧ C.wk i ≠ C.gw2 ∧ C.wk i ≠ C.sb ∧ C.wk i ≠ C.wb := by
  obtain ⟨cs, h1, h2⟩ := h.wrow
  have L := h.wks i hi
  obtain ⟨q, c2, e, -, hb, -⟩ := h.bg.some_ (by simp [beginsL])
  injection e with e; injection e with e _; subst e
  exact ⟨L.apart h.own (by decide), L.apart h.words.own (by decide), L.apart h.words.words (by decide), L.apart h.signs.own (by decide), L.apart h.signs.words (by decide), L.apart hb (by decide), L.apart h1 (by decide)⟩
theorem Sl.s_ne (h : Sl w0 w C M) : C.S ≠ C.g1 ∧ C.S ≠ C.gw1 ∧ C.S ≠ C.g2 ∧ C.S ≠ C.gw2 ∧ C.S ≠ C.sb ∧ C.S ≠ C.wb := by
  obtain ⟨cs, h1, h2⟩ := h.wrow
  obtain ⟨q, c2, e, -, hb, -⟩ := h.bg.some_ (by simp [beginsL])
  injection e with e; injection e with e _; subst e
  exact ⟨h.own.apart h.words.own (by decide), h.own.apart h.words.words (by decide), h.own.apart h.signs.own (by decide), h.own.apart h.signs.words (by decide), h.own.apart hb (by decide), h.own.apart h1 (by decide)⟩
theorem Sl.c_ne (h : Sl w0 w C M) : C.g1 ≠ C.gw2 ∧ C.g2 ≠ C.gw1 ∧ C.g1 ≠ C.sb ∧ C.g2 ≠ C.sb ∧ C.wb ≠ C.g1 ∧ C.wb ≠ C.gw1 ∧ C.wb ≠ C.g2 ∧ C.wb ≠ C.gw2 ∧ C.wb ≠ C.sb := by
  obtain ⟨cs, h1, h2⟩ := h.wrow
  obtain ⟨q, c2, e, -, hb, -⟩ := h.bg.some_ (by simp [beginsL])
  injection e with e; injection e with e _; subst e
  exact ⟨h.words.own.apart h.signs.words (by decide), h.signs.own.apart h.words.words (by decide), h.words.own.apart hb (by decide), h.signs.own.apart hb (by decide), h1.apart h.words.own (by decide), h1.apart h.words.words (by decide), h1.apart h.signs.own (by decide), h1.apart h.signs.words (by decide), h1.apart hb (by decide)⟩
theorem Sl.bg_block (h : Sl w0 w C M) (e : ∀ k, k = C.sb → w'.heap[k]? = w.heap[k]?) : Rv w' w0.heap.size (some ⟨C.sb, 0, none⟩) C.bcap (beginsL C.W (adr 0 C.obs) C.top C.K) :=
  h.bg.kept fun b cs hb hl => hl.of_block (e b (by simpa [blk] using hb.symm))
theorem ce_block {base g gw : Nat} {zs : List Int} (h : Ce.At w base g gw zs none 0 []) (e1 : w'.heap[g]? = w.heap[g]?) (e2 : w'.heap[gw]? = w.heap[gw]?) : Ce.At w' base g gw zs none 0 [] :=
  ⟨h.own.of_block e1, h.words.of_block e2, World.ownsRow_nil _ _ _ _, h.some_, h.most, h.lo, h.lo'⟩
/-- The heap's cells are touched. -/
theorem Sl.else1 (h : Sl w0 w C M) (he : Ce.Else C.g1 C.gw1 none w w') {zs : List Int} (ha : Ce.At w' w0.heap.size C.g1 C.gw1 zs none 0 []) : Sl w0 w' C { M with cells := zs } := by
  obtain ⟨cs, h1, h2⟩ := h.wrow
  have hs := h.s_ne
  have hc := h.c_ne
  have hb : ∀ k, k < w.heap.size → k ≠ C.g1 → k ≠ C.gw1 → w'.heap[k]? = w.heap[k]? := fun k hk h1 h2 => he.block k hk h1 h2 (by simp)
  have hh := h.hi
  exact ⟨h.fo, h.old.trans (he.below h.old.size h.words.lo h.words.lo' (fun k e => by cases e)), h.own.of_block (hb _ h.own.lt hs.1 hs.2.1), ha, ce_block h.signs (hb _ h.signs.own.lt h.gg.symm hc.2.1) (hb _ h.signs.words.lt hc.1.symm h.ww.symm),
    h.bg_block fun k e => hb k (by rw [e]; have := h.size; omega) (by rw [e]; exact hc.2.2.1.symm) (by rw [e]; exact h.sw.1), ⟨cs, h1.of_block (hb _ h1.lt hc.2.2.2.2.1 hc.2.2.2.2.2.1), h2⟩, fun i hi => (h.wks i hi).of_block (hb _ (h.wks i hi).lt (h.wk_ne hi).2.1 (h.wk_ne hi).2.2.1), h.inj,
    fun i hi => ⟨(h.rows i hi).1.kept fun b hb2 hl => hb b hl (by omega) (by omega), (h.rows i hi).2.kept fun b hb2 hl => hb b hl (by omega) (by omega)⟩, h.gg, h.ww, h.sw, h.loS, h.low, h.hi, Nat.le_trans h.size he.size, h.n1, h.n2, h.hi1, fun b hB1 hB2 => (hb b (Nat.lt_of_lt_of_le hB2 h.size) (by have := h.hi1; omega) (by have := h.hi1; omega)).trans (h.hik b hB1 hB2)⟩
/-- The workers' cells are touched. -/
theorem Sl.else2 (h : Sl w0 w C M) (he : Ce.Else C.g2 C.gw2 none w w') {zs : List Int} (ha : Ce.At w' w0.heap.size C.g2 C.gw2 zs none 0 []) : Sl w0 w' C { M with signs := zs } := by
  obtain ⟨cs, h1, h2⟩ := h.wrow
  have hs := h.s_ne
  have hc := h.c_ne
  have hb : ∀ k, k < w.heap.size → k ≠ C.g2 → k ≠ C.gw2 → w'.heap[k]? = w.heap[k]? := fun k hk h1 h2 => he.block k hk h1 h2 (by simp)
  have hh := h.hi
  exact ⟨h.fo, h.old.trans (he.below h.old.size h.signs.lo h.signs.lo' (fun k e => by cases e)), h.own.of_block (hb _ h.own.lt hs.2.2.1 hs.2.2.2.1), ce_block h.words (hb _ h.words.own.lt h.gg hc.1) (hb _ h.words.words.lt hc.2.1.symm h.ww), ha,
    h.bg_block fun k e => hb k (by rw [e]; have := h.size; omega) (by rw [e]; exact hc.2.2.2.1.symm) (by rw [e]; exact h.sw.2), ⟨cs, h1.of_block (hb _ h1.lt hc.2.2.2.2.2.2.1 hc.2.2.2.2.2.2.2.1), h2⟩, fun i hi => (h.wks i hi).of_block (hb _ (h.wks i hi).lt (h.wk_ne hi).2.2.2.1 (h.wk_ne hi).2.2.2.2.1), h.inj,
    fun i hi => ⟨(h.rows i hi).1.kept fun b hb2 hl => hb b hl (by omega) (by omega), (h.rows i hi).2.kept fun b hb2 hl => hb b hl (by omega) (by omega)⟩, h.gg, h.ww, h.sw, h.loS, h.low, h.hi, Nat.le_trans h.size he.size, h.n1, h.n2, h.hi1, fun b hB1 hB2 => (hb b (Nat.lt_of_lt_of_le hB2 h.size) (by have := h.hi1; omega) (by have := h.hi1; omega)).trans (h.hik b hB1 hB2)⟩
/-- The sliding's own numbers are turned. -/
theorem Sl.setS (h : Sl w0 w C M) (i : Nat) (u : Value) (l t m : Int) (he : ([.pointer (some ⟨C.b, 0, none⟩), .pointer (some ⟨C.g1, 0, none⟩), .pointer (some ⟨C.g2, 0, none⟩), .slice (some ⟨C.sb, 0, none⟩) (C.K + 1) C.bcap, .slice (some ⟨C.wb, 0, none⟩) C.n C.wcap, .int .i64 M.left, .int .i64 M.touches, .int .i64 M.moved] : List Value).set i u = [.pointer (some ⟨C.b, 0, none⟩), .pointer (some ⟨C.g1, 0, none⟩), .pointer (some ⟨C.g2, 0, none⟩), .slice (some ⟨C.sb, 0, none⟩) (C.K + 1) C.bcap, .slice (some ⟨C.wb, 0, none⟩) C.n C.wcap, .int .i64 l, .int .i64 t, .int .i64 m]) :
    Sl w0 (w.setCell ⟨C.S, i, none⟩ u) C { M with left := l, touches := t, moved := m } := by
  obtain ⟨cs, h1, h2⟩ := h.wrow
  have hs := h.s_ne
  have hb : ∀ k, k ≠ C.S → (w.setCell ⟨C.S, i, none⟩ u).heap[k]? = w.heap[k]? := fun k hk => Below.heap_setCell w ⟨C.S, i, none⟩ u k hk
  have hh := h.hi
  refine ⟨h.fo, h.old.setCell (p := ⟨C.S, i, none⟩) h.loS _, ?_, ce_block h.words (hb _ hs.1.symm) (hb _ hs.2.1.symm), ce_block h.signs (hb _ hs.2.2.1.symm) (hb _ hs.2.2.2.1.symm), h.bg_block fun k e => hb k (by rw [e]; exact hs.2.2.2.2.1.symm), ⟨cs, h1.of_block (hb _ hs.2.2.2.2.2.symm), h2⟩, fun j hj => (h.wks j hj).of_block (hb _ (h.wk_ne hj).1), h.inj,
    fun i hi => ⟨(h.rows i hi).1.kept fun b hb2 hl => hb b (by omega), (h.rows i hi).2.kept fun b hb2 hl => hb b (by omega)⟩, h.gg, h.ww, h.sw, h.loS, h.low, h.hi, by simpa using h.size, h.n1, h.n2, h.hi1, fun b hB1 hB2 => (hb b (by have := h.hi1; omega)).trans (h.hik b hB1 hB2)⟩
  have := h.own.set i u
  rw [he] at this; exact this
/-- A worker's own field is turned. -/
theorem Sl.setW (h : Sl w0 w C M) {j : Nat} (hj : j < C.n) (i : Nat) (u : Value) (k : Wk) (he : ((M.wks j).cells C.S j).set i u = k.cells C.S j) (hr : Sq w C.B2 k.SB k.sc k.stays ∧ Sq w C.B2 k.AB k.ac k.awaiting) :
    Sl w0 (w.setCell ⟨C.wk j, i, none⟩ u) C { M with wks := fun x => if x = j then k else M.wks x } := by
  obtain ⟨cs, h1, h2⟩ := h.wrow
  obtain ⟨n1, n2, n3, n4, n5, n6, n7⟩ := h.wk_ne hj
  have hb : ∀ k, k ≠ C.wk j → (w.setCell ⟨C.wk j, i, none⟩ u).heap[k]? = w.heap[k]? := fun k hk => Below.heap_setCell w ⟨C.wk j, i, none⟩ u k hk
  have hjB := h.hi.2.2.2.2.2.2.2 j hj
  refine ⟨h.fo, h.old.setCell (p := ⟨C.wk j, i, none⟩) (h.low j hj) _, h.own.of_block (hb _ n1.symm), ce_block h.words (hb _ n2.symm) (hb _ n3.symm), ce_block h.signs (hb _ n4.symm) (hb _ n5.symm), h.bg_block fun k e => hb k (by rw [e]; exact n6.symm), ⟨cs, h1.of_block (hb _ n7.symm), h2⟩, fun x hx => ?_, h.inj, fun x hx => ?_, h.gg, h.ww, h.sw, h.loS, h.low, h.hi, by simpa using h.size, h.n1, h.n2, h.hi1, fun b hB1 hB2 => (hb b (by have := h.hi1.2.2.2.2.2.2.2 j hj; omega)).trans (h.hik b hB1 hB2)⟩
  · by_cases e : x = j
    · subst e
      simp only [if_true]
      have := h.wks x hx |>.set i u
      rw [he] at this; exact this
    · simp only [if_neg e]
      exact (h.wks x hx).of_block (hb _ fun e2 => e (h.inj x j hx hj e2))
  · by_cases e : x = j
    · subst e
      simp only [if_true]
      exact ⟨hr.1.kept fun b hb2 _ => hb b (by omega), hr.2.kept fun b hb2 _ => hb b (by omega)⟩
    · simp only [if_neg e]
      exact ⟨(h.rows x hx).1.kept fun b hb2 _ => hb b (by omega), (h.rows x hx).2.kept fun b hb2 _ => hb b (by omega)⟩
/-- What no step turns is taken down anew. -/
theorem Sl.rebase (h : Sl w0 w C M) : Sl ⟨w0.toWorld, w⟩ w C M :=
  ⟨h.fo, h.old, h.own, h.words, h.signs, h.bg, h.wrow, h.wks, h.inj, h.rows, h.gg, h.ww, h.sw, h.loS, h.low, h.hi, h.size, h.n1, h.n2, h.hi1, fun _ _ _ => rfl⟩
/-- What was made meanwhile comes under what no step turns: as long as no worker has a row. -/
theorem Sl.lift (h : Sl w0 w C M) (hb : Below w.heap.size w w') (hr : ∀ i, (M.wks i).SB = none ∧ (M.wks i).sc = 0 ∧ (M.wks i).stays = [] ∧ (M.wks i).AB = none ∧ (M.wks i).ac = 0 ∧ (M.wks i).awaiting = []) : Sl ⟨w0.toWorld, w'⟩ w' { C with B1 := w.heap.size, B2 := w'.heap.size } M := by
  have k := h.kept hb
  have hh := h.hi
  have hs := Nat.le_trans h.size hb.size
  have hz := h.size
  refine ⟨k.fo, k.old, k.own, k.words, k.signs, k.bg, k.wrow, k.wks, k.inj, fun i hi => ?_, k.gg, k.ww, k.sw, k.loS, k.low, ?_, Nat.le_refl _, k.n1, k.n2, ?_, fun _ _ _ => rfl⟩
  · obtain ⟨e1, e2, e3, e4, e5, e6⟩ := hr i
    rw [e1, e2, e3, e4, e5, e6]
    exact ⟨Sq.nil _ _ _ _, Sq.nil _ _ _ _⟩
  · exact ⟨by show C.S < w'.heap.size; omega, by show C.g1 < w'.heap.size; omega, by show C.gw1 < w'.heap.size; omega, by show C.g2 < w'.heap.size; omega, by show C.gw2 < w'.heap.size; omega, by show C.sb < w'.heap.size; omega, by show C.wb < w'.heap.size; omega, fun i hi => by have := hh.2.2.2.2.2.2.2 i hi; show C.wk i < w'.heap.size; omega⟩
  · exact ⟨by show C.S < w.heap.size; omega, by show C.g1 < w.heap.size; omega, by show C.gw1 < w.heap.size; omega, by show C.g2 < w.heap.size; omega, by show C.gw2 < w.heap.size; omega, by show C.sb < w.heap.size; omega, by show C.wb < w.heap.size; omega, fun i hi => by have := hh.2.2.2.2.2.2.2 i hi; show C.wk i < w.heap.size; omega⟩
/-- What no step turns, others may turn. -/
theorem Sl.off (h : Sl w0 w C M) (p : Addr) (hp1 : C.B1 ≤ p.block) (hp2 : p.block < C.B2) (u : Value) : Sl ⟨w0.toWorld, w.setCell p u⟩ (w.setCell p u) C M := by
  obtain ⟨cs, h1, h2⟩ := h.wrow
  have hb : ∀ k, k ≠ p.block → (w.setCell p u).heap[k]? = w.heap[k]? := fun k hk => Below.heap_setCell w p u k hk
  have hh := h.hi1
  refine ⟨h.fo, h.old.setCell (p := p) (by have := h.loS; omega) _, h.own.of_block (hb _ (by omega)), ce_block h.words (hb _ (by omega)) (hb _ (by omega)), ce_block h.signs (hb _ (by omega)) (hb _ (by omega)), h.bg_block fun k e => hb k (by rw [e]; omega), ⟨cs, h1.of_block (hb _ (by omega)), h2⟩, fun i hi => (h.wks i hi).of_block (hb _ (by have := hh.2.2.2.2.2.2.2 i hi; omega)), h.inj, fun i hi => ⟨(h.rows i hi).1.kept fun b hb2 _ => hb b (by omega), (h.rows i hi).2.kept fun b hb2 _ => hb b (by omega)⟩, h.gg, h.ww, h.sw, h.loS, h.low, h.hi, by simpa using h.size, h.n1, h.n2, h.hi1, fun _ _ _ => rfl⟩
end
end Go.Proofs.YtklhdilbmpndkaaGreat

namespace Go.Proofs.YtklhdilbmpndkaaGreat
set_option maxRecDepth 20000
open Go.RowKit
set_option linter.unusedVariables false
set_option linter.unusedSimpArgs false


theorem ce_wider {w : World} {base base' g gw : Nat} {zs : List Int} (h : Ce.At w base g gw zs none 0 []) (hb : base' ≤ base) : Ce.At w base' g gw zs none 0 [] :=
  ⟨h.own, h.words, World.ownsRow_nil _ _ _ _, h.some_, h.most, Nat.le_trans hb h.lo, Nat.le_trans hb h.lo'⟩
theorem kdiv_half {top W K : Nat} (hW : 2 ≤ W) (hK : K = (top + W - 1) / W) : K ≤ (top + 1) / 2 := by
  have h1 : K * W ≤ top + W - 1 := by rw [hK]; exact Nat.div_mul_le_self _ _
  rcases Nat.eq_zero_or_pos K with h | h
  · omega
  · obtain ⟨j, rfl⟩ : ∃ j, K = j + 1 := ⟨K - 1, by omega⟩
    rw [Nat.add_mul, Nat.one_mul] at h1
    have h2 := Nat.mul_le_mul_left j hW
    omega
set_option maxRecDepth 100000 in
theorem info_100 : ∃ i z, Tryz.prog.info? 78 = some i ∧ i.zero = some z ∧ i.size = 1 ∧ i.bytes = 8 ∧ z.cells.size = 1 := ⟨_, _, rfl, rfl, rfl, rfl, rfl⟩

/-- The regions' size that New takes. -/
def wOf (z : Int) : Nat := if z < 2 then 2 else if 65536 < z then 65536 else z.toNat
theorem wOf_le (z : Int) : 2 ≤ wOf z ∧ wOf z ≤ 65536 := by unfold wOf; split <;> (try split) <;> omega
theorem wOf_int (z : Int) : ((wOf z : Nat) : Int) = if (if z < 2 then 2 else z) < 1 then 1 else if 65536 < (if z < 2 then 2 else z) then 65536 else (if z < 2 then 2 else z) := by
  unfold wOf
  repeat' split
  all_goals omega
def Ms.new (zs : List Int) (sg : List Int) (top : Nat) : Ms := ⟨zs, sg, (top : Int), 0, 0, fun _ => Wk.new⟩

set_option maxRecDepth 100000 in
set_option maxHeartbeats 1000000 in
theorem snew_range {w : World} (g mg : Nat) (z n : Int) (h : n < 1 ∨ 64 < n) :
    Calls Tryz.prog 7 #[.pointer (some ⟨g, 0, none⟩), .pointer (some ⟨mg, 0, none⟩), .int .i64 z, .int .i64 n] w fun e w' => e = .returned (.tuple #[.pointer none, .int .i64 1]) ∧ Below w.heap.size w w' := by
  by_cases h1 : n < 1
  · have d0 : decide (n < 1) = true := by simp [h1]
    go_enter Tryz.func7, Tryz.ntmps7
    go_wp2
    go_ret2
    exact ⟨rfl, Below.refl _ _⟩
  · have d0 : decide (n < 1) = false := by simp [h1]
    have d1 : decide (64 < n) = true := by simp; omega
    go_enter Tryz.func7, Tryz.ntmps7
    go_wp2
    go_ret2
    exact ⟨rfl, Below.refl _ _⟩

theorem Row.of_rv {w : World} {base : Nat} {B : Option Addr} {cap : Nat} {row : List Int} (h : Rv w base B cap row) : Row w B row := fun h0 => by
  obtain ⟨q, cs, rfl, -, h3, -, -, h6⟩ := h.some_ h0
  refine ⟨_, rfl, h3.lt, fun j v hv => ?_⟩
  have hj : j < row.length := by have := (List.getElem?_eq_some_iff.1 hv).1; simpa using this
  rw [add_at, h3.cell, h6 j hj, ← hv]
  simp [List.getD, hj]
theorem own_form {w : World} {base e n size : Nat} {v : Value} {xs : List Value} (h : w.ownsRow base e size v n xs) (hn : 0 < n) : ∃ gq cap cur, v = .slice (some ⟨gq, 0, none⟩) n cap ∧ base ≤ gq ∧ Lies w gq e cur ∧ ∀ i, i < n * size → cur[i]? = xs[i]? := by
  rcases h.2 with ⟨e, h0⟩ | ⟨g, cap, cur, e, hg, hh, h1, h2, h3, h4⟩
  · omega
  · refine ⟨g, cap, cur.toList, e, hg, by unfold Lies; simpa using hh, fun i hi => ?_⟩
    rw [← h4, List.getElem?_take, if_pos hi]
/-- The workers so far: their blocks, one behind the other, in a row of pointers. -/
structure Mw (w9 wr : World) (S K bcap b g1 g2 sb top : Nat) (bl : List Nat) (v : Value) : Prop where
  else_ : Ce.Else S S none w9 wr
  own : Lies wr S 74 [.pointer (some ⟨b, 0, none⟩), .pointer (some ⟨g1, 0, none⟩), .pointer (some ⟨g2, 0, none⟩), .slice (some ⟨sb, 0, none⟩) (K + 1) bcap, v, .int .i64 (top : Nat), .int .i64 0, .int .i64 0]
  row : wr.ownsRow w9.heap.size 78 1 v bl.length (bl.map fun x => Value.pointer (some ⟨x, 0, none⟩))
  wks : ∀ i x, bl[i]? = some x → Lies wr x 81 (Wk.new.cells S i) ∧ w9.heap.size ≤ x
  nodup : bl.Nodup
set_option maxRecDepth 1000000 in
set_option maxHeartbeats 4000000 in
theorem snew_any {w : World} {g gw gb mg mw N : Nat} {obs : List Ob} {tail : List Int} {ws : List Nat} (St0 : St w g gw gb obs tail) (M : Mk.At w mg mw N ws) (z : Int) (n W K top : Nat) (hW : wOf z = W) (ht : (flat obs).length = top) (hK : K = (top + W - 1) / W) (hz : InR z) (hn1 : 1 ≤ n) (hn2 : n ≤ 64) (hin : ∀ o ∈ obs, ∀ z ∈ o.2, InR z) (hsz : (flat obs ++ tail).length ≤ 20000) :
    Calls Tryz.prog 7 #[.pointer (some ⟨g, 0, none⟩), .pointer (some ⟨mg, 0, none⟩), .int .i64 z, .int .i64 (n : Nat)] w fun e w' => (rightB (Mk.bit ws) (adr 0 obs) = false → e = .returned (.tuple #[.pointer none, .int .i64 5])) ∧ (rightB (Mk.bit ws) (adr 0 obs) = true → ∃ (w0 : W2) (C : Cx), e = .returned (.tuple #[.pointer (some ⟨C.S, 0, none⟩), .int .i64 0]) ∧ Sl w0 w' C (Ms.new (flat obs ++ tail) (sgL (Mk.bit ws) W K (adr 0 obs) (adr 0 obs)) top) ∧ C.n = n ∧ C.W = W ∧ C.K = K ∧ C.top = top ∧ C.f = Mk.bit ws ∧ C.obs = obs ∧ w.heap.size ≤ w0.heap.size) ∧ Below w.heap.size w w' := by
  have hW2 := wOf_le z
  rw [hW] at hW2
  have hW' := wOf_int z
  rw [hW] at hW'
  have htop : top ≤ 20000 := by rw [List.length_append] at hsz; omega
  have hKh := kdiv_half hW2.1 hK
  have hz' : InR (if z < 2 then 2 else z) := by unfold InR at hz ⊢; split <;> omega
  have HNEW := Lib.hid (new_any St0 M (if z < 2 then 2 else z) W K top hW' ht hK hz')
  have HST := Lib.hid St0
  have HT := Lib.hid ht
  have HK := Lib.hid hK
  have HIN := Lib.hid hin
  have d0 : decide ((n : Int) < 1) = false := by simp; omega
  have d1 : decide (64 < (n : Int)) = false := by simp; omega
  have hwl : wOf z = W := hW
  clear St0 M ht hK hin hW' hW hz hz'
  obtain ⟨zm, hzm⟩ : ∃ zm, (if z < 2 then 2 else z) = zm := ⟨_, rfl⟩
  rw [hzm] at HNEW
  have hmaxE : (if z < 2 then (2 : Int) else z) = zm := hzm
  go_enter Tryz.func7, Tryz.ntmps7
  go_wp2_with fail
  refine HNEW.out.mono ?_
  rintro e w2 ⟨b, q, a, base, l, T, rfl, hF, hT, hb2⟩
  have hFo : Fo w2 b W K T top (Mk.bit ws) obs := ⟨⟨q, a, base, l, hF⟩, hT, by omega, hW2.2, HK.out, HT.out, by omega⟩
  have HFo := Lib.hid hFo
  have HB2 := Lib.hid hb2
  have hblt := hF.own.lt
  clear hF hT hb2 hFo HNEW
  go_wp2_with fail
  refine (top_n (HST.out.kept HB2.out) top HT.out).mono ?_
  rintro e w3 ⟨rfl, rfl⟩
  have LS : Lies (w2.alloc (.cells #[.pointer (some ⟨b, 0, none⟩), .pointer none, .pointer none, .slice none 0 0, .slice none 0 0, .int .i64 (top : Nat), .int .i64 0, .int .i64 0] 74)) w2.heap.size 74 [.pointer (some ⟨b, 0, none⟩), .pointer none, .pointer none, .slice none 0 0, .slice none 0 0, .int .i64 (top : Nat), .int .i64 0, .int .i64 0] := Lies.new w2 74 [_, _, _, _, _, _, _, _]
  have b3 := below_one w2 (.cells #[.pointer (some ⟨b, 0, none⟩), .pointer none, .pointer none, .slice none 0 0, .slice none 0 0, .int .i64 (top : Nat), .int .i64 0, .int .i64 0] 74)
  go_upto_region 4 with fail
  obtain ⟨w3, hw3⟩ : ∃ w3, w2.alloc (.cells #[.pointer (some ⟨b, 0, none⟩), .pointer none, .pointer none, .slice none 0 0, .slice none 0 0, .int .i64 (top : Nat), .int .i64 0, .int .i64 0] 74) = w3 := ⟨_, rfl⟩
  obtain ⟨S, hS⟩ : ∃ S, w2.heap.size = S := ⟨_, rfl⟩
  have s3 : w3.heap.size = S + 1 := by rw [← hw3, ← hS]; simp
  rw [hw3] at LS b3 ⊢
  rw [hS] at LS ⊢
  have HS := Lib.hid hS
  have HLS := Lib.hid LS
  have HB3 := Lib.hid b3
  have HS3 := Lib.hid s3
  have HSG := Lib.hid (signs_any (HST.out.kept (on HB2.out HB2.out.size b3)) (HFo.out.kept b3) S (fun V hV => (LS.kept hV).cell 0) HIN.out (by omega))
  clear hw3 hS LS b3 s3
  go_wp2_with fail
  refine HSG.out.mono ?_
  rintro e w4 ⟨B4, cap4, rfl, hR4, hb4⟩
  have HB4 := Lib.hid hb4
  clear HSG hb4
  cases hr : rightB (Mk.bit ws) (adr 0 obs) with
  | false =>
    have HB5 := Lib.hid (on (on HB2.out HB2.out.size HB3.out) (on HB2.out HB2.out.size HB3.out).size HB4.out)
    clear hR4
    simp only [Bool.false_eq_true, if_false]
    go_wp2_with fail
    go_ret2
    exact ⟨fun _ => rfl, fun h => absurd (hr.symm.trans h) (by simp), HB5.out⟩
  | true =>
    have HR4 := Lib.hid (hR4 hr)
    have HST4 := Lib.hid ((HST.out.kept HB2.out).kept HB3.out |>.kept HB4.out)
    have LS4 := HLS.out.kept HB4.out
    have HLS4 := Lib.hid LS4
    clear hR4
    simp only [if_true]
    go_wp2_with fail
    refine (words_any HST4.out.lies).mono ?_
    rintro e w5 ⟨rfl, hL5, hb5⟩
    have hzl : 1 ≤ (flat obs ++ tail).length := HST4.out.lies.some_
    obtain ⟨zs, hzs⟩ : ∃ zs, flat obs ++ tail = zs := ⟨_, rfl⟩
    rw [hzs] at hL5 hsz hzl ⊢
    obtain ⟨N1, hN1⟩ : ∃ N1, zs.length = N1 := ⟨_, rfl⟩
    rw [hN1] at hsz hzl ⊢
    have HN1 := Lib.hid hN1
    have HZS := Lib.hid hzs
    have HB5 := Lib.hid (on HB4.out HB4.out.size hb5)
    have HB45 := Lib.hid hb5
    have HRow := Lib.hid (Row.of_lies hL5)
    clear hL5 hb5 hzs hN1
    go_wp2_with fail
    refine (cellsof_any _ N1 N1 zs HRow.out HN1.out hzl (by omega)).mono ?_
    rintro e w6 ⟨g1, gw1, rfl, hA6, hb6⟩
    have HA6 := Lib.hid hA6
    have HB6 := Lib.hid hb6
    have HC6 := Lib.hid (on HB5.out HB5.out.size hb6)
    have hsl : (sgL (Mk.bit ws) W K (adr 0 obs) (adr 0 obs)).length = K + 1 := sg_len _ _ _ _ _
    have HSL := Lib.hid hsl
    have HR6 := Lib.hid (HR4.out.below (on HB45.out HB45.out.size HB6.out))
    clear hA6 hb6 hsl
    go_wp2_with fail
    refine (cellsof_any B4 (K + 1) cap4 _ (Row.of_rv HR6.out) HSL.out (by omega) (by omega)).mono ?_
    rintro e w7 ⟨g2, gw2, rfl, hA7, hb7⟩
    have HA7 := Lib.hid hA7
    have HB7 := Lib.hid hb7
    have HC7 := Lib.hid (on HB45.out HB45.out.size (on HB6.out HB6.out.size hb7))
    clear hA7 hb7
    go_wp2_with fail
    obtain ⟨qq, hFq⟩ := fq_of (((HFo.out.kept HB3.out).kept HB4.out).kept HC7.out)
    have hLS7 := HLS4.out.kept HC7.out
    have HLS7 := Lib.hid hLS7
    refine (begins_any (HST4.out.kept HC7.out) hFq S (fun V hV => (hLS7.kept hV).cell 0) HT.out (by omega) (by omega) HK.out (by omega)).mono ?_
    rintro e w8 ⟨B8, bcap, rfl, hR8, hb8⟩
    obtain ⟨sb, cs8, rfl, hsb, hL8, -, -, -⟩ := hR8.some_ (by simp [beginsL])
    have HR8 := Lib.hid hR8
    have HB8 := Lib.hid hb8
    have hLS8 := hLS7.kept hb8
    have l0 : w8.cell? ⟨S, 1, none⟩ = some (.pointer none) := hLS8.cell 1
    have l1 : w8.cell? ⟨S, 2, none⟩ = some (.pointer none) := hLS8.cell 2
    have l2 : w8.cell? ⟨S, 3, none⟩ = some (.slice none 0 0) := hLS8.cell 3
    have f0 := hLS8.frozen 1
    have f1 := hLS8.frozen 2
    have f2 := hLS8.frozen 3
    have hSlt := hLS8.lt
    have HLS8 := Lib.hid hLS8
    have hsz4 := HB4.out.size
    have hsz7 := HC7.out.size
    have hsz8 := hb8.size
    have hs3 := HS3.out
    have hgw1 : w5.heap.size ≤ gw1 ∧ w5.heap.size ≤ g1 ∧ gw1 < w6.heap.size ∧ g1 < w6.heap.size := ⟨HA6.out.lo', HA6.out.lo, HA6.out.words.lt, HA6.out.own.lt⟩
    have hgw2 : w6.heap.size ≤ gw2 ∧ w6.heap.size ≤ g2 ∧ gw2 < w7.heap.size ∧ g2 < w7.heap.size := ⟨HA7.out.lo', HA7.out.lo, HA7.out.words.lt, HA7.out.own.lt⟩
    have hsz6 := HB6.out.size
    have hsz7' := HB7.out.size
    have hsbl := hL8.lt
    have HL8 := Lib.hid hL8
    have h45 := HB45.out.size
    clear hR8 hb8 hLS7 hLS8 hFq hL8
    go_wp2_with fail
    obtain ⟨w9, hw9⟩ : ∃ w9, ((w8.setCell ⟨S, 1, none⟩ (.pointer (some ⟨g1, 0, none⟩))).setCell ⟨S, 2, none⟩ (.pointer (some ⟨g2, 0, none⟩))).setCell ⟨S, 3, none⟩ (.slice (some ⟨sb, 0, none⟩) (K + 1) bcap) = w9 := ⟨_, rfl⟩
    have LS9 : Lies w9 S 74 [.pointer (some ⟨b, 0, none⟩), .pointer (some ⟨g1, 0, none⟩), .pointer (some ⟨g2, 0, none⟩), .slice (some ⟨sb, 0, none⟩) (K + 1) bcap, .slice none 0 0, .int .i64 (top : Nat), .int .i64 0, .int .i64 0] := by
      rw [← hw9]; exact ((HLS8.out.set 1 _).set 2 _).set 3 _
    have e9 : ∀ k, k ≠ S → w9.heap[k]? = w8.heap[k]? := fun k hk => by
      rw [← hw9, Below.heap_setCell _ ⟨S, 3, none⟩ _ k hk, Below.heap_setCell _ ⟨S, 2, none⟩ _ k hk, Below.heap_setCell _ ⟨S, 1, none⟩ _ k hk]
    have s9 : w9.heap.size = w8.heap.size := by rw [← hw9]; simp
    have b9 : ∀ B, B ≤ S → Below B w8 w9 := fun B hB => by
      rw [← hw9]
      exact (((Below.refl B w8).setCell (p := ⟨S, 1, none⟩) hB _).setCell (p := ⟨S, 2, none⟩) hB _).setCell (p := ⟨S, 3, none⟩) hB _
    rw [hw9]
    have HE9 := Lib.hid e9
    have HBB9 := Lib.hid b9
    have HLS9 := Lib.hid LS9
    have HSZ9 := Lib.hid s9
    have hSS := HS.out
    clear hw9 LS9 e9 b9 s9 l0 l1 l2 f0 f1 f2
    go_loopw [56] (fun i wr => ∃ (k : Nat) (bl : List Nat) (v : Value), k ≤ n ∧ i = .int .i64 (k : Nat) ∧ bl.length = k ∧ Mw w9 wr S K bcap b g1 g2 sb top bl v) (fun i _ => n - (intOf i).toNat)
    case atStart => exact ⟨0, [], .slice none 0 0, Nat.zero_le _, rfl, rfl, Ce.Else.refl _ _ _ _, HLS9.out, World.ownsRow_nil _ _ _ _, fun i x h => by simp at h, List.nodup_nil⟩
    case round =>
      obtain ⟨k, bl, v, hk, rfl, hbl, hM⟩ := hrel
      have HM := Lib.hid hM
      have HBL := Lib.hid hbl
      clear hM hbl
      by_cases hlt : k < n
      · have v4 : wr.cell? ⟨S, 4, none⟩ = some v := HM.out.own.cell 4
        have v5 := HM.out.own.frozen 4
        have v6 := HM.out.own.lt
        obtain ⟨i0, z0, hi, hz, hs, hby, hzc⟩ := info_100
        have bA := below_one wr (.cells #[.pointer (some ⟨S, 0, none⟩), .int .i64 (k : Nat), .func (.func 30) #[] #[], .int .i64 0, .slice none 0 0, .int .i64 0, .int .i64 0, .int .i64 0, .int .i64 0, .int .i64 0, .int .i64 0, .int .i64 0, .int .i64 0, .int .i64 0, .slice none 0 0] 81)
        have LN : Lies (wr.alloc (.cells #[.pointer (some ⟨S, 0, none⟩), .int .i64 (k : Nat), .func (.func 30) #[] #[], .int .i64 0, .slice none 0 0, .int .i64 0, .int .i64 0, .int .i64 0, .int .i64 0, .int .i64 0, .int .i64 0, .int .i64 0, .int .i64 0, .int .i64 0, .slice none 0 0] 81)) wr.heap.size 81 (Wk.new.cells S k) := Lies.new wr 81 (Wk.new.cells S k)
        obtain ⟨wA, hwA⟩ : ∃ wA, wr.alloc (.cells #[.pointer (some ⟨S, 0, none⟩), .int .i64 (k : Nat), .func (.func 30) #[] #[], .int .i64 0, .slice none 0 0, .int .i64 0, .int .i64 0, .int .i64 0, .int .i64 0, .int .i64 0, .int .i64 0, .int .i64 0, .int .i64 0, .int .i64 0, .slice none 0 0] 81) = wA := ⟨_, rfl⟩
        have sA : wA.heap.size = wr.heap.size + 1 := by rw [← hwA]; simp
        rw [hwA] at bA LN
        have bB := below_one wA (.cells #[.pointer (some ⟨wr.heap.size, 0, none⟩)] 78)
        have LB : Lies (wA.alloc (.cells #[.pointer (some ⟨wr.heap.size, 0, none⟩)] 78)) wA.heap.size 78 [.pointer (some ⟨wr.heap.size, 0, none⟩)] := Lies.new wA 78 [_]
        have LN2 := LN.kept bB
        obtain ⟨wB, hwB⟩ : ∃ wB, wA.alloc (.cells #[.pointer (some ⟨wr.heap.size, 0, none⟩)] 78) = wB := ⟨_, rfl⟩
        have sB : wB.heap.size = wr.heap.size + 2 := by rw [← hwB]; simp [sA]
        rw [hwB] at bB LB LN2
        rw [sA] at LB
        have bAB := on bA bA.size bB
        have cc : ∀ j u, ([.pointer (some ⟨wr.heap.size, 0, none⟩)] : List Value)[j]? = some u → wB.cell? ((⟨wr.heap.size + 1, 0, none⟩ : Addr).add j) = some u := fun j u hu => by rw [add_at, LB.cell]; exact hu
        have hown := Ce.owns_of_block HM.out.row (w' := wB) (fun q hq => bAB.block q (HM.out.row.lt q hq).2)
        rw [← hwB, ← hwA] at hown cc
        have HOWN := Lib.hid hown
        have HCC := Lib.hid cc
        have HWA := Lib.hid hwA
        have HWB := Lib.hid hwB
        have HLN := Lib.hid LN2
        have HBAB := Lib.hid bAB
        have hlen9 : w9.heap.size ≤ wr.heap.size := HM.out.else_.size
        have hbl' := HBL.out
        have HSB := Lib.hid sB
        have hSlt9 : S < w9.heap.size := HLS9.out.lt
        clear bA LN hwA bB LB LN2 hwB bAB cc hown sA sB
        go_wp2_with (at_builtin; refine wpList_append_own _ rfl (.tmp 63) (.tmp 68) 72 rfl w9.heap.size 78 i0 z0 1 8 Tryz.underlying72 hi hz hs hby hzc (by decide) v bl.length _ rfl HOWN.out ⟨wr.heap.size + 1, 0, none⟩ 1 1 [.pointer (some ⟨wr.heap.size, 0, none⟩)] rfl rfl HCC.out (by simp [Value.oneCell']) (by unfold maxLen; omega) (by omega) (by simp; omega) ?_; intro v7 w7 O7 G7 N7; (obtain ⟨gq7, cap7, cur7, e7, hgq7, hcur7, -⟩ := own_form O7 (by omega)); subst e7; (have LS7 := (HM.out.own.alloc (.cells #[.pointer (some ⟨S, 0, none⟩), .int .i64 (k : Nat), .func (.func 30) #[] #[], .int .i64 0, .slice none 0 0, .int .i64 0, .int .i64 0, .int .i64 0, .int .i64 0, .int .i64 0, .int .i64 0, .int .i64 0, .int .i64 0, .int .i64 0, .slice none 0 0] 81)).alloc (.cells #[.pointer (some ⟨wr.heap.size, 0, none⟩)] 78)); (have hvb : ∀ q, v.ownBlock = some q → w9.heap.size ≤ q ∧ q < wr.heap.size := fun q hq => HM.out.row.lt q hq); (have LS77 := LS7.of_block (G7.block S LS7.lt (fun e => by have := hvb S e.symm; omega))); (have t0 : w7.cell? ⟨S, 4, none⟩ = some v := LS77.cell 4); (have t1 := LS77.frozen 4); (have t2 := LS77.lt); (have HO7 := Lib.hid O7); (have HG7 := Lib.hid G7); (have HLS7 := Lib.hid LS77); clear O7 G7 N7 LS7 LS77 v4 v5)
        have hG7 := HG7.out
        have hvb : ∀ q, v.ownBlock = some q → w9.heap.size ≤ q ∧ q < wr.heap.size := fun q hq => HM.out.row.lt q hq
        have hWBe := HWB.out
        have hWAe := HWA.out
        rw [hWAe, hWBe] at hG7
        have h7 : ∀ q, q < wr.heap.size → some q ≠ v.ownBlock → w7.heap[q]? = wr.heap[q]? := fun q hq hne => by
          rw [hG7.block q (by rw [HSB.out]; omega) hne]; exact HBAB.out.block q hq
        have h8 : ∀ q, q ≠ S → (w7.setCell ⟨S, 4, none⟩ (.slice (some ⟨gq7, 0, none⟩) (bl.length + 1) cap7)).heap[q]? = w7.heap[q]? := fun q hq => Below.heap_setCell w7 ⟨S, 4, none⟩ _ q hq
        have hvt : ∀ q x cs, v.ownBlock = some q → Lies wr x 81 cs → x ≠ q := fun q x cs hq hx e => by
          by_cases h0 : 0 < bl.length
          · obtain ⟨gq, cp, cu, e1, -, hl, -⟩ := own_form HM.out.row h0
            rw [e1] at hq
            injection hq with hq
            subst hq
            exact (hx.apart hl (by decide)) e
          · have e2 := HM.out.row
            rw [show bl.length = 0 by omega] at e2
            rcases e2.2 with ⟨e3, _⟩ | ⟨gq, cp, cu, e3, hgq, hh, h1, h2, h3, h4⟩
            · rw [e3] at hq; cases hq
            · rw [e3] at hq
              injection hq with hq
              subst hq
              exact (hx.apart (show Lies wr gq 78 cu.toList by unfold Lies; simpa using hh) (by decide)) e
        have hos : Ce.Else S S none w9 (w7.setCell ⟨S, 4, none⟩ (.slice (some ⟨gq7, 0, none⟩) (bl.length + 1) cap7)) := by
          refine ⟨?_, ?_, ?_, ?_, fun q hq h1 h2 h3 => ?_⟩
          · exact (show w7.os = _ from hG7.os).trans (HBAB.out.os.trans HM.out.else_.os)
          · exact (show w7.tape = _ from hG7.tape).trans (HBAB.out.tape.trans HM.out.else_.tape)
          · exact (show w7.output = _ from hG7.output).trans (HBAB.out.output.trans HM.out.else_.output)
          · have := hG7.size; have := HSB.out; simp; omega
          · rw [h8 q h1, h7 q (by omega) (fun e => by have := hvb q e.symm; omega)]
            exact HM.out.else_.block q hq h1 h2 h3
        rw [hbl'] at h8 hos
        refine ⟨⟨k + 1, bl ++ [wr.heap.size], .slice (some ⟨gq7, 0, none⟩) (k + 1) cap7, by omega, by go_num, by simp [hbl'], hos, ?_, ?_, fun i x hx => ?_, ?_⟩, by simp [intOf]; omega⟩
        · exact HLS7.out.set 4 _
        · have := HO7.out
          rw [List.map_append, List.length_append]
          rw [hbl'] at this ⊢
          exact Ce.owns_of_block this fun q hq => h8 q (by have := (this.lt q hq).1; omega)
        · rw [List.getElem?_append] at hx
          split at hx
          · obtain ⟨hx1, hx2⟩ := HM.out.wks i x hx
            exact ⟨hx1.of_block (by rw [h8 x (by omega), h7 x hx1.lt (fun e => hvt x x _ e.symm hx1 rfl)]), hx2⟩
          · next hge =>
            have hi0 : i = bl.length := by
              have := (List.getElem?_eq_some_iff.1 hx).1
              simp at this; omega
            subst hi0
            simp at hx
            subst hx
            have hl := HLN.out
            rw [hbl']
            refine ⟨hl.of_block ?_, hlen9⟩
            rw [h8 _ (by omega)]
            exact hG7.block _ hl.lt (fun e => by have := hvb _ e.symm; omega)
        · rw [List.nodup_append]
          refine ⟨HM.out.nodup, by simp, fun a ha b hb => ?_⟩
          simp at hb
          subst hb
          obtain ⟨i, hi⟩ := List.mem_iff_getElem?.1 ha
          have := (HM.out.wks i a hi).1.lt
          omega
      · obtain rfl : k = n := by omega
        go_wp2_with fail
        go_ret2
        have hbl' := HBL.out
        obtain ⟨wb, wcap, cur, rfl, hwb, hcur, hcell⟩ := own_form HM.out.row (by omega)
        have e1 : ∀ q, q < w9.heap.size → q ≠ S → wr.heap[q]? = w9.heap[q]? := fun q hq hne => HM.out.else_.block q hq hne hne (by simp)
        have hz9 := HSZ9.out
        have e2 : ∀ q, q < w8.heap.size → q ≠ S → wr.heap[q]? = w8.heap[q]? := fun q hq hne => (e1 q (by omega) hne).trans (HE9.out q hne)
        have hsr := HM.out.else_.size
        have B28 : Below w2.heap.size w2 w8 := on (on (on HB3.out HB3.out.size HB4.out) (on HB3.out HB3.out.size HB4.out).size HC7.out) (on (on HB3.out HB3.out.size HB4.out) (on HB3.out HB3.out.size HB4.out).size HC7.out).size HB8.out
        have B89 : Below w2.heap.size w8 w9 := HBB9.out _ (by omega)
        have B9r : Below w2.heap.size w9 wr := HM.out.else_.below (by omega) (by omega) (by omega) (fun k e => by cases e)
        have B2r := (B28.trans B89).trans B9r
        have A1 : Ce.At w8 w5.heap.size g1 gw1 zs none 0 [] := (HA6.out.kept HB7.out).kept HB8.out
        have A2 := HA7.out.kept HB8.out
        have hbi : ∀ i, i < k → bl[i]? = some (bl.getD i 0) := fun i hi => by
          have : i < bl.length := by omega
          simp [List.getD, this]
        refine ⟨fun h => absurd (hr.symm.trans h) (by simp), fun _ => ⟨⟨w2, wr⟩, ⟨S, g1, gw1, g2, gw2, sb, bcap, wb, wcap, k, wr.heap.size, b, W, K, T, top, fun i => bl.getD i 0, Mk.bit ws, obs, wr.heap.size⟩, rfl, ?_, rfl, rfl, rfl, rfl, rfl, rfl, HB2.out.size⟩, on HB2.out HB2.out.size B2r⟩
        refine ⟨HFo.out, B2r, ?_, ?_, ?_, ?_, ⟨cur, hcur, fun i hi => ?_⟩, fun i hi => (HM.out.wks i _ (hbi i hi)).1, fun i j hi hj e => ?_, fun i hi => ⟨Sq.nil _ _ _ _, Sq.nil _ _ _ _⟩, ?_, ?_, ?_, ?_, fun i hi => ?_, ?_, Nat.le_refl _, hn1, hn2, ?_, fun _ _ _ => rfl⟩
        · have := HM.out.own
          rw [hbl'] at this; exact this
        · show Ce.At wr w2.heap.size g1 gw1 (flat obs ++ tail) none 0 []
          rw [HZS.out]
          exact ce_wider (ce_block A1 (e2 g1 A1.own.lt (by omega)) (e2 gw1 A1.words.lt (by omega))) (show w2.heap.size ≤ w5.heap.size by omega)
        · exact ce_wider (ce_block A2 (e2 g2 A2.own.lt (by omega)) (e2 gw2 A2.words.lt (by omega))) (show w2.heap.size ≤ w6.heap.size by omega)
        · exact (HR8.out.kept fun b' cs hb' hl => hl.of_block (e2 b' hl.lt (by have h0 := (HR8.out.blk_lt hb').1; clear e1 e2; omega))).wider (show w2.heap.size ≤ w7.heap.size by omega)
        · have hi' : i < k := hi
          rw [hcell i (by rw [Nat.mul_one]; omega), List.getElem?_map, hbi i hi']; rfl
        · have h1 := hbi i hi
          have h2 := hbi j hj
          have e' : bl.getD i 0 = bl.getD j 0 := e
          rw [← e'] at h2
          have hi' : i < k := hi
          exact (List.getElem?_inj (show i < bl.length by omega) HM.out.nodup).1 (h1.trans h2.symm)
        · show g1 ≠ g2; omega
        · show gw1 ≠ gw2; omega
        · exact ⟨by show sb ≠ gw1; omega, by show sb ≠ gw2; omega⟩
        · show w2.heap.size ≤ S; omega
        · have := (HM.out.wks i _ (hbi i hi)).2
          show w2.heap.size ≤ bl.getD i 0
          omega
        · refine ⟨by show S < wr.heap.size; omega, by show g1 < wr.heap.size; omega, by show gw1 < wr.heap.size; omega, by show g2 < wr.heap.size; omega, by show gw2 < wr.heap.size; omega, by show sb < wr.heap.size; omega, hcur.lt, fun i hi => (HM.out.wks i _ (hbi i hi)).1.lt⟩
        · refine ⟨by show S < wr.heap.size; omega, by show g1 < wr.heap.size; omega, by show gw1 < wr.heap.size; omega, by show g2 < wr.heap.size; omega, by show gw2 < wr.heap.size; omega, by show sb < wr.heap.size; omega, hcur.lt, fun i hi => (HM.out.wks i _ (hbi i hi)).1.lt⟩
end Go.Proofs.YtklhdilbmpndkaaGreat

namespace Go.Proofs.YtklhdilbmpndkaaGreat
set_option maxRecDepth 20000
open Go.RowKit
set_option linter.unusedVariables false
set_option linter.unusedSimpArgs false


section
variable {w0 : W2} {w : World} {C : Cx} {M : Ms}
set_option maxRecDepth 100000 in
set_option maxHeartbeats 1000000 in
theorem over_any (h : Sl w0 w C M) : Calls Tryz.prog 10 #[.pointer (some ⟨C.S, 0, none⟩)] w fun e w' => e = .returned (.bool (decide (M.left = 0))) ∧ w = w' := by
  have c0 : w.cell? ⟨C.S, 5, none⟩ = some (.int .i64 M.left) := h.own.cell 5
  have e : (M.left == 0) = decide (M.left = 0) := by cases hh : decide (M.left = 0) <;> simp at hh <;> simp [hh]
  have E := Lib.hid e
  clear h e
  go_enter Tryz.func10, Tryz.ntmps10
  go_wp2
  go_ret
  exact ⟨by rw [← E.out]; rfl, rfl⟩
set_option maxRecDepth 100000 in
set_option maxHeartbeats 1000000 in
theorem touches_any (h : Sl w0 w C M) : Calls Tryz.prog 13 #[.pointer (some ⟨C.S, 0, none⟩)] w fun e w' => e = .returned (.int .i64 M.touches) ∧ w = w' := by
  have c0 : w.cell? ⟨C.S, 6, none⟩ = some (.int .i64 M.touches) := h.own.cell 6
  clear h
  go_enter Tryz.func13, Tryz.ntmps13
  go_wp2
  go_ret
  exact ⟨rfl, rfl⟩
set_option maxRecDepth 100000 in
set_option maxHeartbeats 1000000 in
theorem moved_any (h : Sl w0 w C M) : Calls Tryz.prog 14 #[.pointer (some ⟨C.S, 0, none⟩)] w fun e w' => e = .returned (.int .i64 M.moved) ∧ w = w' := by
  have c0 : w.cell? ⟨C.S, 7, none⟩ = some (.int .i64 M.moved) := h.own.cell 7
  clear h
  go_enter Tryz.func14, Tryz.ntmps14
  go_wp2
  go_ret
  exact ⟨rfl, rfl⟩

set_option maxRecDepth 1000000 in
set_option maxHeartbeats 4000000 in
theorem roots_any (h : Sl w0 w C M) (A : Option Addr) (n c : Nat) (l : List Int) (hl : Row w A l) (hn : l.length = n) (hn2 : n ≤ 65536) (hin : ∀ z ∈ l, InR z) :
    Calls Tryz.prog 16 #[.pointer (some ⟨C.S, 0, none⟩), .slice A n c] w fun e w' => (l.all (okW C.f (adr 0 C.obs)) = true → ∃ q, e = .returned (.tuple #[.slice (some ⟨q, 0, none⟩) n n, .int .i64 0]) ∧ w.heap.size ≤ q ∧ Lies w' q 3 ((l.map (mvW C.f (adr 0 C.obs))).map (Value.int .i64))) ∧ (l.all (okW C.f (adr 0 C.obs)) = false → e = .returned (.tuple #[.slice none 0 0, .int .i64 5])) ∧ Below w.heap.size w w' := by
  have hmk := make51 n hn2 w
  have LQ : Lies (w.alloc (.cells (noughts n).toArray 3)) w.heap.size 3 (((l.take 0).map (mvW C.f (adr 0 C.obs)) ++ List.replicate (n - 0) 0).map (Value.int .i64)) := by
    have := Lies.new w 3 (noughts n)
    rw [noughts_eq] at this ⊢
    simpa using this
  have b1 := below_one w (.cells (noughts n).toArray 3)
  obtain ⟨q, hq⟩ : ∃ q, w.heap.size = q := ⟨_, rfl⟩
  obtain ⟨w1, hw1⟩ : ∃ w1, w.alloc (.cells (noughts n).toArray 3) = w1 := ⟨_, rfl⟩
  rw [hq] at LQ
  rw [hw1] at LQ b1
  have HLQ := Lib.hid LQ
  have HB1 := Lib.hid b1
  have HW1 := Lib.hid hw1
  have HQ := Lib.hid hq
  have HFO := Lib.hid (h.fo.kept h.old)
  have HS := Lib.hid h.own
  have HR := Lib.hid hl
  have HN := Lib.hid hn
  have HIN := Lib.hid hin
  obtain ⟨f, hf⟩ : ∃ f, C.f = f := ⟨_, rfl⟩
  obtain ⟨L, hL⟩ : ∃ L, adr 0 C.obs = L := ⟨_, rfl⟩
  have HWD := Lib.hid (fun V (hV : Below w.heap.size w V) (z : Int) (hz : InR z) => word_any (HFO.out.kept hV) z hz)
  rw [hf, hL] at HWD HLQ ⊢
  clear LQ b1 hw1 hq h hl hn hin hf hL HFO
  go_enter Tryz.func16, Tryz.ntmps16
  go_upto_region 2 with fail
  rw [HW1.out, HQ.out]
  go_wp2_with fail
  go_loopw [16] (fun i wr => ∃ k : Nat, k ≤ n ∧ i = .int .i64 (k : Nat) ∧ (∀ j, j < k → okW f L (l.getD j 0) = true) ∧ Lies wr q 3 (((l.take k).map (mvW f L) ++ List.replicate (n - k) 0).map (Value.int .i64)) ∧ Below w.heap.size w wr) (fun i _ => n - (intOf i).toNat)
  case atStart => exact ⟨0, Nat.zero_le _, rfl, fun j h => absurd h (Nat.not_lt_zero _), HLQ.out, HB1.out⟩
  case round =>
    obtain ⟨k, hk, rfl, hok, hL, hb⟩ := hrel
    have HOK := Lib.hid hok
    have HL := Lib.hid hL
    have HB := Lib.hid hb
    clear hok hL hb
    by_cases hlt : k < n
    · obtain ⟨ad, rfl, hcell⟩ := (HR.out.kept HB.out).at_ (i := k) (by rw [HN.out]; exact hlt)
      have k0 : (0 : Int) ≤ (k : Int) := by omega
      have k1 : (k : Int) < (n : Int) := by omega
      have hzr : InR (l.getD k 0) := by
        refine HIN.out _ ?_
        have : k < l.length := by rw [HN.out]; exact hlt
        simp [List.getD, this]
      have sS : wr.cell? ⟨C.S, 0, none⟩ = some (.pointer (some ⟨C.b, 0, none⟩)) := (HS.out.kept HB.out).cell 0
      have hWD := Lib.hid (HWD.out wr HB.out (l.getD k 0) hzr)
      obtain ⟨z, hz⟩ : ∃ z, l.getD k 0 = z := ⟨_, rfl⟩
      rw [hz] at hWD hcell
      have HZ := Lib.hid hz
      clear hz hzr
      go_wp2_with fail
      refine hWD.out.mono ?_
      rintro e w2 ⟨rfl, hb2⟩
      have HB2 := Lib.hid (on HB.out HB.out.size hb2)
      have HL2 := Lib.hid (HL.out.kept hb2)
      cases hokz : okW f L z with
      | true =>
        have HO := Lib.hid hokz
        obtain ⟨mv, hmv⟩ : ∃ mv, mvW f L z = mv := ⟨_, rfl⟩
        simp only [if_true, hmv]
        have ea : (⟨q, 0, none⟩ : Addr).add k = ⟨q, k, none⟩ := add_at q k
        have hkl : k < l.length := by rw [HN.out]; exact hlt
        have cq : w2.cell? ⟨q, k, none⟩ = some (.int .i64 0) := by
          rw [HL2.out.cell, List.getElem?_map, List.getElem?_append_right (by simp; omega)]
          simp only [List.length_map, List.length_take]
          rw [Nat.min_eq_left (by omega), Nat.sub_self, List.getElem?_replicate, if_pos (by omega)]; rfl
        have cf := HL2.out.frozen k
        have HMV := Lib.hid hmv
        clear hb2 sS hWD hokz hcell hmv
        go_wp2_with fail
        refine ⟨⟨k + 1, by omega, by go_num, fun j hj => ?_, ?_, HB2.out.setCell (p := ⟨q, k, none⟩) (by show w.heap.size ≤ q; have := HQ.out; omega) _⟩, by simp [intOf]; omega⟩
        · by_cases hjk : j = k
          · subst hjk; rw [HZ.out]; exact HO.out
          · exact HOK.out j (by omega)
        · have h1 := HL2.out.set k (.int .i64 mv)
          rw [← List.map_set] at h1
          have e2 : ((l.take k).map (mvW f L) ++ List.replicate (n - k) 0).set k mv = (l.take (k + 1)).map (mvW f L) ++ List.replicate (n - (k + 1)) 0 := by
            rw [List.set_append, if_neg (by simp; omega)]
            simp only [List.length_map, List.length_take]
            rw [Nat.min_eq_left (by omega), Nat.sub_self]
            obtain ⟨r, hr⟩ : ∃ r, n - k = r + 1 := ⟨n - k - 1, by omega⟩
            rw [hr, List.replicate_succ, List.set_cons_zero, List.take_add_one, List.getElem?_eq_getElem hkl, show n - (k + 1) = r by omega]
            have hz2 := HZ.out
            simp [List.getD, hkl] at hz2
            simp [hz2, HMV.out]
          rw [e2] at h1; exact h1
      | false =>
        have HO := Lib.hid hokz
        clear hb2 sS hWD hokz hcell
        simp only [Bool.false_eq_true, if_false]
        go_wp2_with fail
        go_ret2
        have hal : l.all (okW f L) = false := by
          rw [List.all_eq_false]
          have hkl : k < l.length := by rw [HN.out]; exact hlt
          exact ⟨z, by rw [← HZ.out]; simp [List.getD, hkl], by rw [HO.out]; simp⟩
        exact ⟨fun h => absurd (hal.symm.trans h) (by simp), fun _ => rfl, HB2.out⟩
    · obtain rfl : k = n := by omega
      go_wp2_with fail
      go_ret2
      have hal : l.all (okW f L) = true := by
        rw [List.all_eq_true]
        intro z hz
        obtain ⟨i, hi⟩ := List.mem_iff_getElem?.1 hz
        have hik := (List.getElem?_eq_some_iff.1 hi).1
        have := HOK.out i (by rw [← HN.out]; exact hik)
        simpa [List.getD, hi] using this
      have hl := HL.out
      rw [Nat.sub_self, List.take_of_length_le (by rw [HN.out]; exact Nat.le_refl _)] at hl
      exact ⟨fun _ => ⟨q, rfl, by have := HQ.out; omega, by simpa using hl⟩, fun h => absurd (hal.symm.trans h) (by simp), HB.out⟩
end
end Go.Proofs.YtklhdilbmpndkaaGreat

namespace Go.Proofs.YtklhdilbmpndkaaGreat
set_option maxRecDepth 20000
open Go.RowKit Go.Sort
set_option linter.unusedVariables false
set_option linter.unusedSimpArgs false


/-- Which of the objects stay, by their places in the list, told of marks. -/
structure Stb (st : List Bool) (f : Nat → Bool) (obs : List Ob) : Prop where
  len : st.length = obs.length
  at_ : ∀ (k : Nat) (o : Ob), obs[k]? = some o → st[k]? = some (keepB f (atI obs k, o))
theorem adr_atI {obs : List Ob} {k : Nat} {o : Ob} (h : obs[k]? = some o) : (adr 0 obs)[k]? = some (atI obs k, o) := by
  have hk : k < (adr 0 obs).length := by rw [adr_len]; exact (List.getElem?_eq_some_iff.1 h).1
  obtain ⟨x, hx⟩ : ∃ x, (adr 0 obs)[k]? = some x := ⟨_, List.getElem?_eq_getElem hk⟩
  obtain ⟨h1, h2⟩ := adr_get hx
  rw [hx]
  rw [h1] at h
  injection h with h
  rw [Nat.zero_add] at h2
  rw [← h, ← h2]
theorem end_succ {f : Nat → Bool} {obs : List Ob} {k : Nat} {o : Ob} (h : obs[k]? = some o) : endS f obs (k + 1) = endS f obs k + if keepB f (atI obs k, o) then 1 + o.2.length else 0 := (obj_go f (adr_atI h)).2.2.2

set_option maxRecDepth 100000 in
set_option maxHeartbeats 2000000 in
theorem dto_any {w : World} {A : Option Addr} {obs : List Ob} {st : List Bool} {f : Nat → Bool} (s : Int) (n c q i : Nat) (hf : Fine obs) (h : Things w A obs) (hn : obs.length = n) (hm : (flat obs).length ≤ 65536) (hq : Lies w q 4 (st.map Value.bool)) (hst : Stb st f obs) (hi : i ≤ n) :
    Calls Tryz.prog 37 #[.agg #[.int .i64 s, .slice A n c], .slice (some ⟨q, 0, none⟩) n n, .int .i64 (i : Nat)] w fun e w' => e = .returned (.int .i64 ((endS f obs i : Nat) : Int)) ∧ Below w.heap.size w w' := by
  have HH := Lib.hid h
  have HF := Lib.hid hf
  have HN := Lib.hid hn
  have HM := Lib.hid hm
  have HQ := Lib.hid hq
  have HST := Lib.hid hst
  have hn6 : n ≤ 65536 := by have := count_le obs; omega
  clear h hf hn hm hq hst
  go_enter Tryz.func37, Tryz.ntmps37
  go_wp2
  go_loopw [7, 8] (fun t k wr => ∃ j : Nat, j ≤ i ∧ k = .int .i64 (j : Nat) ∧ t = .int .i64 ((endS f obs j : Nat) : Int) ∧ Lies wr w.heap.size 34 [.int .i64 s, .slice A n c] ∧ Below w.heap.size w wr) (fun _ k _ => i - (intOf k).toNat)
  case atStart => exact ⟨0, Nat.zero_le _, rfl, by rw [end_zero]; rfl, Lies.new w 34 [.int .i64 s, .slice A n c], (Below.refl _ w).alloc (Nat.le_refl _) _⟩
  case round =>
    obtain ⟨k, hk, rfl, rfl, L, BB⟩ := hrel
    have x1 : wr.cell? ⟨w.heap.size, 1, none⟩ = some (.slice A n c) := L.cell 1
    by_cases hlt : k < i
    · obtain ⟨o, ho⟩ : ∃ o, obs[k]? = some o := ⟨_, List.getElem?_eq_getElem (by rw [HN.out]; omega)⟩
      obtain ⟨ad, B, cc, rfl, c0, c1, c2, c3, c4, -⟩ := (HH.out.kept BB).at_ ho
      have hfo := HF.out o (List.mem_of_getElem? ho)
      have hs := end_succ (f := f) ho
      have hle := end_le f obs (k + 1)
      have hle2 := atI_le obs (k + 1)
      have hM := HM.out
      have hb := len_le hfo.1
      have hlen : o.1 / 65536 = (o.2.length : Int) := by
        have h1 := hfo.2
        have h2 := ((good_iff _ _ _).1 (head_good hfo.1)).2.2.1
        unfold lenOf at h1
        omega
      rw [hlen] at c2
      have hl4 : o.2.length ≤ 4095 := by have := hfo.2; omega
      obtain ⟨N, hN⟩ : ∃ N, endS f obs k = N := ⟨_, rfl⟩
      obtain ⟨M, hMm⟩ : ∃ M, o.2.length = M := ⟨_, rfl⟩
      have hstk := HST.out.at_ k o ho
      have cq : wr.cell? ⟨q, k, none⟩ = some (.bool (keepB f (atI obs k, o))) := by
        rw [(HQ.out.kept BB).cell, List.getElem?_map, hstk]; rfl
      have ea : (⟨q, 0, none⟩ : Addr).add k = ⟨q, k, none⟩ := add_at q k
      obtain ⟨bb, hbb⟩ : ∃ bb, keepB f (atI obs k, o) = bb := ⟨_, rfl⟩
      rw [hbb] at cq hs
      rw [hN, hMm] at hs
      rw [hN]
      rw [hMm] at c2 hl4
      have hb2 : N ≤ 65536 := by have := end_le f obs k; have := atI_le obs k; omega
      have HS := Lib.hid hs
      clear c0 c1 c3 c4 hlen hb hfo hs hle hle2 hM hN hMm hstk hbb
      have k0 : (0 : Int) ≤ (k : Int) := by omega
      have k1 : (k : Int) < (n : Int) := by omega
      cases bb with
      | true =>
        go_wp2
        refine ⟨⟨k + 1, by omega, by go_num, ?_, L, BB⟩, by simp [intOf]; omega⟩
        rw [HS.out, if_pos rfl]; exact congrArg (Value.int .i64) (by omega)
      | false =>
        go_wp2
        refine ⟨⟨k + 1, by omega, by go_num, ?_, L, BB⟩, by simp [intOf]; omega⟩
        rw [HS.out, if_neg (by simp)]; rfl
    · obtain rfl : k = i := by omega
      go_wp2
      go_ret
      exact ⟨rfl, BB⟩

/-- What a word leads to. -/
theorem find_word {f : Nat → Bool} {obs : List Ob} {st : List Bool} (hst : Stb st f obs) (z y : Int) (hy : y = z - 1 ∨ z < 0) (hz : z ≠ 0) :
    (okW f (adr 0 obs) z = true ∧ 1 ≤ z ∧ ∃ i, findV obs y = (i : Nat) ∧ i < obs.length ∧ st[i]? = some true ∧ mvW f (adr 0 obs) z = ((endS f obs i : Nat) : Int) + 1) ∨
    (okW f (adr 0 obs) z = false ∧ (z < 0 ∨ findV obs y = -1 ∨ ∃ i, findV obs y = (i : Nat) ∧ i < obs.length ∧ st[i]? = some false)) := by
  by_cases h0 : z < 0
  · refine .inr ⟨?_, .inl h0⟩
    have h1 : ¬ 1 ≤ z := by omega
    simp [okW, hz, h1]
  · have hy1 : y = z - 1 := by rcases hy with h | h; · exact h
                               · omega
    have h1 : 1 ≤ z := by omega
    have hok : okW f (adr 0 obs) z = isK f (adr 0 obs) (z - 1).toNat := by simp [okW, hz, h1]
    have hmv : mvW f (adr 0 obs) z = ((goS f (adr 0 obs) (z - 1).toNat : Nat) : Int) + 1 := by simp [mvW, hz]
    by_cases hex : ∃ i, i < obs.length ∧ y = (atI obs i : Nat)
    · obtain ⟨i, hi, e⟩ := hex
      obtain ⟨o, ho⟩ : ∃ o, obs[i]? = some o := ⟨_, List.getElem?_eq_getElem hi⟩
      have hfd := find_here ho e
      have hg := obj_go f (adr_atI ho)
      have e2 : (z - 1).toNat = atI obs i := by omega
      rw [e2] at hok hmv
      have hst2 := hst.at_ i o ho
      rw [hg.1] at hok
      rw [hg.2.1] at hmv
      cases hk : keepB f (atI obs i, o) with
      | true => exact .inl ⟨by rw [hok, hk], h1, i, hfd, hi, by rw [hst2, hk], hmv⟩
      | false => exact .inr ⟨by rw [hok, hk], .inr (.inr ⟨i, hfd, hi, by rw [hst2, hk]⟩)⟩
    · have hfd := find_none (obs := obs) (a := y) fun i hi e => hex ⟨i, hi, e⟩
      refine .inr ⟨?_, .inr (.inl hfd)⟩
      rw [hok]
      cases hk : isK f (adr 0 obs) (z - 1).toNat with
      | false => rfl
      | true =>
        obtain ⟨_, o, h3, _⟩ := isK_lt hk
        obtain ⟨i, hi⟩ := List.mem_iff_getElem?.1 h3
        obtain ⟨h4, h5⟩ := adr_get hi
        simp only at h5
        exact absurd ⟨i, (List.getElem?_eq_some_iff.1 h4).1, by omega⟩ hex

set_option maxRecDepth 100000 in
set_option maxHeartbeats 2000000 in
theorem dword_any {w : World} {A : Option Addr} {obs : List Ob} {st : List Bool} {f : Nat → Bool} (s : Int) (n c q : Nat) (z : Int) (hz : InR z) (hf : Fine obs) (h : Things w A obs) (hn : obs.length = n) (hm : (flat obs).length ≤ 65536) (hq : Lies w q 4 (st.map Value.bool)) (hst : Stb st f obs) :
    Calls Tryz.prog 20 #[.agg #[.int .i64 s, .slice A n c], .slice (some ⟨q, 0, none⟩) n n, .int .i64 z] w fun e w' => e = .returned (.tuple #[.int .i64 (if okW f (adr 0 obs) z then mvW f (adr 0 obs) z else 0), .bool (okW f (adr 0 obs) z)]) ∧ Below w.heap.size w w' := by
  have hn6 : n ≤ 65536 := by have := count_le obs; omega
  by_cases h0 : z = 0
  · subst h0
    have e : okW f (adr 0 obs) 0 = true := by simp [okW]
    have e2 : mvW f (adr 0 obs) 0 = 0 := by simp [mvW]
    rw [e, e2]
    have b1 := below_one w (.cells #[.int .i64 s, .slice A n c] 34)
    clear h hf hn hm hq hst
    go_enter Tryz.func20, Tryz.ntmps20
    go_wp2
    go_ret2
    exact ⟨rfl, b1⟩
  · obtain ⟨y, hy⟩ : ∃ y, IntKind.i64.wrap (z - 1) = y := ⟨_, rfl⟩
    have hy2 : y = z - 1 ∨ z < 0 := by
      unfold InR at hz
      by_cases hmn : z = -9223372036854775808
      · exact .inr (by omega)
      · exact .inl (by rw [← hy]; exact IntWalk.i64_in _ (by omega))
    have hfw := find_word hst z y hy2 h0
    obtain ⟨OK, hOK⟩ : ∃ OK, okW f (adr 0 obs) z = OK := ⟨_, rfl⟩
    obtain ⟨MV, hMV⟩ : ∃ MV, mvW f (adr 0 obs) z = MV := ⟨_, rfl⟩
    rw [hOK, hMV] at hfw ⊢
    clear hOK hMV
    have d0 : (z == 0) = false := by simp [h0]
    have HX := Lib.hid (Lies.new w 34 [.int .i64 s, .slice A n c])
    have HB1 := Lib.hid (below_one w (.cells #[.int .i64 s, .slice A n c] 34))
    have HFD := Lib.hid (fun V (hV : Below w.heap.size w V) => rfind_any s y n c (h.kept hV) hn hn6)
    have HTO := Lib.hid (fun V (hV : Below w.heap.size w V) i (hi : i ≤ n) => dto_any s n c q i hf (h.kept hV) hn hm (hq.kept hV) hst hi)
    have HQ := Lib.hid hq
    have HLE : Hid (∀ i, endS f obs i ≤ 65536) := Lib.hid fun i => by have := end_le f obs i; have := atI_le obs i; omega
    have HLN : Hid (obs.length = n) := Lib.hid hn
    obtain ⟨w1, hw1⟩ : ∃ w1, w.alloc (.cells #[.int .i64 s, .slice A n c] 34) = w1 := ⟨_, rfl⟩
    have HW1 := Lib.hid hw1
    have HX1 : Hid (Lies w1 w.heap.size 34 [.int .i64 s, .slice A n c]) := Lib.hid (by rw [← hw1]; exact HX.out)
    have HB1' : Hid (Below w.heap.size w w1) := Lib.hid (by rw [← hw1]; exact HB1.out)
    clear h hf hn hm hq hst hw1
    go_enter Tryz.func20, Tryz.ntmps20
    go_upto_region 3 with fail
    rw [HW1.out]
    have x0 : w1.cell? ⟨w.heap.size, 0, none⟩ = some (.int .i64 s) := HX1.out.cell 0
    have x1 : w1.cell? ⟨w.heap.size, 1, none⟩ = some (.slice A n c) := HX1.out.cell 1
    go_wp2_with fail
    refine (HFD.out w1 HB1'.out).mono ?_
    rintro e w2 ⟨rfl, hb2⟩
    have HB2 := Lib.hid (on HB1'.out HB1'.out.size hb2)
    have HX2 := Lib.hid (HX1.out.kept hb2)
    clear hb2 x0 x1
    rcases hfw with ⟨hok, h1, i, hfd, hil, hsti, hmv⟩ | ⟨hok, hbad⟩
    · subst hok
      rw [hfd]
      have hle := HLE.out i
      have hTO := Lib.hid (fun V (hV : Below w.heap.size w V) => HTO.out V hV i (by have := HLN.out; omega))
      obtain ⟨v, hv⟩ : ∃ v, endS f obs i = v := ⟨_, rfl⟩
      rw [hv] at hle hTO hmv
      subst hmv
      have hil2 : i < n := by have := HLN.out; omega
      have cq : w2.cell? ⟨q, i, none⟩ = some (.bool true) := by rw [(HQ.out.kept HB2.out).cell, List.getElem?_map, hsti]; rfl
      have ea : (⟨q, 0, none⟩ : Addr).add i = ⟨q, i, none⟩ := add_at q i
      have i0 : (0 : Int) ≤ (i : Int) := by omega
      have i1 : (i : Int) < (n : Int) := by omega
      have d1 : decide (z < 0) = false := by simp; omega
      have d2 : decide ((i : Int) < 0) = false := by simp
      have x0 : w2.cell? ⟨w.heap.size, 0, none⟩ = some (.int .i64 s) := HX2.out.cell 0
      have x1 : w2.cell? ⟨w.heap.size, 1, none⟩ = some (.slice A n c) := HX2.out.cell 1
      clear hfd hsti hv hil hy
      go_wp2_with fail
      refine (hTO.out w2 HB2.out).mono ?_
      rintro e w3 ⟨rfl, hb3⟩
      have HB3 := Lib.hid (on HB2.out HB2.out.size hb3)
      clear hb3 x0 x1 cq
      go_wp2_with fail
      go_ret2
      refine ⟨?_, HB3.out⟩
      have : (1 : Int) + (v : Int) = (v : Int) + 1 := by omega
      simp [this]
    · subst hok
      clear hy
      rcases hbad with hz0 | hfd | ⟨i, hfd, hil, hsti⟩
      · have d1 : decide (z < 0) = true := by simp [hz0]
        generalize findV obs y = fv at *
        go_wp2_with fail
        go_ret2
        exact ⟨rfl, HB2.out⟩
      · rw [hfd]
        clear hfd
        by_cases hz0 : z < 0
        · have d1 : decide (z < 0) = true := by simp [hz0]
          go_wp2_with fail
          go_ret2
          exact ⟨rfl, HB2.out⟩
        · have d1 : decide (z < 0) = false := by simp [hz0]
          go_wp2_with fail
          go_ret2
          exact ⟨rfl, HB2.out⟩
      · rw [hfd]
        have hil2 : i < n := by have := HLN.out; omega
        have cq : w2.cell? ⟨q, i, none⟩ = some (.bool false) := by rw [(HQ.out.kept HB2.out).cell, List.getElem?_map, hsti]; rfl
        have ea : (⟨q, 0, none⟩ : Addr).add i = ⟨q, i, none⟩ := add_at q i
        have i0 : (0 : Int) ≤ (i : Int) := by omega
        have i1 : (i : Int) < (n : Int) := by omega
        have d2 : decide ((i : Int) < 0) = false := by simp
        clear hfd hsti hil
        by_cases hz0 : z < 0
        · have d1 : decide (z < 0) = true := by simp [hz0]
          go_wp2_with fail
          go_ret2
          exact ⟨rfl, HB2.out⟩
        · have d1 : decide (z < 0) = false := by simp [hz0]
          go_wp2_with fail
          go_ret2
          exact ⟨rfl, HB2.out⟩

end Go.Proofs.YtklhdilbmpndkaaGreat

namespace Go.Proofs.YtklhdilbmpndkaaGreat
set_option maxRecDepth 20000
open Go.RowKit
set_option linter.unusedVariables false
set_option linter.unusedSimpArgs false


section
variable {w0 : W2} {w : World} {C : Cx} {M : Ms}
set_option maxRecDepth 100000 in
set_option maxHeartbeats 1000000 in
theorem step_end (h : Sl w0 w C M) (hl : M.left = 0) (i : Nat) (hi : i < C.n) : Calls Tryz.prog 11 #[.pointer (some ⟨C.S, 0, none⟩), .int .i64 (i : Nat)] w fun e w' => e = .returned (.int .i64 12) ∧ w = w' := by
  have c0 : w.cell? ⟨C.S, 4, none⟩ = some (.slice (some ⟨C.wb, 0, none⟩) C.n C.wcap) := h.own.cell 4
  have HO := Lib.hid (over_any h)
  rw [hl] at HO
  have hn := h.n2
  have d0 : decide ((i : Int) < 0) = false := by simp
  have d1 : decide ((C.n : Int) ≤ (i : Int)) = false := by simp; omega
  clear h hl
  go_enter Tryz.func11, Tryz.ntmps11
  go_wp2_with fail
  refine HO.out.mono ?_
  rintro e w2 ⟨rfl, rfl⟩
  go_wp2_with fail
  go_ret
  exact ⟨rfl, rfl⟩
set_option maxRecDepth 100000 in
set_option maxHeartbeats 1000000 in
theorem step_range (h : Sl w0 w C M) (i : Int) (hi : i < 0 ∨ (C.n : Int) ≤ i) : Calls Tryz.prog 11 #[.pointer (some ⟨C.S, 0, none⟩), .int .i64 i] w fun e w' => e = .returned (.int .i64 1) ∧ w = w' := by
  have c0 : w.cell? ⟨C.S, 4, none⟩ = some (.slice (some ⟨C.wb, 0, none⟩) C.n C.wcap) := h.own.cell 4
  have hn := h.n2
  clear h
  by_cases h0 : i < 0
  · have d0 : decide (i < 0) = true := by simp [h0]
    go_enter Tryz.func11, Tryz.ntmps11
    go_wp2
    go_ret
    exact ⟨rfl, rfl⟩
  · have d0 : decide (i < 0) = false := by simp [h0]
    have d1 : decide ((C.n : Int) ≤ i) = true := by simp; omega
    go_enter Tryz.func11, Tryz.ntmps11
    go_wp2
    go_ret
    exact ⟨rfl, rfl⟩
end

set_option maxRecDepth 1000000 in
set_option maxHeartbeats 4000000 in
theorem awake_any (w : World) : Calls Tryz.prog 4 #[] w fun e w' => e = .returned (.bool true) ∧ Below w.heap.size w w' := by
  go_enter Tryz.func4, Tryz.ntmps4
  go_wp2_with fail
  refine (new_st 3 w (by omega) (by omega)).mono ?_
  rintro e w1 ⟨g, gw, gb, rfl, hb1, -, -, -, hS1⟩
  have HB1 := Lib.hid hb1
  have HS1 := Lib.hid hS1
  clear hb1 hS1
  go_wp2_with fail
  refine (Mk.new_yes 3 3 rfl w1 (by omega) (by omega)).mono ?_
  rintro e w2 ⟨mg, mw, rfl, hb2, -, -, hM2⟩
  have HB2 := Lib.hid (on HB1.out HB1.out.size hb2)
  have HN := Lib.hid (snew_any (HS1.out.kept hb2) hM2 2 1 2 0 0 rfl rfl (by decide) (by unfold InR; omega) (by omega) (by omega) (fun o ho => by simp at ho) (by simp [flat_nil]))
  clear hb2 hM2
  go_wp2_with fail
  refine HN.out.mono ?_
  rintro e w3 ⟨-, h3, hb3⟩
  obtain ⟨w0, C, rfl, hSl, hCn, -⟩ := h3 rfl
  have HSL := Lib.hid hSl
  have HB3 := Lib.hid (on HB2.out HB2.out.size hb3)
  have HO := Lib.hid (over_any hSl)
  have HST := Lib.hid (step_end hSl rfl 0 (by omega))
  have hleft : (Ms.new (flat ([] : List Ob) ++ List.replicate 3 0) (sgL (Mk.bit (List.replicate ((3 + 63) / 64) 0)) 2 0 (adr 0 []) (adr 0 [])) 0).left = 0 := rfl
  rw [hleft] at HO
  clear hSl hb3 HN hleft
  go_wp2_with fail
  refine HO.out.mono ?_
  rintro e w4 ⟨rfl, rfl⟩
  go_wp2_with fail
  refine HST.out.mono ?_
  rintro e w4 ⟨rfl, rfl⟩
  go_wp2_with fail
  go_ret
  exact ⟨rfl, HB3.out⟩
end Go.Proofs.YtklhdilbmpndkaaGreat
