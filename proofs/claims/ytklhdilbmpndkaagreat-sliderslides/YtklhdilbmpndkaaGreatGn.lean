/- Where what stays goes, in memory; lookThrough. New: where all that stay go. To, Word, Top, Parts. -/
import Derived.Test.YtklhdilbmpndkaaGreatGm
import Derived.Test.YtklhdilbmpndkaaGreatJd
import Derived.Lib.QuietBelow
import Derived.BigQuiet
namespace Go.Proofs.YtklhdilbmpndkaaGreat
set_option maxRecDepth 20000
open Go.RowKit
set_option linter.unusedVariables false
set_option linter.unusedSimpArgs false

theorem adr_get {a : Nat} {obs : List Ob} {i : Nat} {x : Nat × Ob} (h : (adr a obs)[i]? = some x) : obs[i]? = some x.2 ∧ x.1 = a + atI obs i := by
  have hi := (List.getElem?_eq_some_iff.1 h).1
  rw [adr_len] at hi
  have h2 := adr_at (a := a) (List.getElem?_eq_getElem hi)
  rw [h2] at h
  injection h with h
  rw [← h]
  exact ⟨List.getElem?_eq_getElem hi, rfl⟩
theorem head_adr {w : World} {g gw gb : Nat} {obs : List Ob} {tail : List Int} (S : St w g gw gb obs tail) (p : Nat) (o : Ob) (h : (p, o) ∈ adr 0 obs) :
    Calls Tryz.prog 77 #[.pointer (some ⟨g, 0, none⟩), .int .i64 (p : Nat)] w fun e w' => e = .returned (.tuple #[.agg #[.int .i64 (o.1 % 16), .int .i64 (o.1 / 65536), .int .i64 (o.1 % 65536 / 16)], .int .i64 0]) ∧ Below w.heap.size w w' := by
  obtain ⟨i, hi⟩ := List.getElem?_of_mem h
  obtain ⟨h1, h2⟩ := adr_get hi
  simp only [Nat.zero_add] at h1 h2
  have h3 := look_at h1
  have hc := headF_st S (p : Int)
  rw [h2] at hc ⊢
  unfold headF at hc
  rw [h3] at hc
  exact hc

/-- All that New makes: its four cells, its regions, a row with a number for each place. -/
structure Fh (w : World) (b q a base : Nat) (l : List Reg) (W K T top : Nat) (f : Nat → Bool) (L : List (Nat × Ob)) (D : Nat → Bool) : Prop where
  own : Lies w b 109 [.int .i64 (W : Nat), .slice (some ⟨q, 0, none⟩) K K, .int .i64 (T : Nat), .slice (some ⟨a, 0, none⟩) top top]
  rg : Rg w base q l
  all : regsAll l f W K K L
  row : Lies w a 3 ((rowV (valR f W L) D top).map (Value.int .i64))
  off : ∀ x ∈ l, blk x.B ≠ some a
theorem Lies.nq {w : World} {a b : Nat} {t u : TypeId} {cs ds : List Value} (h : Lies w a t cs) (k : Lies w b u ds) (hn : t ≠ u := by decide) : a ≠ b := fun e => by
  subst e
  exact absurd rfl (h.apart k hn)

theorem else_set (w : World) (a i : Nat) (u : Value) : Else a a a w (w.setCell ⟨a, i, none⟩ u) := ⟨rfl, rfl, rfl, by simp, fun k _ h _ _ => Below.heap_setCell w ⟨a, i, none⟩ u k h⟩
section
variable {w w' : World} {b q a base : Nat} {l : List Reg} {W K T top : Nat} {f : Nat → Bool} {L : List (Nat × Ob)} {D E : Nat → Bool}
theorem Fh.kept (h : Fh w b q a base l W K T top f L D) (hb : Below w.heap.size w w') : Fh w' b q a base l W K T top f L D := ⟨h.own.kept hb, h.rg.kept hb, h.all, h.row.kept hb, h.off⟩
theorem Fh.set (h : Fh w b q a base l W K T top f L D) (p n : Nat) (hp : p < top) (hn : n = valR f W L p) : Fh (w.setCell ⟨a, p, none⟩ (.int .i64 (n : Nat))) b q a base l W K T top f L (fun q => D q || decide (q = p)) := by
  have hs := fun k (hk : k ≠ a) => Below.heap_setCell w ⟨a, p, none⟩ (.int .i64 (n : Nat)) k hk
  refine ⟨h.own.of_block (hs b (h.own.nq h.row)), ⟨h.rg.own.of_block (hs q (h.rg.own.nq h.row)), fun x hx => (h.rg.rows x hx).kept fun k cs hk hl => hl.of_block (hs k fun e => h.off x hx (by rw [hk, e])), h.rg.apart, h.rg.lo⟩, h.all, ?_, h.off⟩
  have h2 := h.row.set p (.int .i64 (n : Nat))
  rw [← List.map_set, rowV_set hp n hn] at h2
  exact h2
theorem Fh.reads (h : Fh w b q a base l W K T top f L D) : w.cell? ⟨b, 0, none⟩ = some (.int .i64 (W : Nat)) ∧ w.cell? ⟨b, 1, none⟩ = some (.slice (some ⟨q, 0, none⟩) K K) ∧ w.cell? ⟨b, 2, none⟩ = some (.int .i64 (T : Nat)) ∧ w.cell? ⟨b, 3, none⟩ = some (.slice (some ⟨a, 0, none⟩) top top) := ⟨h.own.cell 0, h.own.cell 1, h.own.cell 2, h.own.cell 3⟩
theorem Fh.cong (h : Fh w b q a base l W K T top f L D) (e : ∀ p, p < top → D p = E p) : Fh w b q a base l W K T top f L E := ⟨h.own, h.rg, h.all, by rw [← rowV_congr e]; exact h.row, h.off⟩
end

theorem St.offa {w : World} {a i : Nat} {u : Value} {cs : List Value} {g gw gb : Nat} {obs : List Ob} {tail : List Int} (S : St w g gw gb obs tail) (h : Lies w a 3 cs) (hga : gw ≠ a) : St (w.setCell ⟨a, i, none⟩ u) g gw gb obs tail := by
  have hs := fun k (hk : k ≠ a) => Below.heap_setCell w ⟨a, i, none⟩ u k hk
  exact ⟨S.fine, S.lies.own.of_block (hs g (S.lies.own.nq h)), S.lies.words.of_block (hs gw hga), S.lies.begins.of_block (hs gb (S.lies.begins.nq h)), S.lies.same, S.lies.some_, S.lies.most, S.lies.fits⟩
theorem ob_len {obs : List Ob} {p : Nat} {o : Ob} (hf : Fine obs) (h : (p, o) ∈ adr 0 obs) : o.1 / 65536 = (o.2.length : Nat) ∧ o.2.length ≤ 4095 ∧ 0 ≤ o.1 % 16 := by
  obtain ⟨i, hi⟩ := List.getElem?_of_mem h
  have h1 := hf o (List.mem_of_getElem? (adr_get hi).1)
  have h2 := len_le h1.1
  have h3 := head_nn h1.1
  have h4 := h1.2
  unfold lenOf at h2 h4
  refine ⟨by omega, by omega, by omega⟩

set_option maxRecDepth 1000000 in
set_option maxHeartbeats 4000000 in
theorem look_any {w : World} {b q a base : Nat} {l : List Reg} {W K T top : Nat} {f : Nat → Bool} {g gw gb : Nat} {obs : List Ob} {tail : List Int} (k : Nat) (h : Fh w b q a base l W K T top f (adr 0 obs) (dk f W (adr 0 obs) k [])) (S : St w g gw gb obs tail) (hga : gw ≠ a) (hk : k < K) (hK : K ≤ 65536) (ht : (flat obs).length = top) :
    Calls Tryz.prog 51 #[.pointer (some ⟨b, 0, none⟩), .int .i64 (k : Nat), .pointer (some ⟨g, 0, none⟩)] w fun e w' => e = .returned (.tuple #[]) ∧ Fh w' b q a base l W K T top f (adr 0 obs) (dk f W (adr 0 obs) (k + 1) []) ∧ Else a a a w w' := by
  have htop : top ≤ 65536 := by
    have h1 := S.lies.most
    have h2 := S.lies.fits
    omega
  obtain ⟨x, hx, hrow, -, -⟩ := h.all.2 k hk
  obtain ⟨n, hn⟩ : ∃ n, x.row.length = n := ⟨_, rfl⟩
  obtain ⟨M, hM⟩ : ∃ M, inR f W k (adr 0 obs) = M := ⟨_, rfl⟩
  have hMl : M.length = n := by rw [← hn, hrow, ← hM]; simp [stayR]
  have hrp : ∀ j y, M[j]? = some y → x.row.getD j 0 = (y.1 : Int) ∧ y ∈ adr 0 obs ∧ y.1 < top ∧ valR f W (adr 0 obs) y.1 = sumL (M.take j) := fun j y hy => by
    rw [← hM] at hy
    have hm : y ∈ adr 0 obs := by
      have := List.mem_of_getElem? hy
      unfold inR at this
      exact (List.mem_filter.1 this).1
    refine ⟨?_, hm, by have := adr_lt hm; omega, by rw [← hM]; exact val_take (adr_sorted 0 obs) hy⟩
    rw [hrow]
    unfold stayR
    rw [List.getD_eq_getElem?_getD, List.getElem?_map, hy]; rfl
  have hsum : ∀ j, sumL (M.take j) ≤ 65536 := fun j => by
    have h1 := in_take_le (f := f) (n := W) (k := k) (L := adr 0 obs) j
    rw [hM, sumL_adr] at h1
    omega
  have hn2 : n ≤ 65536 := by
    have h1 := len_sum M
    have h2 := hsum M.length
    rw [List.take_length] at h2
    omega
  obtain ⟨b0, b1, b2, b3⟩ := h.reads
  have HC := Lib.hid (stays_any h.rg W K T k h.all.1 hK x hx n hn hn2)
  have HF := Lib.hid h
  have HS := Lib.hid S
  have HN := Lib.hid hn
  have HMl := Lib.hid hMl
  have HRP := Lib.hid hrp
  have HSUM := Lib.hid hsum
  have HMM := Lib.hid hM
  unfold rv at HC
  clear h S hn hMl hrp hsum hrow hM
  go_enter Tryz.func51, Tryz.ntmps51
  go_wp2_with fail
  refine HC.out.mono ?_
  rintro e w2 ⟨B2, cap2, rfl, R2, hb2⟩
  have HF2 := Lib.hid (HF.out.kept hb2)
  have HS2 := Lib.hid (HS.out.kept hb2)
  have HE2 := Lib.hid (Else.of_below (g := a) (gw := a) (gb := a) hb2)
  have HR2 := Lib.hid R2
  clear R2 hb2 HC b0 b1 b2 b3
  go_wp2_with fail
  go_loopw [18, 6, 8, 9, 10] (fun i lv _ _ _ wr => ∃ j : Nat, j ≤ n ∧ i = .int .i64 j ∧ lv = .int .i64 (sumL (M.take j) : Nat) ∧ Fh wr b q a base l W K T top f (adr 0 obs) (dk f W (adr 0 obs) k (M.take j)) ∧ St wr g gw gb obs tail ∧ Rv wr w.heap.size B2 cap2 x.row ∧ Else a a a w wr) (fun i _ _ _ _ _ => n - (intOf i).toNat)
  case atStart => exact ⟨0, Nat.zero_le _, rfl, rfl, HF2.out, HS2.out, HR2.out, HE2.out⟩
  case round =>
    obtain ⟨j, hj, rfl, rfl, F, S, R, E⟩ := hrel
    have HFF := Lib.hid F
    have HSS := Lib.hid S
    have HRR := Lib.hid R
    have HEE := Lib.hid E
    by_cases hlt : j < n
    · obtain ⟨y, hy⟩ : ∃ y, M[j]? = some y := ⟨_, List.getElem?_eq_getElem (by rw [HMl.out]; exact hlt)⟩
      obtain ⟨y1, y2, y3, y4⟩ := HRP.out j y hy
      obtain ⟨ad, q2, rfl, -, c0, -⟩ := R.at_ (i := j) (by rw [HN.out]; exact hlt)
      rw [y1] at c0
      have k0 : (0 : Int) ≤ (j : Int) := by omega
      have k1 : (j : Int) < (n : Int) := by omega
      have hs := HSUM.out j
      obtain ⟨p, o⟩ := y
      simp only at y1 y2 y3 y4 c0
      have HY := Lib.hid hy
      have HY2 := Lib.hid y2
      have HY4 := Lib.hid y4
      obtain ⟨lv, hlv⟩ : ∃ lv, sumL (M.take j) = lv := ⟨_, rfl⟩
      have HLV := Lib.hid hlv
      rw [hlv] at hs ⊢
      clear F S R E hy y1 y2 y4 hlv
      go_wp2_with fail
      refine (head_adr HSS.out p o HY2.out).mono ?_
      rintro e w3 ⟨rfl, hb3⟩
      have hb4 := on hb3 hb3.size (below_one w3 (.cells #[.int .i64 (o.1 % 16), .int .i64 (o.1 / 65536), .int .i64 (o.1 % 65536 / 16)] 64))
      have LB : Lies (w3.alloc (.cells #[.int .i64 (o.1 % 16), .int .i64 (o.1 / 65536), .int .i64 (o.1 % 65536 / 16)] 64)) w3.heap.size 64 [.int .i64 (o.1 % 16), .int .i64 (o.1 / 65536), .int .i64 (o.1 % 65536 / 16)] := Lies.new w3 64 [_, _, _]
      go_upto_region 5 with fail
      obtain ⟨w4, hw4⟩ : ∃ w4, w3.alloc (.cells #[.int .i64 (o.1 % 16), .int .i64 (o.1 / 65536), .int .i64 (o.1 % 65536 / 16)] 64) = w4 := ⟨_, rfl⟩
      rw [hw4] at hb4 LB ⊢
      have F4 := HFF.out.kept hb4
      have S4 := HSS.out.kept hb4
      have R4 := HRR.out.below hb4
      have E4 := HEE.out.trans (Else.of_below (g := a) (gw := a) (gb := a) hb4)
      obtain ⟨b0, b1, b2, b3⟩ := F4.reads
      have af := F4.row.frozen p
      have alt := F4.row.lt
      have hne := LB.nq F4.row
      have p0 : (0 : Int) ≤ (p : Int) := by omega
      have p1 : (p : Int) < (top : Int) := by omega
      have ea : (⟨a, 0, none⟩ : Addr).add p = ⟨a, p, none⟩ := add_at a p
      have ac : ∃ v, w4.cell? ⟨a, p, none⟩ = some v := ⟨_, by rw [F4.row.cell, List.getElem?_map, rowV_at y3]; rfl⟩
      obtain ⟨v0, ac⟩ := ac
      have HF4 := Lib.hid F4
      have HS4 := Lib.hid S4
      have HR4 := Lib.hid R4
      have HE4 := Lib.hid E4
      have HLB := Lib.hid LB
      clear F4 S4 R4 E4 LB hb4 hb3 c0 hw4
      go_upto_region 6 with fail
      obtain ⟨w5, hw5⟩ : ∃ w5, w4.setCell ⟨a, p, none⟩ (.int .i64 (lv : Nat)) = w5 := ⟨_, rfl⟩
      obtain ⟨l1, l2, -⟩ := ob_len HS4.out.fine HY2.out
      have htm := take_more HY.out
      have hs1 : sumL (M.take (j + 1)) = lv + (1 + o.2.length) := by rw [htm, sumL_append, sumL_one, HLV.out]
      have hs2 := HSUM.out (j + 1)
      rw [hs1] at hs2
      have F5 := HF4.out.set p lv y3 (by rw [HY4.out, HLV.out])
      rw [← dk_more (M := M.take j) (x := (p, o)), ← htm] at F5
      have S5 := HS4.out.offa (i := p) (u := .int .i64 (lv : Nat)) HF4.out.row hga
      have haw := HF.out.row.lt
      have R5 := HR4.out.off (w' := w4.setCell ⟨a, p, none⟩ (.int .i64 (lv : Nat))) fun k hk _ => Below.heap_setCell w4 ⟨a, p, none⟩ _ k (by show k ≠ a; omega)
      have E5 := HE4.out.trans (else_set w4 a p (.int .i64 (lv : Nat)))
      have LB5 := HLB.out.far (p := ⟨a, p, none⟩) hne (.int .i64 (lv : Nat))
      rw [hw5] at F5 S5 R5 E5 LB5 ⊢
      have c1 : w5.cell? ⟨w3.heap.size, 1, none⟩ = some (.int .i64 (o.1 / 65536)) := LB5.cell 1
      rw [l1] at c1
      obtain ⟨ln, hln⟩ : ∃ ln, o.2.length = ln := ⟨_, rfl⟩
      rw [hln] at c1 hs1 hs2 l2
      have HF5 := Lib.hid F5
      have HS5 := Lib.hid S5
      have HR5 := Lib.hid R5
      have HE5 := Lib.hid E5
      have HH1 := Lib.hid hs1
      clear F5 S5 R5 E5 LB5 hw5 b0 b1 b2 b3 af ac htm l1 hln hs1 hne
      go_wp2
      refine ⟨⟨j + 1, by omega, by go_num, ?_, HF5.out, HS5.out, HR5.out, HE5.out⟩, by simp [intOf]; omega⟩
      rw [HH1.out]; go_num
    · obtain rfl : j = n := by omega
      have e1 : M.take j = M := List.take_of_length_le (by rw [HMl.out]; omega)
      have hF := HFF.out
      rw [e1, ← HMM.out, dk_next] at hF
      have HFF2 := Lib.hid hF
      clear F S R E hF
      go_wp2_with fail
      go_end0
      exact ⟨rfl, HFF2.out, HEE.out⟩
end Go.Proofs.YtklhdilbmpndkaaGreat

namespace Go.Proofs.YtklhdilbmpndkaaGreat
set_option maxRecDepth 20000
open Go.RowKit
set_option linter.unusedVariables false
set_option linter.unusedSimpArgs false

set_option maxRecDepth 1000000 in
set_option maxHeartbeats 4000000 in
theorem new_any {w : World} {g gw gb mg mw N : Nat} {obs : List Ob} {tail : List Int} {ws : List Nat} (S : St w g gw gb obs tail) (M : Mk.At w mg mw N ws) (z : Int) (W K top : Nat) (hW : (W : Int) = if z < 1 then 1 else if 65536 < z then 65536 else z) (ht : (flat obs).length = top) (hK : K = (top + W - 1) / W) (hz : InR z) :
    Calls Tryz.prog 26 #[.pointer (some ⟨g, 0, none⟩), .pointer (some ⟨mg, 0, none⟩), .int .i64 z] w fun e w' => ∃ b q a base l T, e = .returned (.pointer (some ⟨b, 0, none⟩)) ∧ Fh w' b q a base l W K T top (Mk.bit ws) (adr 0 obs) (isK (Mk.bit ws) (adr 0 obs)) ∧ T = firstR (Mk.bit ws) W (adr 0 obs) K ∧ Below w.heap.size w w' := by
  have hW1 : 1 ≤ W := by split at hW <;> (try split at hW) <;> omega
  have hW2 : W ≤ 65536 := by split at hW <;> (try split at hW) <;> omega
  have htop : top ≤ 65536 := by
    have h1 := S.lies.most
    have h2 := S.lies.fits
    omega
  have hK2 : K ≤ 65536 := by rw [hK]; exact kdiv_le hW1 htop hW2
  have HO := Lib.hid (of_any S M z W K top hW ht hK hz)
  have HS := Lib.hid S
  have HT := Lib.hid ht
  have HK := Lib.hid hK
  clear S M hW ht hK hz
  go_enter Tryz.func26, Tryz.ntmps26
  go_wp2_with fail
  refine HO.out.mono ?_
  rintro e w2 ⟨q, l, base, T, rfl, R2, G2, hT, hb2, hq⟩
  have HR2 := Lib.hid R2
  have HB2 := Lib.hid hb2
  have HG := Lib.hid G2
  have HTT := Lib.hid hT
  clear R2 G2 hT HO
  unfold rv
  have bX := below_one w2 (.cells #[.int .i64 (-1)] 3)
  have LX : Lies (w2.alloc (.cells #[.int .i64 (-1)] 3)) w2.heap.size 3 [.int .i64 (-1)] := Lies.new w2 3 [_]
  have sX : (w2.alloc (.cells #[.int .i64 (-1)] 3)).heap.size = w2.heap.size + 1 := by simp
  obtain ⟨w3, hw3⟩ : ∃ w3, w2.alloc (.cells #[.int .i64 (-1)] 3) = w3 := ⟨_, rfl⟩
  go_wp2_with fail
  rw [hw3] at bX LX sX
  have HR3 := Lib.hid (HR2.out.kept bX)
  have HB3 := Lib.hid (on HB2.out HB2.out.size bX)
  have HLX := Lib.hid LX
  have HSX := Lib.hid sX
  clear bX LX sX hw3 hb2
  refine (top_n (HS.out.kept HB3.out) top HT.out).mono ?_
  rintro e w4 ⟨rfl, rfl⟩
  go_wp2_with fail
  refine (repeat_any w2.heap.size top htop HLX.out).mono ?_
  rintro e w5 ⟨a, rfl, ha, L5, hb5⟩
  have HR5 := Lib.hid (HR3.out.kept hb5)
  have HB5 := Lib.hid (on HB3.out HB3.out.size hb5)
  have HA : Hid (w2.heap.size < a) := Lib.hid (by have := HSX.out; omega)
  have HL5 := Lib.hid L5
  clear L5 hb5 ha
  have bY := below_one w5 (.cells #[.int .i64 (W : Nat), .slice (some ⟨q, 0, none⟩) K K, .int .i64 (T : Nat), .slice (some ⟨a, 0, none⟩) top top] 109)
  have LY : Lies (w5.alloc (.cells #[.int .i64 (W : Nat), .slice (some ⟨q, 0, none⟩) K K, .int .i64 (T : Nat), .slice (some ⟨a, 0, none⟩) top top] 109)) w5.heap.size 109 [.int .i64 (W : Nat), .slice (some ⟨q, 0, none⟩) K K, .int .i64 (T : Nat), .slice (some ⟨a, 0, none⟩) top top] := Lies.new w5 109 [_, _, _, _]
  have F6 : Fh (w5.alloc (.cells #[.int .i64 (W : Nat), .slice (some ⟨q, 0, none⟩) K K, .int .i64 (T : Nat), .slice (some ⟨a, 0, none⟩) top top] 109)) w5.heap.size q a base l W K T top (Mk.bit ws) (adr 0 obs) (dk (Mk.bit ws) W (adr 0 obs) 0 []) := by
    refine ⟨LY, HR5.out.kept bY, HG.out, ?_, fun x hx e => ?_⟩
    · rw [dk_zero, rowV_none]; exact HL5.out.kept bY
    · have h1 := ((HR2.out.rows x hx).blk_lt e).2
      have h2 := HA.out
      omega
  have HB6 := Lib.hid (on HB5.out HB5.out.size bY)
  have HF6 := Lib.hid F6
  obtain ⟨b0, b1, b2, b3⟩ := F6.reads
  clear bY LY F6
  go_upto_region 2 with fail
  obtain ⟨w6, hw6⟩ : ∃ w6, w5.alloc (.cells #[.int .i64 (W : Nat), .slice (some ⟨q, 0, none⟩) K K, .int .i64 (T : Nat), .slice (some ⟨a, 0, none⟩) top top] 109) = w6 := ⟨_, rfl⟩
  rw [hw6] at HB6 HF6 b0 b1 b2 b3 ⊢
  clear hw6
  obtain ⟨b, hb⟩ : ∃ b, w5.heap.size = b := ⟨_, rfl⟩
  rw [hb] at HF6 b0 b1 b2 b3 ⊢
  clear hb
  go_wp2_with fail
  refine (len_any w6 W q K T).mono ?_
  rintro e w7 ⟨rfl, hb7⟩
  have HF7 := Lib.hid (HF6.out.kept hb7)
  have HB7 := Lib.hid (on HB6.out HB6.out.size hb7)
  have HA2 : Hid (w.heap.size ≤ a) := Lib.hid (by have := HA.out; have := HB2.out.size; omega)
  have hga : gw ≠ a := by have := HA2.out; have := HS.out.lies.words.lt; omega
  clear hb7 b0 b1 b2 b3
  go_wp2_with fail
  go_loopw [24, 8] (fun i _ wr => ∃ k : Nat, k ≤ K ∧ i = .int .i64 k ∧ Fh wr b q a base l W K T top (Mk.bit ws) (adr 0 obs) (dk (Mk.bit ws) W (adr 0 obs) k []) ∧ Below w.heap.size w wr) (fun i _ _ => K - (intOf i).toNat)
  case atStart => exact ⟨0, Nat.zero_le _, rfl, HF7.out, HB7.out⟩
  case round =>
    obtain ⟨k, hk, rfl, F, B⟩ := hrel
    have HFF := Lib.hid F
    have HBB := Lib.hid B
    clear F B
    by_cases hlt : k < K
    · go_wp2_with fail
      refine (look_any k HFF.out (HS.out.kept HBB.out) hga hlt hK2 HT.out).mono ?_
      rintro e w8 ⟨rfl, F8, E8⟩
      have hsz := HBB.out.size
      have hA := HA2.out
      have HB8 := Lib.hid (HBB.out.trans (E8.below hsz hA hA hA))
      have HF8 := Lib.hid F8
      clear F8 E8 hsz hA
      go_wp2
      refine ⟨⟨k + 1, by omega, by go_num, HF8.out, HB8.out⟩, by simp [intOf]; omega⟩
    · obtain rfl : k = K := by omega
      go_wp2_with fail
      go_ret
      refine ⟨b, q, a, base, l, T, rfl, HFF.out.cong fun p hp => ?_, HTT.out, HBB.out⟩
      rw [HK.out]; exact dk_end hW1 hp
end Go.Proofs.YtklhdilbmpndkaaGreat

namespace Go.Proofs.YtklhdilbmpndkaaGreat
set_option maxRecDepth 20000
open Go.RowKit Go.Sort
set_option linter.unusedVariables false
set_option linter.unusedSimpArgs false

/-- All that New makes, and the numbers in it. -/
structure Fo (w : World) (b W K T top : Nat) (f : Nat → Bool) (obs : List Ob) : Prop where
  fh : ∃ q a base l, Fh w b q a base l W K T top f (adr 0 obs) (isK f (adr 0 obs))
  sum : T = firstR f W (adr 0 obs) K
  w1 : 1 ≤ W
  w2 : W ≤ 65536
  many : K = (top + W - 1) / W
  top_ : (flat obs).length = top
  most : top ≤ 65536
section
variable {w w' : World} {b W K T top : Nat} {f : Nat → Bool} {obs : List Ob}
theorem Fo.kept (h : Fo w b W K T top f obs) (hb : Below w.heap.size w w') : Fo w' b W K T top f obs := by
  obtain ⟨q, a, base, l, hF⟩ := h.fh
  exact ⟨⟨q, a, base, l, hF.kept hb⟩, h.sum, h.w1, h.w2, h.many, h.top_, h.most⟩
theorem Fo.total (h : Fo w b W K T top f obs) : T = sumL ((adr 0 obs).filter (keepB f)) := by
  rw [h.sum, h.many]
  exact in_all f h.w1 fun x hx => by have := adr_lt hx; have := h.top_; omega
theorem Fo.k65 (h : Fo w b W K T top f obs) : K ≤ 65536 := by rw [h.many]; exact kdiv_le h.w1 h.most h.w2

set_option maxRecDepth 1000000 in
set_option maxHeartbeats 4000000 in
theorem to_yes (h : Fo w b W K T top f obs) (p r : Nat) (hp : isK f (adr 0 obs) p = true) (hr : goS f (adr 0 obs) p = r) :
    Calls Tryz.prog 53 #[.pointer (some ⟨b, 0, none⟩), .int .i64 (p : Nat)] w fun e w' => e = .returned (.tuple #[.int .i64 (r : Nat), .int .i64 0]) ∧ Below w.heap.size w w' := by
  obtain ⟨q, a, base, l, hF⟩ := h.fh
  have htop := h.most
  have hpt : p < top := by have := (isK_lt hp).1; have := h.top_; omega
  have hW1 := h.w1
  have hW2 := h.w2
  have hk : p / W < K := by
    rw [h.many, Nat.div_lt_iff_lt_mul (by omega), Nat.mul_comm]
    have h2 := Nat.div_add_mod (top + W - 1) W
    have h3 := Nat.mod_lt (top + W - 1) (show W > 0 by omega)
    omega
  obtain ⟨x, hx, -, -, hf⟩ := hF.all.2 (p / W) hk
  rw [if_pos hk] at hf
  have hsum := go_sum (f := f) (n := W) (p := p) (L := adr 0 obs)
  rw [← hf, hr] at hsum
  have hrp : r ≤ p := by rw [← hr]; exact go_le hp
  obtain ⟨v, hv⟩ : ∃ v, valR f W (adr 0 obs) p = v := ⟨_, rfl⟩
  obtain ⟨S, hS⟩ : ∃ S, x.first = S := ⟨_, rfl⟩
  rw [hS, hv] at hsum
  have ca : w.cell? ⟨a, p, none⟩ = some (.int .i64 (v : Nat)) := by
    rw [hF.row.cell, List.getElem?_map, rowV_at hpt, if_pos hp, hv]; rfl
  obtain ⟨b0, b1, b2, b3⟩ := hF.reads
  have HC1 := Lib.hid (fun (V : World) (hV : Below w.heap.size w V) => at_any V W q K T p hW1 hW2 (by omega))
  have HC2 := Lib.hid (fun (V : World) (hV : Below w.heap.size w V) => first_any (hF.rg.kept hV) W K T (p / W) hF.all.1 h.k65 x hx)
  obtain ⟨kk, hkk⟩ : ∃ kk, p / W = kk := ⟨_, rfl⟩
  rw [hkk, hS] at HC2
  rw [hkk] at HC1
  unfold rv at HC1 HC2
  have p0 : (0 : Int) ≤ (p : Int) := by omega
  have p1 : (p : Int) < (top : Int) := by omega
  have d0 : decide ((p : Int) < 0) = false := by simp
  have d1 : decide ((top : Int) ≤ (p : Int)) = false := by simp; omega
  have d2 : ((v : Int) == -1) = false := by simp
  have ea : (⟨a, 0, none⟩ : Addr).add p = ⟨a, p, none⟩ := add_at a p
  have HSM := Lib.hid hsum
  have hw : IntKind.i64.wrap ((S : Int) + (v : Int)) = (r : Int) := by rw [IntWalk.i64_in _ (by omega)]; omega
  clear h hF hx hf hr hv hS hkk hk hp hsum
  go_enter Tryz.func53, Tryz.ntmps53
  go_upto_region 3 with fail
  have hmx : Tryz.prog.follows .mixedOrders = true := by kernel_rfl
  have c1 : ∀ d os, Hid (Calls Tryz.prog 59 #[.agg #[.int .i64 (W : Nat), .slice (some ⟨q, 0, none⟩) K K, .int .i64 (T : Nat)], .int .i64 (p : Nat)] (grow (redrawn w d) os) fun e w' => e = .returned (.int .i64 (kk : Nat)) ∧ Below (grow (redrawn w d) os).heap.size (grow (redrawn w d) os) w') := fun d os => Lib.hid (HC1.out _ (below_regrown w d os))
  have c2 : ∀ d os, Hid (Calls Tryz.prog 84 #[.agg #[.int .i64 (W : Nat), .slice (some ⟨q, 0, none⟩) K K, .int .i64 (T : Nat)], .int .i64 (kk : Nat)] (grow (redrawn w d) os) fun e w' => e = .returned (.int .i64 (S : Nat)) ∧ Below (grow (redrawn w d) os).heap.size (grow (redrawn w d) os) w') := fun d os => Lib.hid (HC2.out _ (below_regrown w d os))
  have y0 : ∀ d os, (grow (redrawn w d) os).cell? ⟨b, 0, none⟩ = some (.int .i64 (W : Nat)) := fun d os => cell_regrown b0 d os
  have y1 : ∀ d os, (grow (redrawn w d) os).cell? ⟨b, 1, none⟩ = some (.slice (some ⟨q, 0, none⟩) K K) := fun d os => cell_regrown b1 d os
  have y2 : ∀ d os, (grow (redrawn w d) os).cell? ⟨b, 2, none⟩ = some (.int .i64 (T : Nat)) := fun d os => cell_regrown b2 d os
  have y3 : ∀ d os, (grow (redrawn w d) os).cell? ⟨b, 3, none⟩ = some (.slice (some ⟨a, 0, none⟩) top top) := fun d os => cell_regrown b3 d os
  have y4 : ∀ d os, (grow (redrawn w d) os).cell? ⟨a, p, none⟩ = some (.int .i64 (v : Nat)) := fun d os => cell_regrown ca d os
  clear b0 b1 b2 b3 ca
  refine wp_region_quiet_below hmx (by kernel_rfl) ?_
  repeat (with_reducible refine wpQuiet_step ?_; intro K hK; go_simp; first | (with_reducible refine hK _ ?_; clear hK K) | (with_reducible apply Exists.intro; with_reducible refine ⟨fun _ => ?_, hK _ ?_⟩; (first | (with_reducible exact Calls.regrown_of (c1 _ _).out) | (with_reducible exact Calls.regrown_of (c2 _ _).out)); clear hK K))
  with_reducible refine wpQuiet_nil ?_
  rintro wq ⟨pp, rfl⟩
  have hq := below_regrown w pp.d pp.os
  generalize grow (redrawn w pp.d) pp.os = wq at *
  go_wp2_with fail
  go_ret2
  exact ⟨rfl, hq⟩

set_option maxRecDepth 1000000 in
set_option maxHeartbeats 4000000 in
theorem to_no (h : Fo w b W K T top f obs) (z : Int) (hz : z < 0 ∨ (top : Int) ≤ z ∨ isK f (adr 0 obs) z.toNat = false) :
    Calls Tryz.prog 53 #[.pointer (some ⟨b, 0, none⟩), .int .i64 z] w fun e w' => e = .returned (.tuple #[.int .i64 0, .int .i64 3]) ∧ Below w.heap.size w w' := by
  obtain ⟨q, a, base, l, hF⟩ := h.fh
  obtain ⟨b0, b1, b2, b3⟩ := hF.reads
  by_cases h1 : z < 0
  · have d0 : decide (z < 0) = true := by simp [h1]
    clear hF h hz
    go_enter Tryz.func53, Tryz.ntmps53
    go_wp2
    go_ret2
    exact ⟨rfl, Below.refl _ _⟩
  have d0 : decide (z < 0) = false := by simp; omega
  by_cases h2 : (top : Int) ≤ z
  · have d1 : decide ((top : Int) ≤ z) = true := by simp [h2]
    clear hF h hz
    go_enter Tryz.func53, Tryz.ntmps53
    go_wp2
    go_ret2
    exact ⟨rfl, Below.refl _ _⟩
  have d1 : decide ((top : Int) ≤ z) = false := by simp; omega
  obtain ⟨p, rfl⟩ := Int.eq_ofNat_of_zero_le (show 0 ≤ z by omega)
  have hpt : p < top := by omega
  have hk : isK f (adr 0 obs) p = false := by
    rcases hz with h | h | h
    · omega
    · omega
    · simpa using h
  have ca : w.cell? ⟨a, p, none⟩ = some (.int .i64 (-1)) := by
    rw [hF.row.cell, List.getElem?_map, rowV_at hpt, hk]; rfl
  have p0 : (0 : Int) ≤ (p : Int) := by omega
  have p1 : (p : Int) < (top : Int) := by omega
  have ea : (⟨a, 0, none⟩ : Addr).add p = ⟨a, p, none⟩ := add_at a p
  clear hF h hz hk h1 h2
  go_enter Tryz.func53, Tryz.ntmps53
  go_wp2
  go_ret2
  exact ⟨rfl, Below.refl _ _⟩

set_option maxRecDepth 100000 in
set_option maxHeartbeats 1000000 in
theorem word_zero : Calls Tryz.prog 35 #[.pointer (some ⟨b, 0, none⟩), .int .i64 0] w fun e w' => e = .returned (.tuple #[.int .i64 0, .int .i64 0]) ∧ Below w.heap.size w w' := by
  go_enter Tryz.func35, Tryz.ntmps35
  go_wp2
  go_ret2
  exact ⟨rfl, Below.refl _ _⟩
set_option maxRecDepth 100000 in
set_option maxHeartbeats 1000000 in
theorem word_yes (h : Fo w b W K T top f obs) (z : Int) (p r : Nat) (hzp : z = (p : Int) + 1) (hp : isK f (adr 0 obs) p = true) (hr : goS f (adr 0 obs) p = r) :
    Calls Tryz.prog 35 #[.pointer (some ⟨b, 0, none⟩), .int .i64 z] w fun e w' => e = .returned (.tuple #[.int .i64 ((r : Int) + 1), .int .i64 0]) ∧ Below w.heap.size w w' := by
  have hpt : p < top := by have := (isK_lt hp).1; have := h.top_; omega
  have htop := h.most
  have hrp : r ≤ p := by rw [← hr]; exact go_le hp
  have HC := Lib.hid (to_yes h p r hp hr)
  have hw : IntKind.i64.wrap (z - 1) = (p : Int) := by rw [IntWalk.i64_in _ (by omega)]; omega
  have d0 : (z == 0) = false := by simp; omega
  clear h hp hr
  go_enter Tryz.func35, Tryz.ntmps35
  go_wp2_with fail
  refine HC.out.mono ?_
  rintro e w2 ⟨rfl, hb⟩
  have HB := Lib.hid hb
  clear hb HC hw
  go_wp2
  go_ret2
  exact ⟨rfl, HB.out⟩
set_option maxRecDepth 100000 in
set_option maxHeartbeats 1000000 in
theorem word_no (h : Fo w b W K T top f obs) (z y : Int) (hz : z ≠ 0) (hy : IntKind.i64.wrap (z - 1) = y) (hn : y < 0 ∨ (top : Int) ≤ y ∨ isK f (adr 0 obs) y.toNat = false) :
    Calls Tryz.prog 35 #[.pointer (some ⟨b, 0, none⟩), .int .i64 z] w fun e w' => e = .returned (.tuple #[.int .i64 0, .int .i64 5]) ∧ Below w.heap.size w w' := by
  have HC := Lib.hid (to_no h y hn)
  have d0 : (z == 0) = false := by simp [hz]
  clear h hn hz
  go_enter Tryz.func35, Tryz.ntmps35
  go_wp2_with fail
  refine HC.out.mono ?_
  rintro e w2 ⟨rfl, hb⟩
  have HB := Lib.hid hb
  clear hb HC hy
  go_wp2
  go_ret2
  exact ⟨rfl, HB.out⟩
set_option maxRecDepth 100000 in
set_option maxHeartbeats 1000000 in
theorem ftop_any (h : Fo w b W K T top f obs) : Calls Tryz.prog 34 #[.pointer (some ⟨b, 0, none⟩)] w fun e w' => e = .returned (.int .i64 (T : Nat)) ∧ Below w.heap.size w w' := by
  obtain ⟨q, a, base, l, hF⟩ := h.fh
  obtain ⟨b0, b1, b2, b3⟩ := hF.reads
  have HC := Lib.hid (total_any w W q K T)
  unfold rv at HC
  clear h hF
  go_enter Tryz.func34, Tryz.ntmps34
  go_wp2_with fail
  refine HC.out.mono ?_
  rintro e w2 ⟨rfl, hb⟩
  have HB := Lib.hid hb
  clear hb HC b0 b1 b2 b3
  go_wp2
  go_ret
  exact ⟨rfl, HB.out⟩
end
end Go.Proofs.YtklhdilbmpndkaaGreat
