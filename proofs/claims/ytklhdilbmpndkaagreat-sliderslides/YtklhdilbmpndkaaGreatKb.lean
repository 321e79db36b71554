/- What rounds of steps come to: for the laws. Reach: what is reached, as a list of yes and no. reached: a heap, its roots, marks of all that is reached, and which objects are. What Slide makes: plain. -/
import Derived.Test.YtklhdilbmpndkaaGreatHj
import Derived.Test.YtklhdilbmpndkaaGreatGs
import Derived.Test.YtklhdilbmpndkaaGreatGj
import Derived.Deep.DeepCutAuto
import Derived.Test.YtklhdilbmpndkaaGreatGv
import Derived.Test.YtklhdilbmpndkaaGreatHd
namespace Go.Proofs.YtklhdilbmpndkaaGreat
set_option maxRecDepth 20000
open Go.RowKit
set_option linter.unusedVariables false
set_option linter.unusedSimpArgs false


section
variable {C : Cx} {size : Nat} {base : Nat → Int} {Q Q0 : Pm} {w0 : W2} {w w' : World} {t : Int} {V V' : Nat → Prop}
theorem Run.old (R : Run C size base w0 w t Q) : Below w0.heap.size w0.toWorld w := by
  obtain ⟨M, h, _⟩ := R.mem; exact h.old
theorem phi_pos (R : Run C size base w0 w t Q) (hl : Q.left ≠ 0) : 0 < Phi C Q := by
  obtain ⟨j, hj, hc⟩ := goes_on R.cok R.inv hl
  have := phi_falls R.inv hj hc
  omega
theorem InRnd.mono (h : InRnd C Q0 Q V) (hv : ∀ j, V' j → V j) : InRnd C Q0 Q V' := by
  rcases h with h | h | ⟨h1, h2⟩
  · exact .inl h
  · exact .inr (.inl h)
  · exact .inr (.inr ⟨h1, fun j hj => h2 j (hv j hj)⟩)
end
end Go.Proofs.YtklhdilbmpndkaaGreat

namespace Go.Proofs.YtklhdilbmpndkaaGreat
set_option maxRecDepth 20000
open Go.RowKit Go.Sort
set_option linter.unusedVariables false
set_option linter.unusedSimpArgs false


/-- Which object a reference leads to. -/
def toI (obs : List Ob) (z : Int) : Nat := (findV obs (z - 1)).toNat
theorem led_to {obs : List Ob} {z : Int} (h : astrayO obs z = false) (h0 : z ≠ 0) : 1 ≤ z ∧ findV obs (z - 1) = (toI obs z : Nat) ∧ ∃ o, obs[toI obs z]? = some o ∧ o.1 % 16 ≠ 15 := by
  rcases live_astray h with e | ⟨pre, o, post, e, ha, hk⟩
  · exact absurd e h0
  · have ho : obs[pre.length]? = some o := by rw [e]; simp
    have hat : z - 1 = (atI obs pre.length : Nat) := by rw [ha]; unfold atI; rw [e]; simp
    have hf := find_here ho hat
    unfold toI
    rw [hf]
    exact ⟨by omega, by simp, o, by simpa using ho, hk⟩
/-- What is reached stays: it is no filler. -/
structure Rc (obs : List Ob) (st : List Bool) : Prop where
  len : st.length = obs.length
  no : ∀ (k : Nat) (o : Ob), obs[k]? = some o → st[k]? = some true → o.1 % 16 ≠ 15
def led (obs : List Ob) (st : List Bool) (z : Int) : Prop := z = 0 ∨ st[toI obs z]? = some true
def shut (obs : List Ob) (st : List Bool) (k : Nat) : Prop := ∀ o, obs[k]? = some o → st[k]? = some true → ∀ j, j < ptrs o.1 → led obs st (o.2.getD j 0)
theorem set_keeps {st : List Bool} {i k : Nat} (h : st[k]? = some true) : (st.set i true)[k]? = some true := by
  rw [List.getElem?_set]
  by_cases e : i = k
  · subst e
    have := (List.getElem?_eq_some_iff.1 h).1
    rw [if_pos rfl, if_pos this]
  · rw [if_neg e]; exact h
theorem led_set {obs : List Ob} {st : List Bool} {i : Nat} {z : Int} (h : led obs st z) : led obs (st.set i true) z := by
  rcases h with h | h
  · exact .inl h
  · exact .inr (set_keeps h)
theorem led_self {obs : List Ob} {st : List Bool} {z : Int} (h : toI obs z < st.length) : led obs (st.set (toI obs z) true) z := .inr (by rw [List.getElem?_set, if_pos rfl, if_pos h])
theorem Rc.set {obs : List Ob} {st : List Bool} (h : Rc obs st) {i : Nat} {o : Ob} (ho : obs[i]? = some o) (hk : o.1 % 16 ≠ 15) : Rc obs (st.set i true) := by
  refine ⟨by rw [List.length_set]; exact h.len, fun k o' ho' hs => ?_⟩
  by_cases e : i = k
  · subst e; rw [ho] at ho'; injection ho' with e; rw [← e]; exact hk
  · rw [List.getElem?_set, if_neg e] at hs; exact h.no k o' ho' hs
def isF : Option Value → Bool
  | some (.bool false) => true
  | _ => false
/-- How many aren't reached. -/
def fls (st : List Bool) : Nat := st.countP fun b => !b
def flsW (w : World) (q n : Nat) : Nat := ((List.range n).map fun k => w.cell? ⟨q, k, none⟩).countP isF
theorem fls_w {w : World} {q n : Nat} {st : List Bool} (h : Lies w q 4 (st.map Value.bool)) (hn : st.length = n) : flsW w q n = fls st := by
  have e : ((List.range n).map fun k => w.cell? ⟨q, k, none⟩) = st.map fun b => some (Value.bool b) := by
    refine List.ext_getElem? fun k => ?_
    rw [List.getElem?_map, List.getElem?_map]
    by_cases hk : k < n
    · rw [List.getElem?_range hk]
      have hk2 : k < st.length := by omega
      show some (w.cell? ⟨q, k, none⟩) = _
      rw [h.cell, List.getElem?_map, List.getElem?_eq_getElem hk2]
      rfl
    · rw [List.getElem?_eq_none (by simp; omega), List.getElem?_eq_none (by omega)]
      rfl
  unfold flsW fls
  rw [e, List.countP_map]
  congr 1
  funext b
  cases b <;> rfl
theorem fls_set : ∀ (st : List Bool) (i : Nat), st[i]? = some false → fls (st.set i true) + 1 = fls st
  | [], i, h => by simp at h
  | b :: l, 0, h => by
    have e : b = false := by simpa using h
    subst e
    simp [fls]
  | b :: l, i + 1, h => by
    have ih := fls_set l i (by simpa using h)
    unfold fls at ih ⊢
    rw [List.set_cons_succ, List.countP_cons, List.countP_cons]
    omega
theorem map_set (st : List Bool) (i : Nat) : (st.set i true).map Value.bool = (st.map Value.bool).set i (.bool true) := List.map_set

def boolOf : Value → Nat
  | .bool true => 1
  | _ => 0
set_option maxRecDepth 100000 in
set_option maxHeartbeats 4000000 in
theorem reach_any {w : World} {A B : Option Addr} {obs : List Ob} {rts : List Int} (s : Int) (n c m cap : Nat) (hf : Fine obs) (h : Things w A obs) (hn : obs.length = n) (hm : (flat obs).length ≤ 65536) (hr : Row w B rts) (hrl : rts.length = m) (hrg : ∀ r ∈ rts, astrayO obs r = false) (hc : Clean obs) (hm2 : m ≤ 65536) :
    Calls Tryz.prog 24 #[.agg #[.int .i64 s, .slice A n c], .slice B m cap] w fun e w' => ∃ q st, e = .returned (.slice (some ⟨q, 0, none⟩) n n) ∧ w.heap.size ≤ q ∧ Lies w' q 4 (st.map Value.bool) ∧ Rc obs st ∧ (∀ r ∈ rts, led obs st r) ∧ (∀ k, shut obs st k) ∧ Below w.heap.size w w' := by
  have hn6 : n ≤ 65536 := by have := count_le obs; omega
  have hmk := make75 n hn6 (w.alloc (.cells #[.int .i64 s, .slice A n c] 34))
  have HH := Lib.hid h
  have HF := Lib.hid hf
  have HN := Lib.hid hn
  have HM := Lib.hid hm
  have HR := Lib.hid hr
  have HRL := Lib.hid hrl
  have HRG := Lib.hid hrg
  have HC := Lib.hid hc
  have HFD := Lib.hid (fun V (hV : Below w.heap.size w V) (a : Int) => rfind_any s a n c (h.kept hV) hn hn6)
  have HTI : Hid (∀ z, astrayO obs z = false → z ≠ 0 → 1 ≤ z ∧ z ≤ 65536 ∧ ∃ (i : Nat) (o : Ob), i = toI obs z ∧ i < n ∧ findV obs (z - 1) = (i : Nat) ∧ obs[i]? = some o ∧ o.1 % 16 ≠ 15) := Lib.hid fun z hz h0 => by
    obtain ⟨h1, h2, o, h3, h4⟩ := led_to hz h0
    have hlt := (List.getElem?_eq_some_iff.1 h3).1
    refine ⟨h1, ?_, toI obs z, o, rfl, by omega, h2, h3, h4⟩
    rcases live_astray hz with e | ⟨pre, o', post, e, ha, _⟩
    · exact absurd e h0
    · rw [e, flat_append, flat_cons, List.length_append] at hm
      simp at hm; omega
  have HLB0 := Lib.hid ((Lies.new w 34 [.int .i64 s, .slice A n c]).alloc (.cells (noBits n).toArray 4))
  have HLQ0 : Hid (Lies ((w.alloc (.cells #[.int .i64 s, .slice A n c] 34)).alloc (.cells (noBits n).toArray 4)) (w.heap.size + 1) 4 (((List.replicate n false).map Value.bool))) := Lib.hid (by
    have := Lies.new (w.alloc (.cells #[.int .i64 s, .slice A n c] 34)) 4 (noBits n)
    rw [World.size_alloc, noBits_eq] at this
    rw [noBits_eq]; exact this)
  have HB0 := Lib.hid (((Below.refl _ w).alloc (Nat.le_refl _) (.cells #[.int .i64 s, .slice A n c] 34)).alloc (by simp) (.cells (noBits n).toArray 4))
  have sq : (w.alloc (.cells #[.int .i64 s, .slice A n c] 34)).heap.size = w.heap.size + 1 := by simp
  obtain ⟨q, hq⟩ : ∃ q, w.heap.size + 1 = q := ⟨_, rfl⟩
  rw [sq, hq] at hmk
  rw [hq] at HLQ0
  obtain ⟨wb, hwb⟩ : ∃ wb, (w.alloc (.cells #[.int .i64 s, .slice A n c] 34)).alloc (.cells (noBits n).toArray 4) = wb := ⟨_, rfl⟩
  rw [hwb] at hmk HLB0 HLQ0 HB0
  have HQ := Lib.hid hq
  have hbq : w.heap.size ≠ q := by omega
  have hbq2 : w.heap.size ≤ q := by omega
  clear h hf hn hm hr hrl hrg hc hq sq hwb
  go_enter Tryz.func24, Tryz.ntmps24
  go_wp2
  go_loopw [17] (fun i wr => ∃ (j : Nat) (st : List Bool), j ≤ m ∧ i = .int .i64 (j : Nat) ∧ Rc obs st ∧ (∀ r ∈ rts.take j, led obs st r) ∧ Lies wr q 4 (st.map Value.bool) ∧ Lies wr w.heap.size 34 [.int .i64 s, .slice A n c] ∧ Below w.heap.size w wr) (fun i _ => m - (intOf i).toNat)
  case atStart => exact ⟨0, List.replicate n false, Nat.zero_le _, rfl, ⟨by simp [HN.out], fun k o _ h => by rw [List.getElem?_replicate] at h; split at h <;> simp at h⟩, fun r hr => by simp at hr, HLQ0.out, HLB0.out, HB0.out⟩
  case round =>
    obtain ⟨j, st, hj, rfl, hrc, hled, hL, hLB, hb⟩ := hrel
    have HRC := Lib.hid hrc
    have HLED := Lib.hid hled
    have HL := Lib.hid hL
    have HLB := Lib.hid hLB
    have HB := Lib.hid hb
    have x0 : wr.cell? ⟨w.heap.size, 0, none⟩ = some (.int .i64 s) := hLB.cell 0
    have x1 : wr.cell? ⟨w.heap.size, 1, none⟩ = some (.slice A n c) := hLB.cell 1
    by_cases hlt : j < m
    · have hjl : j < rts.length := by rw [HRL.out]; exact hlt
      obtain ⟨bd, rfl, cz⟩ := (HR.out.kept hb).at_ hjl
      obtain ⟨z, hz⟩ : ∃ z, rts.getD j 0 = z := ⟨_, rfl⟩
      rw [hz] at cz
      have hzm : astrayO obs z = false := HRG.out z (by rw [← hz]; simp [List.getD, hjl])
      have htk : rts.take (j + 1) = rts.take j ++ [z] := by
        rw [← List.take_append_getElem hjl]
        have : rts.getD j 0 = rts[j] := by simp [List.getD, hjl]
        rw [← hz, this]
      have HTK := Lib.hid htk
      have k0 : (0 : Int) ≤ (j : Int) := by omega
      have k1 : (j : Int) < (m : Int) := by omega
      by_cases hz0 : z = 0
      · subst hz0
        clear hz hzm htk hrc hled hL hLB hb hjl
        go_wp2_with fail
        refine ⟨⟨j + 1, st, by omega, by go_num, HRC.out, fun r hr => ?_, HL.out, HLB.out, HB.out⟩, by simp [intOf]; omega⟩
        rw [HTK.out] at hr
        rcases List.mem_append.1 hr with h | h
        · exact HLED.out r h
        · rw [List.mem_singleton] at h; exact .inl h
      · obtain ⟨hz1, hz2, i, o, hi, hin, hfv, ho, hk⟩ := HTI.out z hzm hz0
        obtain ⟨y, hy⟩ : ∃ y, z - 1 = y := ⟨_, rfl⟩
        rw [hy] at hfv
        have hyw : IntKind.i64.wrap (z - 1) = y := by rw [← hy]; exact IntWalk.i64_in _ (by omega)
        have d1 : decide (0 < z) = true := by simp; omega
        have hcall := Lib.hid (fun V (hV : Below w.heap.size w V) => HFD.out V hV y)
        rw [hfv] at hcall
        have HRC2 := Lib.hid (HRC.out.set ho hk)
        have HSELF : Hid (led obs (st.set i true) z) := Lib.hid (by rw [hi]; exact led_self (by rw [← hi, HRC.out.len, HN.out]; exact hin))
        obtain ⟨b0, hb0⟩ : ∃ b0, st[i]? = some b0 := ⟨_, List.getElem?_eq_getElem (by rw [HRC.out.len, HN.out]; exact hin)⟩
        have HB00 := Lib.hid hb0
        have i0 : (0 : Int) ≤ (i : Int) := by omega
        have i1 : (i : Int) < (n : Int) := by omega
        have ea : (⟨q, 0, none⟩ : Addr).add i = ⟨q, i, none⟩ := add_at q i
        have hlw := hL.lt
        clear hz hzm htk hrc hled hL hLB hb hjl hz0 hi hfv ho hk hy hb0
        go_upto_region 6 with fail
        go_region_with ((first | (go_at_call 38; refine (hcall.out _ (by first | exact HB.out.drew | exact HB.out)).mono ?_; rintro e w5 ⟨rfl, hb5⟩; (have HK5 : Hid (Below wr.heap.size wr w5) := Lib.hid (on (b := wr.drew) (Below.refl _ wr).drew (by exact Nat.le_refl _) hb5)); (have HL5 := Lib.hid (HL.out.kept HK5.out)); (have cq5 : w5.cell? ⟨q, i, none⟩ = some (.bool b0) := by rw [HL5.out.cell, List.getElem?_map, HB00.out]; rfl); (have f5 := HL5.out.frozen i); (have l5 : q < w5.heap.size := HL5.out.lt); clear hb5) | fail))
        all_goals
          go_wp2_with fail
          refine ⟨⟨j + 1, st.set i true, by omega, by go_num, HRC2.out, fun r hr => ?_, ?_, (HLB.out.kept HK5.out).far (p := ⟨q, i, none⟩) (by show w.heap.size ≠ q; exact hbq) _, (on HB.out HB.out.size HK5.out).setCell (p := ⟨q, i, none⟩) (by show w.heap.size ≤ q; exact hbq2) _⟩, by simp [intOf]; omega⟩
          · rw [HTK.out] at hr
            rcases List.mem_append.1 hr with h | h
            · exact led_set (HLED.out r h)
            · rw [List.mem_singleton] at h; rw [h]; exact HSELF.out
          · rw [map_set]; exact HL5.out.set i _
    · obtain rfl : j = m := by omega
      have hall : rts.take j = rts := by rw [← HRL.out, List.take_length]
      rw [hall] at hled
      have HLED := Lib.hid hled
      have hlw := hL.lt
      clear hrc hL hLB hb hall hled x0 x1 hlt
      go_wp2_with fail
      go_loopw [7] (fun v wr => ∃ (mo : Bool) (st : List Bool), v = .bool mo ∧ Rc obs st ∧ (∀ r ∈ rts, led obs st r) ∧ (mo = false → ∀ k, shut obs st k) ∧ Lies wr q 4 (st.map Value.bool) ∧ Lies wr w.heap.size 34 [.int .i64 s, .slice A n c] ∧ Below w.heap.size w wr) (fun v wr => 2 * flsW wr q n + boolOf v)
      case atStart => exact ⟨true, st, rfl, HRC.out, HLED.out, (fun h => by cases h), HL.out, HLB.out, HB.out⟩
      case round =>
        obtain ⟨mo, st0, rfl, hrc, hled, hshut, hL, hLB, hb⟩ := hrel
        have HRC := Lib.hid hrc
        have HLED := Lib.hid hled
        have HSH := Lib.hid hshut
        have HL := Lib.hid hL
        have HLB := Lib.hid hLB
        have HB := Lib.hid hb
        have HFL := Lib.hid (fls_w hL (hrc.len.trans HN.out))
        have x1 : wr.cell? ⟨w.heap.size, 1, none⟩ = some (.slice A n c) := hLB.cell 1
        clear hrc hled hshut hL hLB hb
        cases mo with
        | false =>
          go_wp2_with fail
          go_ret
          exact ⟨q, rfl, hbq2, st0, HL.out, HRC.out, HLED.out, HSH.out (by first | rfl | trivial), HB.out⟩
        | true =>
          go_wp2_with fail
          go_loopw [39, 7] (fun i v wr => ∃ (k : Nat) (mo : Bool) (st : List Bool), k ≤ n ∧ i = .int .i64 (k : Nat) ∧ v = .bool mo ∧ Rc obs st ∧ (∀ r ∈ rts, led obs st r) ∧ (mo = false → st = st0 ∧ ∀ x, x < k → shut obs st0 x) ∧ (mo = true → fls st < fls st0) ∧ Lies wr q 4 (st.map Value.bool) ∧ Lies wr w.heap.size 34 [.int .i64 s, .slice A n c] ∧ Below w.heap.size w wr) (fun i _ _ => n - (intOf i).toNat)
          case atStart => exact ⟨0, false, st0, Nat.zero_le _, rfl, rfl, HRC.out, HLED.out, fun _ => ⟨rfl, fun x h => absurd h (Nat.not_lt_zero _)⟩, (fun h => by cases h), HL.out, HLB.out, HB.out⟩
          case round =>
            obtain ⟨k, mo, st, hk, rfl, rfl, hrc, hled, hno, hyes, hL, hLB, hb⟩ := hrel
            have HRC3 := Lib.hid hrc
            have HLED3 := Lib.hid hled
            have HNO := Lib.hid hno
            have HYES := Lib.hid hyes
            have HL3 := Lib.hid hL
            have HLB3 := Lib.hid hLB
            have HB3 := Lib.hid hb
            clear hrc hled hno hyes hL hLB hb x1
            by_cases hkn : k < n
            · obtain ⟨o, ho⟩ : ∃ o, obs[k]? = some o := ⟨_, List.getElem?_eq_getElem (by rw [HN.out]; exact hkn)⟩
              have hfo := HF.out o (List.mem_of_getElem? ho)
              have hco := HC.out o (List.mem_of_getElem? ho)
              obtain ⟨_, _, _, _, hp0, hp1, _⟩ := (good_iff _ _ _).1 (head_good hfo.1)
              obtain ⟨P, hP⟩ : ∃ P, ptrs o.1 = P := ⟨_, rfl⟩
              have hP2 : o.1 % 65536 / 16 = (P : Nat) := by rw [← hP]; unfold ptrs; omega
              have hlen4 : o.2.length ≤ 4095 := by have := hfo.2; have := len_le hfo.1; omega
              have hPl : P ≤ o.2.length := by
                have h1 := hfo.2
                have h2 := head_nn hfo.1
                unfold lenOf at h1
                omega
              have HGD : Hid (∀ r, r < P → astrayO obs (o.2.getD r 0) = false) := Lib.hid fun r hr => by
                refine astray_live (hco.2 _ ?_)
                have hlt : r < o.2.length := by omega
                refine List.mem_of_getElem? (i := r) ?_
                rw [hP, List.getElem?_take_of_lt hr, List.getElem?_eq_getElem hlt]
                simp [List.getD, hlt]
              have HP2 := Lib.hid hP2
              have HPP := Lib.hid hP
              have HO := Lib.hid ho
              have k0 : (0 : Int) ≤ (k : Int) := by omega
              have k1 : (k : Int) < (n : Int) := by omega
              have ea : (⟨q, 0, none⟩ : Addr).add k = ⟨q, k, none⟩ := add_at q k
              obtain ⟨b1, hb1⟩ : ∃ b1, st[k]? = some b1 := ⟨_, List.getElem?_eq_getElem (by rw [HRC3.out.len, HN.out]; exact hkn)⟩
              have HB1 := Lib.hid hb1
              clear hfo hco hp0 hp1 ho hP hP2 hb1
              go_wp2_with fail
              go_loopw [9, 7] (fun i v wr => ∃ (p : Nat) (mo : Bool) (st : List Bool) (bb : Bool), p ≤ P ∧ i = .int .i64 (p : Nat) ∧ v = .bool mo ∧ Rc obs st ∧ (∀ r ∈ rts, led obs st r) ∧ st[k]? = some bb ∧ (bb = false → p = 0) ∧ (mo = false → st = st0 ∧ (∀ x, x < k → shut obs st0 x) ∧ ∀ r, r < p → led obs st0 (o.2.getD r 0)) ∧ (mo = true → fls st < fls st0) ∧ Lies wr q 4 (st.map Value.bool) ∧ Lies wr w.heap.size 34 [.int .i64 s, .slice A n c] ∧ Below w.heap.size w wr) (fun i _ _ => P - (intOf i).toNat)
              case atStart => exact ⟨0, mo, st, b1, Nat.zero_le _, rfl, rfl, HRC3.out, HLED3.out, HB1.out, fun _ => rfl, fun h => ⟨(HNO.out h).1, (HNO.out h).2, fun r hr => absurd hr (Nat.not_lt_zero _)⟩, HYES.out, HL3.out, HLB3.out, HB3.out⟩
              case round =>
                obtain ⟨p, mo4, st4, bb, hp, rfl, rfl, hrc, hled, hbb, hb0, hno, hyes, hL, hLB, hb⟩ := hrel
                have HRC4 := Lib.hid hrc
                have HLED4 := Lib.hid hled
                have HBB4 := Lib.hid hbb
                have HNO4 := Lib.hid hno
                have HYES4 := Lib.hid hyes
                have HL4 := Lib.hid hL
                have HLB4 := Lib.hid hLB
                have HB4 := Lib.hid hb
                have x0 : wr.cell? ⟨w.heap.size, 0, none⟩ = some (.int .i64 s) := hLB.cell 0
                have x1 : wr.cell? ⟨w.heap.size, 1, none⟩ = some (.slice A n c) := hLB.cell 1
                have cq : wr.cell? ⟨q, k, none⟩ = some (.bool bb) := by rw [hL.cell, List.getElem?_map, hbb]; rfl
                obtain ⟨ad, B4, cc, e4, c0, c1, c2, c3, c4, hrow, -, hadl⟩ := (HH.out.kept hb).at_ HO.out
                subst e4
                rw [HP2.out] at c3
                have HROW := Lib.hid hrow
                obtain ⟨ln, hln⟩ : ∃ ln, o.2.length = ln := ⟨_, rfl⟩
                rw [hln] at c4 hPl hlen4
                have HLN := Lib.hid hln
                clear hrc hled hbb hno hyes hL hLB hb c0 c1 c2 hrow hln hadl
                cases bb with
                | false =>
                  obtain rfl : p = 0 := hb0 rfl
                  clear c3 c4 hb0
                  go_wp2_with fail
                  refine ⟨⟨k + 1, mo4, st4, by omega, by go_num, rfl, HRC4.out, HLED4.out, fun h => ⟨(HNO4.out h).1, fun x hx => ?_⟩, HYES4.out, HL4.out, HLB4.out, HB4.out⟩, by simp [intOf]; omega⟩
                  by_cases hxk : x = k
                  · subst hxk
                    intro o' _ hst
                    rw [← (HNO4.out h).1, HBB4.out] at hst
                    simp at hst
                  · exact (HNO4.out h).2.1 x (by omega)
                | true =>
                  by_cases hjP : p < P
                  · have hzl : p < o.2.length := by rw [HLN.out]; omega
                    have hzg := HGD.out p hjP
                    obtain ⟨bd, e5, hcz⟩ := HROW.out.at_ hzl
                    subst e5
                    obtain ⟨z, hz⟩ : ∃ z, o.2.getD p 0 = z := ⟨_, rfl⟩
                    rw [hz] at hcz hzg
                    have HZ := Lib.hid hz
                    have p0 : (0 : Int) ≤ (p : Int) := by omega
                    have p1 : (p : Int) < (ln : Int) := by omega
                    have p2 : decide ((p : Int) < (P : Int)) = true := by simp; omega
                    by_cases hz0 : z = 0
                    · subst hz0
                      clear hz hzg hzl hb0
                      go_wp2_with fail
                      refine ⟨⟨p + 1, mo4, st4, true, by omega, by go_num, rfl, HRC4.out, HLED4.out, HBB4.out, (fun h => by cases h), fun h => ⟨(HNO4.out h).1, (HNO4.out h).2.1, fun r hr => ?_⟩, HYES4.out, HL4.out, HLB4.out, HB4.out⟩, by simp [intOf]; omega⟩
                      by_cases hrp : r = p
                      · subst hrp; rw [HZ.out]; exact .inl rfl
                      · exact (HNO4.out h).2.2 r (by omega)
                    · obtain ⟨hz1, hz2, i, o2, hi, hin, hfv, ho2, hk2⟩ := HTI.out z hzg hz0
                      obtain ⟨y, hy⟩ : ∃ y, z - 1 = y := ⟨_, rfl⟩
                      rw [hy] at hfv
                      have hyw : IntKind.i64.wrap (z - 1) = y := by rw [← hy]; exact IntWalk.i64_in _ (by omega)
                      have d1 : decide (0 < z) = true := by simp; omega
                      have hcall := Lib.hid (fun V (hV : Below w.heap.size w V) => HFD.out V hV y)
                      rw [hfv] at hcall
                      obtain ⟨b5, hb5⟩ : ∃ b5, st4[i]? = some b5 := ⟨_, List.getElem?_eq_getElem (by rw [HRC4.out.len, HN.out]; exact hin)⟩
                      have HB5 := Lib.hid hb5
                      have HI := Lib.hid hi
                      have HRC5 := Lib.hid (HRC4.out.set ho2 hk2)
                      have i0 : (0 : Int) ≤ (i : Int) := by omega
                      have i1 : (i : Int) < (n : Int) := by omega
                      have ea2 : (⟨q, 0, none⟩ : Addr).add i = ⟨q, i, none⟩ := add_at q i
                      clear hz hzg hzl hb0 hz0 hi hfv ho2 hk2 hy hb5
                      go_wp2_with fail
                      refine (hcall.out _ HB4.out).mono ?_
                      rintro e w5 ⟨rfl, hb6⟩
                      have HB6 := Lib.hid (on HB4.out HB4.out.size hb6)
                      have HL6 := Lib.hid (HL4.out.kept hb6)
                      have HLB6 := Lib.hid (HLB4.out.kept hb6)
                      have cq2 : w5.cell? ⟨q, i, none⟩ = some (.bool b5) := by rw [HL6.out.cell, List.getElem?_map, HB5.out]; rfl
                      have x2 : w5.cell? ⟨w.heap.size, 0, none⟩ = some (.int .i64 s) := HLB6.out.cell 0
                      have x3 : w5.cell? ⟨w.heap.size, 1, none⟩ = some (.slice (some ad) n c) := HLB6.out.cell 1
                      clear hb6 x0 x1 cq c3 c4 hcz
                      cases b5 with
                      | true =>
                        go_wp2_with fail
                        refine ⟨⟨p + 1, mo4, st4, true, by omega, by go_num, rfl, HRC4.out, HLED4.out, HBB4.out, (fun h => by cases h), fun h => ⟨(HNO4.out h).1, (HNO4.out h).2.1, fun r hr => ?_⟩, HYES4.out, HL6.out, HLB6.out, HB6.out⟩, by simp [intOf]; omega⟩
                        by_cases hrp : r = p
                        · subst hrp; rw [HZ.out, ← (HNO4.out h).1]; exact .inr (by rw [← HI.out]; exact HB5.out)
                        · exact (HNO4.out h).2.2 r (by omega)
                      | false =>
                        go_wp2_with fail
                        refine (hcall.out _ HB6.out).mono ?_
                        rintro e w7 ⟨rfl, hb7⟩
                        have HB7 := Lib.hid (on HB6.out HB6.out.size hb7)
                        have HL7 := Lib.hid (HL6.out.kept hb7)
                        have HLB7 := Lib.hid (HLB6.out.kept hb7)
                        have cq3 : w7.cell? ⟨q, i, none⟩ = some (.bool false) := by rw [HL7.out.cell, List.getElem?_map, HB5.out]; rfl
                        have f7 := HL7.out.frozen i
                        have l7 : q < w7.heap.size := HL7.out.lt
                        clear hb7 x2 x3 cq2
                        go_wp2_with fail
                        have hfl := fls_set st4 i HB5.out
                        refine ⟨⟨p + 1, true, st4.set i true, true, by omega, by go_num, rfl, HRC5.out, fun r hr => led_set (HLED4.out r hr), set_keeps HBB4.out, (fun h => by cases h), (fun h => by cases h), fun _ => ?_, by rw [map_set]; exact HL7.out.set i _, HLB7.out.far (p := ⟨q, i, none⟩) (by show w.heap.size ≠ q; exact hbq) _, HB7.out.setCell (p := ⟨q, i, none⟩) (by show w.heap.size ≤ q; exact hbq2) _⟩, by simp [intOf]; omega⟩
                        cases mo4 with
                        | true => have := HYES4.out (by first | rfl | trivial); omega
                        | false => have := (HNO4.out (by first | rfl | trivial)).1; rw [this] at hfl; rw [this]; omega
                  · obtain rfl : p = P := by omega
                    have p2 : decide ((p : Int) < (p : Int)) = false := by simp
                    clear c4 hb0
                    go_wp2_with fail
                    refine ⟨⟨k + 1, mo4, st4, by omega, by go_num, rfl, HRC4.out, HLED4.out, fun h => ⟨(HNO4.out h).1, fun x hx => ?_⟩, HYES4.out, HL4.out, HLB4.out, HB4.out⟩, by simp [intOf]; omega⟩
                    by_cases hxk : x = k
                    · subst hxk
                      intro o' ho' _ r hr
                      rw [HO.out] at ho'
                      injection ho' with ho'
                      subst ho'
                      rw [HPP.out] at hr
                      exact (HNO4.out h).2.2 r hr
                    · exact (HNO4.out h).2.1 x (by omega)
            · obtain rfl : k = n := by omega
              have HFL3 := Lib.hid (fls_w HL3.out (HRC3.out.len.trans HN.out))
              go_wp2_with fail
              refine ⟨⟨mo, st, rfl, HRC3.out, HLED3.out, fun h x => ?_, HL3.out, HLB3.out, HB3.out⟩, ?_⟩
              · have h1 := HNO.out h
                rw [h1.1]
                by_cases hx : x < k
                · exact h1.2 x hx
                · intro o' ho' _
                  have := (List.getElem?_eq_some_iff.1 ho').1
                  rw [HN.out] at this
                  exact absurd this hx
              · have h1 := HFL.out
                have h2 := HFL3.out
                cases mo with
                | true =>
                  have h3 := HYES.out (by first | rfl | trivial)
                  rw [h1, h2]
                  omega
                | false =>
                  have h3 := (HNO.out (by first | rfl | trivial)).1
                  rw [h1, h2, h3]
                  simp [boolOf]
end Go.Proofs.YtklhdilbmpndkaaGreat

namespace Go.Proofs.YtklhdilbmpndkaaGreat
set_option maxRecDepth 20000
open Go.RowKit Go.Sort
set_option linter.unusedVariables false
set_option linter.unusedSimpArgs false


/-- Marks of what is reached, among the first so many. -/
def markT (obs : List Ob) (st : List Bool) (j p : Nat) : Bool := (List.range j).any fun k => (st[k]? == some true) && decide (p = atI obs k)
theorem markT_succ (obs : List Ob) (st : List Bool) (j p : Nat) : markT obs st (j + 1) p = (markT obs st j p || ((st[j]? == some true) && decide (p = atI obs j))) := by
  unfold markT
  rw [List.range_succ, List.any_append]
  simp
theorem markT_at {obs : List Ob} {st : List Bool} {k : Nat} (hl : st.length = obs.length) (hk : k < obs.length) : markT obs st obs.length (atI obs k) = (st[k]? == some true) := by
  unfold markT
  cases hs : st[k]? == some true with
  | true =>
    rw [List.any_eq_true]
    exact ⟨k, List.mem_range.2 hk, by rw [hs]; simp⟩
  | false =>
    rw [List.any_eq_false]
    intro k' hk' h
    rw [List.mem_range] at hk'
    rw [Bool.and_eq_true, decide_eq_true_eq] at h
    have := atI_inj hk hk' h.2
    subst this
    rw [hs] at h
    exact absurd h.1 (by simp)
section
variable {obs : List Ob} {st : List Bool} {f : Nat → Bool}
theorem stb_reach (hc : Rc obs st) (hf : ∀ p, f p = markT obs st obs.length p) : Stb st f obs := by
  refine ⟨hc.len, fun k o ho => ?_⟩
  have hk := (List.getElem?_eq_some_iff.1 ho).1
  obtain ⟨b, hb⟩ : ∃ b, st[k]? = some b := ⟨_, List.getElem?_eq_getElem (by rw [hc.len]; exact hk)⟩
  rw [hb]
  congr 1
  unfold keepB
  rw [hf]
  show b = _
  rw [markT_at hc.len hk, hb]
  cases b with
  | false => simp
  | true => have := hc.no k o ho hb; simp [this]
theorem led_ok (hst : Stb st f obs) {z : Int} (hg : astrayO obs z = false) (hl : led obs st z) : okW f (adr 0 obs) z = true := by
  by_cases h0 : z = 0
  · subst h0; simp [okW]
  · obtain ⟨h1, h2, o, h3, h4⟩ := led_to hg h0
    rcases hl with h | h
    · exact absurd h h0
    · rcases find_word hst z (z - 1) (.inl rfl) h0 with ⟨h5, _⟩ | ⟨_, h6 | h6 | ⟨i, h6, _, h7⟩⟩
      · exact h5
      · omega
      · rw [h2] at h6; omega
      · rw [h2] at h6
        have e : toI obs z = i := by omega
        rw [e, h7] at h
        simp at h
theorem reach_right (hc : Rc obs st) (hst : Stb st f obs) (hcl : Clean obs) (hsh : ∀ k, shut obs st k) : rightB f (adr 0 obs) = true := by
  unfold rightB
  rw [List.all_eq_true]
  intro x hx
  obtain ⟨k, hk⟩ := List.mem_iff_getElem?.1 hx
  obtain ⟨h1, h2⟩ := adr_get hk
  rw [Nat.zero_add] at h2
  have hxe : x = (atI obs k, x.2) := by rw [← h2]
  cases hkp : keepB f x with
  | false => rfl
  | true =>
    simp only [Bool.not_true, Bool.false_or]
    have hs := hst.at_ k x.2 h1
    rw [← hxe, hkp] at hs
    unfold okX
    rw [List.all_eq_true]
    intro z hz
    have hco := (hcl x.2 (List.mem_of_getElem? h1)).2 z hz
    obtain ⟨r, hr⟩ := List.mem_iff_getElem?.1 hz
    have hrl := (List.getElem?_eq_some_iff.1 hr).1
    rw [List.length_take] at hrl
    rw [List.getElem?_take_of_lt (by omega)] at hr
    have hl := hsh k x.2 h1 hs r (by omega)
    have e : x.2.2.getD r 0 = z := by simp [List.getD, hr]
    rw [e] at hl
    exact led_ok hst (astray_live hco) hl
end
/-- What reached makes. -/
structure Rch (w w' : World) (ds : List Nd) (rs : List Int) (Z g gw gb base : Nat) (obs : List Ob) (tail : List Int) (A : Option Addr) (n c : Nat) (xs : List Value) (B : Option Addr) (cap : Nat) (rts : List Int) (mg mw : Nat) (ws : List Nat) (q : Nat) (st : List Bool) : Prop where
  bt : Built w w' ds rs Z g gw gb base obs tail A n c xs B cap rts
  map : Mk.At w' mg mw Z ws
  bits : ∀ p, Mk.bit ws p = markT obs st obs.length p
  row : Lies w' q 4 (st.map Value.bool)
  rc : Rc obs st
  led : ∀ r ∈ rts, led obs st r
  shut : ∀ k, shut obs st k
theorem Rch.kept {w w' w'' : World} {ds : List Nd} {rs : List Int} {Z g gw gb base n c cap mg mw q : Nat} {obs : List Ob} {tail : List Int} {A B : Option Addr} {xs : List Value} {rts : List Int} {ws : List Nat} {st : List Bool} (h : Rch w w' ds rs Z g gw gb base obs tail A n c xs B cap rts mg mw ws q st) (hb : Below w'.heap.size w' w'') : Rch w w'' ds rs Z g gw gb base obs tail A n c xs B cap rts mg mw ws q st :=
  ⟨h.bt.kept hb, h.map.kept hb, h.bits, h.row.kept hb, h.rc, h.led, h.shut⟩
theorem Rch.stb {w w' : World} {ds : List Nd} {rs : List Int} {Z g gw gb base n c cap mg mw q : Nat} {obs : List Ob} {tail : List Int} {A B : Option Addr} {xs : List Value} {rts : List Int} {ws : List Nat} {st : List Bool} (h : Rch w w' ds rs Z g gw gb base obs tail A n c xs B cap rts mg mw ws q st) : Stb st (Mk.bit ws) obs := stb_reach h.rc h.bits
theorem Rch.right {w w' : World} {ds : List Nd} {rs : List Int} {Z g gw gb base n c cap mg mw q : Nat} {obs : List Ob} {tail : List Int} {A B : Option Addr} {xs : List Value} {rts : List Int} {ws : List Nat} {st : List Bool} (h : Rch w w' ds rs Z g gw gb base obs tail A n c xs B cap rts mg mw ws q st) : rightB (Mk.bit ws) (adr 0 obs) = true := reach_right h.rc h.stb h.bt.clean h.shut
theorem Rch.roots {w w' : World} {ds : List Nd} {rs : List Int} {Z g gw gb base n c cap mg mw q : Nat} {obs : List Ob} {tail : List Int} {A B : Option Addr} {xs : List Value} {rts : List Int} {ws : List Nat} {st : List Bool} (h : Rch w w' ds rs Z g gw gb base obs tail A n c xs B cap rts mg mw ws q st) : rts.all (okW (Mk.bit ws) (adr 0 obs)) = true := by
  rw [List.all_eq_true]
  exact fun r hr => led_ok h.stb (h.bt.good r hr) (h.led r hr)
theorem mkAt_far {w : World} {mg mw Z : Nat} {ws : List Nat} (h : Mk.At w mg mw Z ws) {p : Addr} (h1 : mg ≠ p.block) (h2 : mw ≠ p.block) (u : Value) : Mk.At (w.setCell p u) mg mw Z ws :=
  ⟨h.own.far h1 u, h.words.far h2 u, h.many, h.some_, h.most, h.fit, h.in_⟩
theorem Built.behind {w w1 w' : World} {ds : List Nd} {rs : List Int} {Z g gw gb base n c cap : Nat} {obs : List Ob} {tail : List Int} {A B : Option Addr} {xs : List Value} {rts : List Int} (h : Built w1 w' ds rs Z g gw gb base obs tail A n c xs B cap rts) (hb : Below w.heap.size w w1) : Built w w' ds rs Z g gw gb base obs tail A n c xs B cap rts :=
  ⟨h.st, h.clean, h.len, h.own, h.count, h.heads, on hb hb.size h.old, h.room, ⟨Nat.le_trans hb.size h.lo.1, Nat.le_trans hb.size h.lo.2.1, Nat.le_trans hb.size h.lo.2.2⟩, h.hi, h.rts_, h.row, h.good⟩
theorem Built.put2 {w W : World} {ds : List Nd} {rs : List Int} {Z g gw gb base n c cap bm : Nat} {obs : List Ob} {tail : List Int} {A B : Option Addr} {xs : List Value} {rts : List Int} {a b : Value} (h : Built w W ds rs Z g gw gb base obs tail A n c xs B cap rts) (hl : Lies W bm 34 [a, b]) (h1 : g ≠ bm) (h2 : gw ≠ bm) (h3 : gb ≠ bm) (hbm : w.heap.size ≤ bm) (u v : Value) : Built w ((W.setCell ⟨bm, 0, none⟩ u).setCell ⟨bm, 1, none⟩ v) ds rs Z g gw gb base obs tail A n c xs B cap rts := by
  refine ⟨h.st.put2 h1 h2 h3 _ _, h.clean, h.len, h.own.put2 hl _ _, h.count, h.heads, (h.old.setCell (p := ⟨bm, 0, none⟩) hbm _).setCell (p := ⟨bm, 1, none⟩) hbm _, by simpa using h.room, h.lo, h.hi, h.rts_, ?_, h.good⟩
  refine h.row.kept fun b cs hb hl2 => ?_
  have hne2 : b ≠ bm := hl2.apart hl (by decide)
  exact (hl2.far (p := ⟨bm, 0, none⟩) hne2 _).far (p := ⟨bm, 1, none⟩) hne2 _
set_option maxRecDepth 1000000 in
set_option maxHeartbeats 4000000 in
theorem reached_any {w : World} (A0 B0 : Option Addr) (n cN m cR : Nat) (ds : List Nd) (rs : List Int) (hd : CameN w A0 n ds) (hr : Mk.Came .u8 w B0 m rs) (hn : n ≤ 14) (hm : m ≤ 14) (hed : ∀ d ∈ ds, d.edges.length ≤ 10) :
    Calls Tryz.prog 6 #[.agg #[.slice A0 n cN, .slice B0 m cR]] w fun e w' => ∃ g gw gb base obs tail A n' c xs B cap rts mg mw ws q st, e = .returned (.tuple #[.pointer (some ⟨g, 0, none⟩), .slice B m cap, .pointer (some ⟨mg, 0, none⟩), .agg #[.int .i64 (sizeG ds 3 n : Nat), .slice A n' c], .slice (some ⟨q, 0, none⟩) n' n']) ∧ Rch w w' ds rs (sizeG ds 3 n) g gw gb base obs tail A n' c xs B cap rts mg mw ws q st := by
  have HD := Lib.hid hd
  have HR := Lib.hid hr
  have HE := Lib.hid hed
  have hZs := size_small hed n 3 (by rw [hd.1]; exact hn)
  have b0 : Below w.heap.size w ((w.alloc (.cells #[.slice A0 n cN, .slice B0 m cR] 25)).alloc (.cells #[.int .i64 0, .slice none 0 0] 34)) := ((Below.refl _ w).alloc (Nat.le_refl _) _).alloc (by simp) _
  have LX : Lies ((w.alloc (.cells #[.slice A0 n cN, .slice B0 m cR] 25)).alloc (.cells #[.int .i64 0, .slice none 0 0] 34)) w.heap.size 25 [.slice A0 n cN, .slice B0 m cR] := (Lies.new w 25 [_, _]).alloc _
  have LY : Lies ((w.alloc (.cells #[.slice A0 n cN, .slice B0 m cR] 25)).alloc (.cells #[.int .i64 0, .slice none 0 0] 34)) (w.heap.size + 1) 34 [.int .i64 0, .slice none 0 0] := by
    have := Lies.new (w.alloc (.cells #[.slice A0 n cN, .slice B0 m cR] 25)) 34 [.int .i64 0, .slice none 0 0]
    rw [World.size_alloc] at this; exact this
  have hsz1 : ((w.alloc (.cells #[.slice A0 n cN, .slice B0 m cR] 25)).alloc (.cells #[.int .i64 0, .slice none 0 0] 34)).heap.size = w.heap.size + 2 := by simp
  obtain ⟨w1, hw1⟩ : ∃ w1, (w.alloc (.cells #[.slice A0 n cN, .slice B0 m cR] 25)).alloc (.cells #[.int .i64 0, .slice none 0 0] 34) = w1 := ⟨_, rfl⟩
  rw [hw1] at b0 LX LY hsz1
  have HW1 := Lib.hid hw1
  have HB1 := Lib.hid b0
  have HLX := Lib.hid LX
  have HLY := Lib.hid LY
  have HS1 := Lib.hid hsz1
  have y0 : w1.cell? ⟨w.heap.size, 0, none⟩ = some (.slice A0 n cN) := LX.cell 0
  have y1 : w1.cell? ⟨w.heap.size, 1, none⟩ = some (.slice B0 m cR) := LX.cell 1
  clear b0 LX LY hw1 hd hr hed hsz1
  go_enter Tryz.func6, Tryz.ntmps6
  go_upto_region 1 with fail
  rw [HW1.out]
  go_wp2_with fail
  refine (build_any A0 B0 n cN m cR 3 ds rs ⟨HD.out.1, HD.out.2.1.kept HB1.out, HD.out.2.2⟩ ⟨HR.out.1, HR.out.2.1.kept HB1.out, HR.out.2.2⟩ hn hm HE.out (by omega)).mono ?_
  rintro e w4 ⟨g, gw, gb, base, obs, tail, A, n', c, xs, B, cap, rts, rfl, BT⟩
  obtain ⟨Z, hZ⟩ : ∃ Z, sizeG ds 3 n = Z := ⟨_, rfl⟩
  rw [hZ] at BT hZs ⊢
  have HZ1 : 1 ≤ Z := by rw [← hZ]; unfold sizeG; omega
  have bX := below_one w4 (.cells #[.int .i64 (Z : Int), .slice A n' c] 34)
  have HBT := Lib.hid (BT.kept bX)
  have HB4 := Lib.hid (on (on HB1.out HB1.out.size BT.old) (on HB1.out HB1.out.size BT.old).size bX)
  have HY4 := Lib.hid ((HLY.out.kept BT.old).kept bX)
  have HLB := Lib.hid (show Lies (w4.alloc (.cells #[.int .i64 (Z : Int), .slice A n' c] 34)) w4.heap.size 34 [.int .i64 (Z : Int), .slice A n' c] from Lies.new w4 34 [_, _])
  have hs4 := BT.old.size
  have sX : (w4.alloc (.cells #[.int .i64 (Z : Int), .slice A n' c] 34)).heap.size = w4.heap.size + 1 := by simp
  obtain ⟨w5, hw5⟩ : ∃ w5, w4.alloc (.cells #[.int .i64 (Z : Int), .slice A n' c] 34) = w5 := ⟨_, rfl⟩
  rw [hw5] at HBT HB4 HY4 HLB sX
  have HW5 := Lib.hid hw5
  obtain ⟨rb, hrb⟩ : ∃ rb, w4.heap.size = rb := ⟨_, rfl⟩
  rw [hrb] at HLB sX hs4
  have HRB := Lib.hid hrb
  have HSX := Lib.hid (And.intro sX hs4)
  clear BT bX hw5 hrb sX hs4 y0 y1
  have HZZ := Lib.hid hZ
  clear hZ
  go_upto_region 2 with fail
  rw [HW5.out, HRB.out]
  go_wp2_with fail
  refine (size_z HBT.out.st Z HBT.out.len).mono ?_
  rintro e wx ⟨rfl, hwx⟩
  rw [hwx]; clear hwx wx
  go_wp2_with fail
  refine (Mk.new_yes (Z : Int) Z rfl _ HZ1 (by omega)).mono ?_
  rintro e w7 ⟨mg, mw, rfl, hb7, hmg, hmw, M7⟩
  have HB7 := Lib.hid hb7
  have HM7 := Lib.hid M7
  have HMG := Lib.hid (And.intro hmg hmw)
  have r0 : w7.cell? ⟨rb, 0, none⟩ = some (.int .i64 (Z : Int)) := (HLB.out.kept hb7).cell 0
  have r1 : w7.cell? ⟨rb, 1, none⟩ = some (.slice A n' c) := (HLB.out.kept hb7).cell 1
  have hlenZ := HBT.out.len
  have hlenF : (flat obs).length ≤ 65536 := by rw [List.length_append] at hlenZ; omega
  have hrl : rts.length = m := by rw [HBT.out.rts_, List.length_map]; exact HR.out.1
  have hRE := reach_any (w := w7) (A := A) (B := B) (Z : Int) n' c m cap HBT.out.st.fine (HBT.out.kept hb7).own.things HBT.out.count hlenF (Row.of_rv (HBT.out.kept hb7).row) hrl HBT.out.good HBT.out.clean (by omega)
  have HRE := Lib.hid hRE
  clear hb7 M7 hmg hmw hlenZ hlenF hRE
  go_wp2_with fail
  refine HRE.out.mono ?_
  rintro e w8 ⟨q, st, rfl, hqs, hLq, hrc, hled, hshut, hb8⟩
  have HB8 := Lib.hid (on HB7.out HB7.out.size hb8)
  have HM8 := Lib.hid (HM7.out.kept hb8)
  have HLQ := Lib.hid hLq
  have HRC := Lib.hid hrc
  have HLED := Lib.hid hled
  have HSH := Lib.hid hshut
  have HNEQ : Hid (q ≠ mg ∧ q ≠ mw) := Lib.hid ⟨by have := HM7.out.own.lt; omega, by have := HM7.out.words.lt; omega⟩
  have x1 : w8.cell? ⟨rb, 1, none⟩ = some (.slice A n' c) := (HLB.out.kept HB8.out).cell 1
  have hn3 : n' ≤ 65536 := by have := HBT.out.count; have := count_le obs; have hl := HBT.out.len; rw [List.length_append] at hl; omega
  have HCT := Lib.hid HBT.out.count
  clear hqs hLq hrc hled hshut hb8 r0 r1 HRE
  go_wp2_with fail
  go_loopw [33] (fun i wr => ∃ (k : Nat) (ws : List Nat), k ≤ n' ∧ i = .int .i64 (k : Nat) ∧ Mk.At wr mg mw Z ws ∧ (∀ p, Mk.bit ws p = markT obs st k p) ∧ Lies wr q 4 (st.map Value.bool) ∧ Below w5.heap.size w5 wr) (fun i _ => n' - (intOf i).toNat)
  case atStart => exact ⟨0, _, Nat.zero_le _, rfl, HM8.out, fun p => by rw [Mk.bit_new]; rfl, HLQ.out, HB8.out⟩
  case round =>
    obtain ⟨k, ws, hk, rfl, M, hbits, hL, hb⟩ := hrel
    have HM := Lib.hid M
    have HBITS := Lib.hid hbits
    have HL := Lib.hid hL
    have HB := Lib.hid hb
    by_cases hlt : k < n'
    · obtain ⟨o, ho⟩ : ∃ o, obs[k]? = some o := ⟨_, List.getElem?_eq_getElem (by rw [HCT.out]; exact hlt)⟩
      obtain ⟨ad, B1, cc, e1, c0, c1, c2, c3, c4, -, -, -⟩ := (HBT.out.kept hb).own.things.at_ ho
      subst e1
      have hpZ : atI obs k < Z := by
        have h1 := at_lt ho
        have h2 := HBT.out.len
        rw [List.length_append] at h2; omega
      obtain ⟨b1, hb1⟩ : ∃ b1, st[k]? = some b1 := ⟨_, List.getElem?_eq_getElem (by rw [HRC.out.len, HCT.out]; exact hlt)⟩
      have HB11 := Lib.hid hb1
      obtain ⟨p, hp⟩ : ∃ p, atI obs k = p := ⟨_, rfl⟩
      have HP := Lib.hid hp
      rw [hp] at c0 hpZ
      obtain ⟨k1, hk1⟩ : ∃ x, o.1 % 16 = x := ⟨_, rfl⟩
      obtain ⟨k2, hk2⟩ : ∃ x, o.1 / 65536 = x := ⟨_, rfl⟩
      obtain ⟨k3, hk3⟩ : ∃ x, o.1 % 65536 / 16 = x := ⟨_, rfl⟩
      rw [hk1] at c1
      rw [hk2] at c2
      rw [hk3] at c3
      have bx := below_one wr (.cells #[.int .i64 (p : Nat), .int .i64 k1, .int .i64 k2, .int .i64 k3, .slice B1 o.2.length cc] 66)
      have HBX := Lib.hid bx
      have HLX1 := Lib.hid (show Lies (wr.alloc (.cells #[.int .i64 (p : Nat), .int .i64 k1, .int .i64 k2, .int .i64 k3, .slice B1 o.2.length cc] 66)) wr.heap.size 66 [.int .i64 (p : Nat), .int .i64 k1, .int .i64 k2, .int .i64 k3, .slice B1 o.2.length cc] from Lies.new wr 66 [_, _, _, _, _])
      obtain ⟨wa, hwa⟩ : ∃ wa, wr.alloc (.cells #[.int .i64 (p : Nat), .int .i64 k1, .int .i64 k2, .int .i64 k3, .slice B1 o.2.length cc] 66) = wa := ⟨_, rfl⟩
      rw [hwa] at HBX HLX1
      have HWA := Lib.hid hwa
      have i0 : (0 : Int) ≤ (k : Int) := by omega
      have i1 : (k : Int) < (n' : Int) := by omega
      clear hk1 hk2 hk3 ho hp bx hwa M hbits hL hb hb1
      go_upto_region 7 with fail
      rw [HWA.out]
      have HLA := Lib.hid (HL.out.kept HBX.out)
      have cq : wa.cell? ⟨q, k, none⟩ = some (.bool b1) := by rw [HLA.out.cell, List.getElem?_map, HB11.out]; rfl
      have ea : (⟨q, 0, none⟩ : Addr).add k = ⟨q, k, none⟩ := add_at q k
      have cx : wa.cell? ⟨wr.heap.size, 0, none⟩ = some (.int .i64 (p : Nat)) := HLX1.out.cell 0
      have HMA := Lib.hid (HM.out.kept HBX.out)
      have HBA := Lib.hid (on HB.out HB.out.size HBX.out)
      clear c0 c1 c2 c3 c4
      cases b1 with
      | false =>
        go_wp2_with fail
        refine ⟨⟨k + 1, ws, by omega, by go_num, HMA.out, fun p' => ?_, HLA.out, HBA.out⟩, by simp [intOf]; omega⟩
        rw [markT_succ, HBITS.out, HB11.out]; simp
      | true =>
        have HSET := Lib.hid (Mk.set_yes HMA.out p hpZ)
        go_wp2_with fail
        refine HSET.out.mono ?_
        rintro e w9 ⟨rfl, M9, E9⟩
        have HM9 := Lib.hid M9
        have HL9 := Lib.hid (E9.lies HLA.out HNEQ.out.1 HNEQ.out.2)
        have HB9 := Lib.hid (HBA.out.trans (E9.below HBA.out.size HMG.out.1 HMG.out.2))
        clear M9 E9 cq cx
        go_wp2_with fail
        refine ⟨⟨k + 1, Mk.setW ws p, by omega, by go_num, HM9.out, fun p' => ?_, HL9.out, HB9.out⟩, by simp [intOf]; omega⟩
        rw [Mk.bit_set _ _ _ (HM.out.place hpZ), markT_succ, HBITS.out, HB11.out, HP.out, Bool.or_comm]
        simp
    · obtain rfl : k = n' := by omega
      have hbm : w.heap.size + 1 < w5.heap.size := by have h1 := HSX.out; have h2 := HS1.out; omega
      have m0 : wr.cell? ⟨rb, 0, none⟩ = some (.int .i64 (Z : Int)) := (HLB.out.kept hb).cell 0
      have m1 : wr.cell? ⟨rb, 1, none⟩ = some (.slice A k c) := (HLB.out.kept hb).cell 1
      have LM4 := HY4.out.kept hb
      have r0 : wr.cell? ⟨w.heap.size + 1, 0, none⟩ = some (.int .i64 0) := LM4.cell 0
      have r1 : wr.cell? ⟨w.heap.size + 1, 1, none⟩ = some (.slice none 0 0) := LM4.cell 1
      have r2 := LM4.frozen 0
      have r3 := LM4.frozen 1
      have r4 := LM4.lt
      have hne : rb ≠ w.heap.size + 1 := by have h1 := HSX.out; have h2 := HS1.out; omega
      have LMd : Lies wr.drew (w.heap.size + 1) 34 [.int .i64 0, .slice none 0 0] := LM4
      have F : Rch w ((wr.drew.setCell ⟨w.heap.size + 1, 0, none⟩ (.int .i64 (Z : Int))).setCell ⟨w.heap.size + 1, 1, none⟩ (.slice A k c)) ds rs Z g gw gb base obs tail A k c xs B cap rts mg mw ws q st := by
        have T := (HBT.out.kept hb).kept (Below.refl _ wr).drew
        have h1 := T.lo
        have h2 := HS1.out
        have h3 := HMG.out
        have hq : q ≠ w.heap.size + 1 := HL.out.apart LM4 (by decide)
        have Md : Mk.At wr.drew mg mw Z ws := HM.out.kept (Below.refl _ wr).drew
        have Ld : Lies wr.drew q 4 (st.map Value.bool) := HL.out
        refine ⟨(T.behind HB1.out).put2 LMd (by omega) (by omega) (by omega) (by omega) _ _, mkAt_far (p := ⟨w.heap.size + 1, 1, none⟩) (mkAt_far (p := ⟨w.heap.size + 1, 0, none⟩) Md (by show mg ≠ w.heap.size + 1; omega) (by show mw ≠ w.heap.size + 1; omega) _) (by show mg ≠ w.heap.size + 1; omega) (by show mw ≠ w.heap.size + 1; omega) _, fun p => ?_, (Ld.far (p := ⟨w.heap.size + 1, 0, none⟩) hq _).far (p := ⟨w.heap.size + 1, 1, none⟩) hq _, HRC.out, HLED.out, HSH.out⟩
        rw [HBITS.out, HCT.out]
      have HFF := Lib.hid F
      clear F LM4 LMd hbits hL hb M
      go_wp2
      go_region
      go_wp2
      have lt2 : w.heap.size + 1 < wr.drew.heap.size := r4
      refine bodyPost_ret (v := .tuple #[.pointer (some ⟨g, 0, none⟩), .slice B m cap, .pointer (some ⟨mg, 0, none⟩), .agg #[.int .i64 (Z : Int), .slice A k c], .slice (some ⟨q, 0, none⟩) k k]) (by simp [results, Tryz.results6, go_sem, r0, r1, r2, r3, r4, lt2]) rfl ?_
      exact ⟨g, gw, gb, base, obs, tail, A, k, c, xs, B, cap, rts, mg, mw, ws, q, st, by rw [HZZ.out], by rw [HZZ.out]; exact HFF.out⟩
end Go.Proofs.YtklhdilbmpndkaaGreat

namespace Go.Proofs.YtklhdilbmpndkaaGreat
set_option maxRecDepth 20000
open Go.RowKit
set_option linter.unusedVariables false
set_option linter.unusedSimpArgs false


/-- An object, moved; the moved ones of the first so many; all of them. -/
def mvF (f : Nat → Bool) (obs : List Ob) (x : Nat × Ob) : Ob := (x.2.1, tab x.2.2.length fun i => dstW f (adr 0 obs) x (i + 1))
def newP (f : Nat → Bool) (obs : List Ob) (k : Nat) : List Ob := (((adr 0 obs).take k).filter (keepB f)).map (mvF f obs)
def newF (f : Nat → Bool) (obs : List Ob) : List Ob := newP f obs obs.length
theorem new_eq {C : Cx} {f : Nat → Bool} {obs : List Ob} (ho : C.obs = obs) (hf : C.f = f) : C.new = newF f obs := by
  subst ho; subst hf
  unfold newF newP
  rw [List.take_of_length_le (by rw [adr_len]; omega)]
  rfl
theorem flat_mvF (f : Nat → Bool) (obs : List Ob) : ∀ l : List (Nat × Ob), (flat (l.map (mvF f obs))).length = sumL l
  | [] => rfl
  | x :: l => by
    rw [List.map_cons, flat_cons, sumL_cons]
    have := flat_mvF f obs l
    simp [mvF, tab_len, this]
    omega
theorem newP_len (f : Nat → Bool) (obs : List Ob) (k : Nat) : (flat (newP f obs k)).length = endS f obs k := flat_mvF f obs _
theorem newP_zero (f : Nat → Bool) (obs : List Ob) : newP f obs 0 = [] := by simp [newP]
theorem newP_succ {f : Nat → Bool} {obs : List Ob} {k : Nat} {o : Ob} (ho : obs[k]? = some o) : newP f obs (k + 1) = if keepB f (atI obs k, o) = true then newP f obs k ++ [mvF f obs (atI obs k, o)] else newP f obs k := by
  have h1 := adr_atI ho
  have hlt : k < (adr 0 obs).length := (List.getElem?_eq_some_iff.1 h1).1
  have h2 : (adr 0 obs)[k] = (atI obs k, o) := (List.getElem?_eq_some_iff.1 h1).2
  unfold newP
  rw [← List.take_append_getElem hlt, List.filter_append, List.map_append, h2]
  by_cases hk : keepB f (atI obs k, o) = true
  · rw [if_pos hk]; simp [hk]
  · rw [if_neg hk]; simp [hk]
/-- Its words, the first so many of them turned. -/
def turnW (f : Nat → Bool) (obs : List Ob) (ys : List Int) (j : Nat) : List Int := (ys.take j).map (mvW f (adr 0 obs)) ++ ys.drop j
theorem turnW_len (f : Nat → Bool) (obs : List Ob) (ys : List Int) (j : Nat) : (turnW f obs ys j).length = ys.length := by simp [turnW]; omega
theorem turnW_zero (f : Nat → Bool) (obs : List Ob) (ys : List Int) : turnW f obs ys 0 = ys := by simp [turnW]
theorem turnW_get {f : Nat → Bool} {obs : List Ob} {ys : List Int} {j : Nat} (hj : j < ys.length) : (turnW f obs ys j)[j]? = some (ys.getD j 0) := by
  unfold turnW
  rw [List.getElem?_append_right (by simp; omega)]
  have e : j - (List.map (mvW f (adr 0 obs)) (List.take j ys)).length = 0 := by simp; omega
  rw [e, List.getElem?_drop, Nat.add_zero, List.getElem?_eq_getElem hj]
  simp [List.getD, hj]
theorem turnW_set {f : Nat → Bool} {obs : List Ob} {ys : List Int} {j : Nat} (hj : j < ys.length) : (turnW f obs ys j).set j (mvW f (adr 0 obs) (ys.getD j 0)) = turnW f obs ys (j + 1) := by
  have hl : ((ys.take j).map (mvW f (adr 0 obs))).length = j := by simp; omega
  have hg : ys.getD j 0 = ys[j] := by simp [List.getD, hj]
  unfold turnW
  rw [List.drop_eq_getElem_cons hj, List.set_append_right _ _ (by omega), hl, Nat.sub_self, List.set_cons_zero, ← List.take_append_getElem hj, List.map_append, List.append_assoc, hg]
  rfl
theorem turnW_all {f : Nat → Bool} {obs : List Ob} {a : Nat} {o : Ob} (hp : ptrs o.1 ≤ o.2.length) : (mvF f obs (a, o)).2 = turnW f obs o.2 (ptrs o.1) := by
  unfold mvF turnW
  refine List.ext_getElem? fun i => ?_
  by_cases hi : i < o.2.length
  · rw [tab_get _ hi]
    have hg : o.2.getD i 0 = o.2[i] := by simp [List.getD, hi]
    unfold dstW
    rw [if_neg (by omega)]
    show some (if i + 1 ≤ ptrs o.1 then mvW f (adr 0 obs) (o.2.getD (i + 1 - 1) 0) else o.2.getD (i + 1 - 1) 0) = _
    rw [Nat.add_sub_cancel, hg]
    by_cases h2 : i < ptrs o.1
    · rw [if_pos (by omega), List.getElem?_append_left (by simp; omega), List.getElem?_map, List.getElem?_take_of_lt h2, List.getElem?_eq_getElem hi]; rfl
    · rw [if_neg (by omega), List.getElem?_append_right (by simp; omega)]
      have e : i - (List.map (mvW f (adr 0 obs)) (List.take (ptrs o.1) o.2)).length = i - ptrs o.1 := by simp; omega
      rw [e, List.getElem?_drop, show ptrs o.1 + (i - ptrs o.1) = i by omega, List.getElem?_eq_getElem hi]
  · rw [List.getElem?_eq_none (by rw [tab_len]; show o.2.length ≤ i; omega), List.getElem?_eq_none (by simp; omega)]
theorem mv_head (f : Nat → Bool) (obs : List Ob) (x : Nat × Ob) : (mvF f obs x).1 = x.2.1 ∧ (mvF f obs x).2.length = x.2.2.length := ⟨rfl, tab_len _ _⟩
/-- What stays leads to what stays alone. -/
theorem right_word {f : Nat → Bool} {obs : List Ob} {k j : Nat} {o : Ob} (hr : rightB f (adr 0 obs) = true) (ho : obs[k]? = some o) (hk : keepB f (atI obs k, o) = true) (hj : j < ptrs o.1) (hp : ptrs o.1 ≤ o.2.length) : okW f (adr 0 obs) (o.2.getD j 0) = true := by
  unfold rightB at hr
  rw [List.all_eq_true] at hr
  have h1 := hr _ (List.mem_of_getElem? (adr_atI ho))
  rw [hk] at h1
  simp only [Bool.not_true, Bool.false_or] at h1
  unfold okX at h1
  rw [List.all_eq_true] at h1
  refine h1 _ (List.mem_of_getElem? (i := j) ?_)
  show (o.2.take (ptrs o.1))[j]? = _
  rw [List.getElem?_take_of_lt hj, List.getElem?_eq_getElem (by omega)]
  simp [List.getD, show j < o.2.length by omega]

theorem ob_fine {obs : List Ob} (S : Fine obs) (x : Nat × Ob) (hx : x ∈ adr 0 obs) :
    x.2.1 / 65536 = (x.2.2.length : Nat) ∧ x.2.2.length ≤ 4095 ∧ x.2.1 % 65536 / 16 = (ptrs x.2.1 : Nat) ∧ ptrs x.2.1 ≤ x.2.2.length ∧ headB x.2.1 = true := by
  obtain ⟨pre, post, h1, h2⟩ := mem_split hx
  have hf := S x.2 (by rw [h1]; simp)
  have h5 : x.2.1 / 65536 = (x.2.2.length : Nat) := by have e1 := hf.2; have e2 := head_nn hf.1; unfold lenOf at e1; omega
  have h6 := len_le hf.1
  obtain ⟨_, _, _, _, hp0, hp1, _⟩ := (good_iff _ _ _).1 (head_good hf.1)
  exact ⟨h5, by have := hf.2; omega, by unfold ptrs; omega, by unfold ptrs; omega, hf.1⟩
end Go.Proofs.YtklhdilbmpndkaaGreat
