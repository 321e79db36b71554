/- Reach: what is reached, as a list of yes and no. reached: a heap, its roots, marks of all that is reached, and which objects are. SliderWhole: all is marked; nothing is changed: plain, and the marking. SliderWhole, plain: where all stays and nothing is filled, nothing is turned. What rounds of steps come to: for the laws. SliderSame, walked. SliderSame, whatever comes in. -/
import Derived.Test.YtklhdilbmpndkaaGs
import Derived.Test.YtklhdilbmpndkaaGj
import Derived.Deep.DeepCutAuto
import Derived.Test.YtklhdilbmpndkaaGv
import Derived.Test.YtklhdilbmpndkaaHd
import Derived.Test.YtklhdilbmpndkaaHj
import Derived.Test.YtklhdilbmpndkaaGx
namespace Go.Proofs.Ytklhdilbmpndkaa
set_option maxRecDepth 20000
open Go.RowKit Go.Sort
set_option linter.unusedVariables false
set_option linter.unusedSimpArgs false


/-- Which object a reference leads to. -/
def toI (obs : List Ob) (z : Int) : Nat := (findV obs (z - 1)).toNat
theorem led_to {obs : List Ob} {z : Int} (h : astrayO obs z = false) (h0 : z ≠ 0) : 1 ≤ z ∧ findV obs (z - 1) = (toI obs z : Nat) ∧ ∃ o, obs[toI obs z]? = some o ∧ o.1 % 16 ≠ 15 := by
  rcases live_astray h with e | ⟨pre, o, post, e, ha, hk⟩
  · exact absurd e h0
  · have ho : obs[pre.length]? = some o := by rw [e]; simp
    have hat : z - 1 = (atI obs pre.length : Nat) := by rw [ha]; unfold atI; rw [e]; simp
    have hf := find_here ho hat
    unfold toI
    rw [hf]
    exact ⟨by omega, by simp, o, by simpa using ho, hk⟩
/-- What is reached stays: it is no filler. -/
structure Rc (obs : List Ob) (st : List Bool) : Prop where
  len : st.length = obs.length
  no : ∀ (k : Nat) (o : Ob), obs[k]? = some o → st[k]? = some true → o.1 % 16 ≠ 15
def led (obs : List Ob) (st : List Bool) (z : Int) : Prop := z = 0 ∨ st[toI obs z]? = some true
def shut (obs : List Ob) (st : List Bool) (k : Nat) : Prop := ∀ o, obs[k]? = some o → st[k]? = some true → ∀ j, j < ptrs o.1 → led obs st (o.2.getD j 0)
theorem set_keeps {st : List Bool} {i k : Nat} (h : st[k]? = some true) : (st.set i true)[k]? = some true := by
  rw [List.getElem?_set]
  by_cases e : i = k
  · subst e
    have := (List.getElem?_eq_some_iff.1 h).1
    rw [if_pos rfl, if_pos this]
  · rw [if_neg e]; exact h
theorem led_set {obs : List Ob} {st : List Bool} {i : Nat} {z : Int} (h : led obs st z) : led obs (st.set i true) z := by
  rcases h with h | h
  · exact .inl h
  · exact .inr (set_keeps h)
theorem led_self {obs : List Ob} {st : List Bool} {z : Int} (h : toI obs z < st.length) : led obs (st.set (toI obs z) true) z := .inr (by rw [List.getElem?_set, if_pos rfl, if_pos h])
theorem Rc.set {obs : List Ob} {st : List Bool} (h : Rc obs st) {i : Nat} {o : Ob} (ho : obs[i]? = some o) (hk : o.1 % 16 ≠ 15) : Rc obs (st.set i true) := by
  refine ⟨by rw [List.length_set]; exact h.len, fun k o' ho' hs => ?_⟩
  by_cases e : i = k
  · subst e; rw [ho] at ho'; injection ho' with e; rw [← e]; exact hk
  · rw [List.getElem?_set, if_neg e] at hs; exact h.no k o' ho' hs
def isF : Option Value → Bool
  | some (.bool false) => true
  | _ => false
/-- How many aren't reached. -/
def fls (st : List Bool) : Nat := st.countP fun b => !b
def flsW (w : World) (q n : Nat) : Nat := ((List.range n).map fun k => w.cell? ⟨q, k, none⟩).countP isF
theorem fls_w {w : World} {q n : Nat} {st : List Bool} (h : Lies w q 4 (st.map Value.bool)) (hn : st.length = n) : flsW w q n = fls st := by
  have e : ((List.range n).map fun k => w.cell? ⟨q, k, none⟩) = st.map fun b => some (Value.bool b) := by
    refine List.ext_getElem? fun k => ?_
    rw [List.getElem?_map, List.getElem?_map]
    by_cases hk : k < n
    · rw [List.getElem?_range hk]
      have hk2 : k < st.length := by omega
      show some (w.cell? ⟨q, k, none⟩) = _
      rw [h.cell, List.getElem?_map, List.getElem?_eq_getElem hk2]
      rfl
    · rw [List.getElem?_eq_none (by simp; omega), List.getElem?_eq_none (by omega)]
      rfl
  unfold flsW fls
  rw [e, List.countP_map]
  congr 1
  funext b
  cases b <;> rfl
theorem fls_set : ∀ (st : List Bool) (i : Nat), st[i]? = some false → fls (st.set i true) + 1 = fls st
  | [], i, h => by simp at h
  | b :: l, 0, h => by
    have e : b = false := by simpa using h
    subst e
    simp [fls]
  | b :: l, i + 1, h => by
    have ih := fls_set l i (by simpa using h)
    unfold fls at ih ⊢
    rw [List.set_cons_succ, List.countP_cons, List.countP_cons]
    omega
theorem map_set (st : List Bool) (i : Nat) : (st.set i true).map Value.bool = (st.map Value.bool).set i (.bool true) := List.map_set

def boolOf : Value → Nat
  | .bool true => 1
  | _ => 0
set_option maxRecDepth 100000 in
set_option maxHeartbeats 4000000 in
theorem reach_any {w : World} {A B : Option Addr} {obs : List Ob} {rts : List Int} (s : Int) (n c m cap : Nat) (hf : Fine obs) (h : Things w A obs) (hn : obs.length = n) (hm : (flat obs).length ≤ 65536) (hr : Row w B rts) (hrl : rts.length = m) (hrg : ∀ r ∈ rts, astrayO obs r = false) (hc : Clean obs) (hm2 : m ≤ 65536) :
    Calls Try.prog 43 #[.agg #[.int .i64 s, .slice A n c], .slice B m cap] w fun e w' => ∃ q st, e = .returned (.slice (some ⟨q, 0, none⟩) n n) ∧ w.heap.size ≤ q ∧ Lies w' q 4 (st.map Value.bool) ∧ Rc obs st ∧ (∀ r ∈ rts, led obs st r) ∧ (∀ k, shut obs st k) ∧ Below w.heap.size w w' := by
  have hn6 : n ≤ 65536 := by have := count_le obs; omega
  have hmk := make75 n hn6 (w.alloc (.cells #[.int .i64 s, .slice A n c] 33))
  have HH := Lib.hid h
  have HF := Lib.hid hf
  have HN := Lib.hid hn
  have HM := Lib.hid hm
  have HR := Lib.hid hr
  have HRL := Lib.hid hrl
  have HRG := Lib.hid hrg
  have HC := Lib.hid hc
  have HFD := Lib.hid (fun V (hV : Below w.heap.size w V) (a : Int) => rfind_any s a n c (h.kept hV) hn hn6)
  have HTI : Hid (∀ z, astrayO obs z = false → z ≠ 0 → 1 ≤ z ∧ z ≤ 65536 ∧ ∃ (i : Nat) (o : Ob), i = toI obs z ∧ i < n ∧ findV obs (z - 1) = (i : Nat) ∧ obs[i]? = some o ∧ o.1 % 16 ≠ 15) := Lib.hid fun z hz h0 => by
    obtain ⟨h1, h2, o, h3, h4⟩ := led_to hz h0
    have hlt := (List.getElem?_eq_some_iff.1 h3).1
    refine ⟨h1, ?_, toI obs z, o, rfl, by omega, h2, h3, h4⟩
    rcases live_astray hz with e | ⟨pre, o', post, e, ha, _⟩
    · exact absurd e h0
    · rw [e, flat_append, flat_cons, List.length_append] at hm
      simp at hm; omega
  have HLB0 := Lib.hid ((Lies.new w 33 [.int .i64 s, .slice A n c]).alloc (.cells (noBits n).toArray 4))
  have HLQ0 : Hid (Lies ((w.alloc (.cells #[.int .i64 s, .slice A n c] 33)).alloc (.cells (noBits n).toArray 4)) (w.heap.size + 1) 4 (((List.replicate n false).map Value.bool))) := Lib.hid (by
    have := Lies.new (w.alloc (.cells #[.int .i64 s, .slice A n c] 33)) 4 (noBits n)
    rw [World.size_alloc, noBits_eq] at this
    rw [noBits_eq]; exact this)
  have HB0 := Lib.hid (((Below.refl _ w).alloc (Nat.le_refl _) (.cells #[.int .i64 s, .slice A n c] 33)).alloc (by simp) (.cells (noBits n).toArray 4))
  have sq : (w.alloc (.cells #[.int .i64 s, .slice A n c] 33)).heap.size = w.heap.size + 1 := by simp
  obtain ⟨q, hq⟩ : ∃ q, w.heap.size + 1 = q := ⟨_, rfl⟩
  rw [sq, hq] at hmk
  rw [hq] at HLQ0
  obtain ⟨wb, hwb⟩ : ∃ wb, (w.alloc (.cells #[.int .i64 s, .slice A n c] 33)).alloc (.cells (noBits n).toArray 4) = wb := ⟨_, rfl⟩
  rw [hwb] at hmk HLB0 HLQ0 HB0
  have HQ := Lib.hid hq
  have hbq : w.heap.size ≠ q := by omega
  have hbq2 : w.heap.size ≤ q := by omega
  clear h hf hn hm hr hrl hrg hc hq sq hwb
  go_enter Try.func43, Try.ntmps43
  go_wp2
  go_loopw [17] (fun i wr => ∃ (j : Nat) (st : List Bool), j ≤ m ∧ i = .int .i64 (j : Nat) ∧ Rc obs st ∧ (∀ r ∈ rts.take j, led obs st r) ∧ Lies wr q 4 (st.map Value.bool) ∧ Lies wr w.heap.size 33 [.int .i64 s, .slice A n c] ∧ Below w.heap.size w wr) (fun i _ => m - (intOf i).toNat)
  case atStart => exact ⟨0, List.replicate n false, Nat.zero_le _, rfl, ⟨by simp [HN.out], fun k o _ h => by rw [List.getElem?_replicate] at h; split at h <;> simp at h⟩, fun r hr => by simp at hr, HLQ0.out, HLB0.out, HB0.out⟩
  case round =>
    obtain ⟨j, st, hj, rfl, hrc, hled, hL, hLB, hb⟩ := hrel
    have HRC := Lib.hid hrc
    have HLED := Lib.hid hled
    have HL := Lib.hid hL
    have HLB := Lib.hid hLB
    have HB := Lib.hid hb
    have x0 : wr.cell? ⟨w.heap.size, 0, none⟩ = some (.int .i64 s) := hLB.cell 0
    have x1 : wr.cell? ⟨w.heap.size, 1, none⟩ = some (.slice A n c) := hLB.cell 1
    by_cases hlt : j < m
    · have hjl : j < rts.length := by rw [HRL.out]; exact hlt
      obtain ⟨bd, rfl, cz⟩ := (HR.out.kept hb).at_ hjl
      obtain ⟨z, hz⟩ : ∃ z, rts.getD j 0 = z := ⟨_, rfl⟩
      rw [hz] at cz
      have hzm : astrayO obs z = false := HRG.out z (by rw [← hz]; simp [List.getD, hjl])
      have htk : rts.take (j + 1) = rts.take j ++ [z] := by
        rw [← List.take_append_getElem hjl]
        have : rts.getD j 0 = rts[j] := by simp [List.getD, hjl]
        rw [← hz, this]
      have HTK := Lib.hid htk
      have k0 : (0 : Int) ≤ (j : Int) := by omega
      have k1 : (j : Int) < (m : Int) := by omega
      by_cases hz0 : z = 0
      · subst hz0
        clear hz hzm htk hrc hled hL hLB hb hjl
        go_wp2_with fail
        refine ⟨⟨j + 1, st, by omega, by go_num, HRC.out, fun r hr => ?_, HL.out, HLB.out, HB.out⟩, by simp [intOf]; omega⟩
        rw [HTK.out] at hr
        rcases List.mem_append.1 hr with h | h
        · exact HLED.out r h
        · rw [List.mem_singleton] at h; exact .inl h
      · obtain ⟨hz1, hz2, i, o, hi, hin, hfv, ho, hk⟩ := HTI.out z hzm hz0
        obtain ⟨y, hy⟩ : ∃ y, z - 1 = y := ⟨_, rfl⟩
        rw [hy] at hfv
        have hyw : IntKind.i64.wrap (z - 1) = y := by rw [← hy]; exact IntWalk.i64_in _ (by omega)
        have d1 : decide (0 < z) = true := by simp; omega
        have hcall := Lib.hid (fun V (hV : Below w.heap.size w V) => HFD.out V hV y)
        rw [hfv] at hcall
        have HRC2 := Lib.hid (HRC.out.set ho hk)
        have HSELF : Hid (led obs (st.set i true) z) := Lib.hid (by rw [hi]; exact led_self (by rw [← hi, HRC.out.len, HN.out]; exact hin))
        obtain ⟨b0, hb0⟩ : ∃ b0, st[i]? = some b0 := ⟨_, List.getElem?_eq_getElem (by rw [HRC.out.len, HN.out]; exact hin)⟩
        have HB00 := Lib.hid hb0
        have i0 : (0 : Int) ≤ (i : Int) := by omega
        have i1 : (i : Int) < (n : Int) := by omega
        have ea : (⟨q, 0, none⟩ : Addr).add i = ⟨q, i, none⟩ := add_at q i
        have hlw := hL.lt
        clear hz hzm htk hrc hled hL hLB hb hjl hz0 hi hfv ho hk hy hb0
        go_upto_region 6 with fail
        go_region_with ((first | (go_at_call 40; refine (hcall.out _ (by first | exact HB.out.drew | exact HB.out)).mono ?_; rintro e w5 ⟨rfl, hb5⟩; (have HK5 : Hid (Below wr.heap.size wr w5) := Lib.hid (on (b := wr.drew) (Below.refl _ wr).drew (by exact Nat.le_refl _) hb5)); (have HL5 := Lib.hid (HL.out.kept HK5.out)); (have cq5 : w5.cell? ⟨q, i, none⟩ = some (.bool b0) := by rw [HL5.out.cell, List.getElem?_map, HB00.out]; rfl); (have f5 := HL5.out.frozen i); (have l5 : q < w5.heap.size := HL5.out.lt); clear hb5) | fail))
        all_goals
          go_wp2_with fail
          refine ⟨⟨j + 1, st.set i true, by omega, by go_num, HRC2.out, fun r hr => ?_, ?_, (HLB.out.kept HK5.out).far (p := ⟨q, i, none⟩) (by show w.heap.size ≠ q; exact hbq) _, (on HB.out HB.out.size HK5.out).setCell (p := ⟨q, i, none⟩) (by show w.heap.size ≤ q; exact hbq2) _⟩, by simp [intOf]; omega⟩
          · rw [HTK.out] at hr
            rcases List.mem_append.1 hr with h | h
            · exact led_set (HLED.out r h)
            · rw [List.mem_singleton] at h; rw [h]; exact HSELF.out
          · rw [map_set]; exact HL5.out.set i _
    · obtain rfl : j = m := by omega
      have hall : rts.take j = rts := by rw [← HRL.out, List.take_length]
      rw [hall] at hled
      have HLED := Lib.hid hled
      have hlw := hL.lt
      clear hrc hL hLB hb hall hled x0 x1 hlt
      go_wp2_with fail
      go_loopw [7] (fun v wr => ∃ (mo : Bool) (st : List Bool), v = .bool mo ∧ Rc obs st ∧ (∀ r ∈ rts, led obs st r) ∧ (mo = false → ∀ k, shut obs st k) ∧ Lies wr q 4 (st.map Value.bool) ∧ Lies wr w.heap.size 33 [.int .i64 s, .slice A n c] ∧ Below w.heap.size w wr) (fun v wr => 2 * flsW wr q n + boolOf v)
      case atStart => exact ⟨true, st, rfl, HRC.out, HLED.out, (fun h => by cases h), HL.out, HLB.out, HB.out⟩
      case round =>
        obtain ⟨mo, st0, rfl, hrc, hled, hshut, hL, hLB, hb⟩ := hrel
        have HRC := Lib.hid hrc
        have HLED := Lib.hid hled
        have HSH := Lib.hid hshut
        have HL := Lib.hid hL
        have HLB := Lib.hid hLB
        have HB := Lib.hid hb
        have HFL := Lib.hid (fls_w hL (hrc.len.trans HN.out))
        have x1 : wr.cell? ⟨w.heap.size, 1, none⟩ = some (.slice A n c) := hLB.cell 1
        clear hrc hled hshut hL hLB hb
        cases mo with
        | false =>
          go_wp2_with fail
          go_ret
          exact ⟨q, rfl, hbq2, st0, HL.out, HRC.out, HLED.out, HSH.out (by first | rfl | trivial), HB.out⟩
        | true =>
          go_wp2_with fail
          go_loopw [39, 7] (fun i v wr => ∃ (k : Nat) (mo : Bool) (st : List Bool), k ≤ n ∧ i = .int .i64 (k : Nat) ∧ v = .bool mo ∧ Rc obs st ∧ (∀ r ∈ rts, led obs st r) ∧ (mo = false → st = st0 ∧ ∀ x, x < k → shut obs st0 x) ∧ (mo = true → fls st < fls st0) ∧ Lies wr q 4 (st.map Value.bool) ∧ Lies wr w.heap.size 33 [.int .i64 s, .slice A n c] ∧ Below w.heap.size w wr) (fun i _ _ => n - (intOf i).toNat)
          case atStart => exact ⟨0, false, st0, Nat.zero_le _, rfl, rfl, HRC.out, HLED.out, fun _ => ⟨rfl, fun x h => absurd h (Nat.not_lt_zero _)⟩, (fun h => by cases h), HL.out, HLB.out, HB.out⟩
          case round =>
            obtain ⟨k, mo, st, hk, rfl, rfl, hrc, hled, hno, hyes, hL, hLB, hb⟩ := hrel
            have HRC3 := Lib.hid hrc
            have HLED3 := Lib.hid hled
            have HNO := Lib.hid hno
            have HYES := Lib.hid hyes
            have HL3 := Lib.hid hL
            have HLB3 := Lib.hid hLB
            have HB3 := Lib.hid hb
            clear hrc hled hno hyes hL hLB hb x1
            by_cases hkn : k < n
            · obtain ⟨o, ho⟩ : ∃ o, obs[k]? = some o := ⟨_, List.getElem?_eq_getElem (by rw [HN.out]; exact hkn)⟩
              have hfo := HF.out o (List.mem_of_getElem? ho)
              have hco := HC.out o (List.mem_of_getElem? ho)
              obtain ⟨_, _, _, _, hp0, hp1, _⟩ := (good_iff _ _ _).1 (head_good hfo.1)
              obtain ⟨P, hP⟩ : ∃ P, ptrs o.1 = P := ⟨_, rfl⟩
              have hP2 : o.1 % 65536 / 16 = (P : Nat) := by rw [← hP]; unfold ptrs; omega
              have hlen4 : o.2.length ≤ 4095 := by have := hfo.2; have := len_le hfo.1; omega
              have hPl : P ≤ o.2.length := by
                have h1 := hfo.2
                have h2 := head_nn hfo.1
                unfold lenOf at h1
                omega
              have HGD : Hid (∀ r, r < P → astrayO obs (o.2.getD r 0) = false) := Lib.hid fun r hr => by
                refine astray_live (hco.2 _ ?_)
                have hlt : r < o.2.length := by omega
                refine List.mem_of_getElem? (i := r) ?_
                rw [hP, List.getElem?_take_of_lt hr, List.getElem?_eq_getElem hlt]
                simp [List.getD, hlt]
              have HP2 := Lib.hid hP2
              have HPP := Lib.hid hP
              have HO := Lib.hid ho
              have k0 : (0 : Int) ≤ (k : Int) := by omega
              have k1 : (k : Int) < (n : Int) := by omega
              have ea : (⟨q, 0, none⟩ : Addr).add k = ⟨q, k, none⟩ := add_at q k
              obtain ⟨b1, hb1⟩ : ∃ b1, st[k]? = some b1 := ⟨_, List.getElem?_eq_getElem (by rw [HRC3.out.len, HN.out]; exact hkn)⟩
              have HB1 := Lib.hid hb1
              clear hfo hco hp0 hp1 ho hP hP2 hb1
              go_wp2_with fail
              go_loopw [9, 7] (fun i v wr => ∃ (p : Nat) (mo : Bool) (st : List Bool) (bb : Bool), p ≤ P ∧ i = .int .i64 (p : Nat) ∧ v = .bool mo ∧ Rc obs st ∧ (∀ r ∈ rts, led obs st r) ∧ st[k]? = some bb ∧ (bb = false → p = 0) ∧ (mo = false → st = st0 ∧ (∀ x, x < k → shut obs st0 x) ∧ ∀ r, r < p → led obs st0 (o.2.getD r 0)) ∧ (mo = true → fls st < fls st0) ∧ Lies wr q 4 (st.map Value.bool) ∧ Lies wr w.heap.size 33 [.int .i64 s, .slice A n c] ∧ Below w.heap.size w wr) (fun i _ _ => P - (intOf i).toNat)
              case atStart => exact ⟨0, mo, st, b1, Nat.zero_le _, rfl, rfl, HRC3.out, HLED3.out, HB1.out, fun _ => rfl, fun h => ⟨(HNO.out h).1, (HNO.out h).2, fun r hr => absurd hr (Nat.not_lt_zero _)⟩, HYES.out, HL3.out, HLB3.out, HB3.out⟩
              case round =>
                obtain ⟨p, mo4, st4, bb, hp, rfl, rfl, hrc, hled, hbb, hb0, hno, hyes, hL, hLB, hb⟩ := hrel
                have HRC4 := Lib.hid hrc
                have HLED4 := Lib.hid hled
                have HBB4 := Lib.hid hbb
                have HNO4 := Lib.hid hno
                have HYES4 := Lib.hid hyes
                have HL4 := Lib.hid hL
                have HLB4 := Lib.hid hLB
                have HB4 := Lib.hid hb
                have x0 : wr.cell? ⟨w.heap.size, 0, none⟩ = some (.int .i64 s) := hLB.cell 0
                have x1 : wr.cell? ⟨w.heap.size, 1, none⟩ = some (.slice A n c) := hLB.cell 1
                have cq : wr.cell? ⟨q, k, none⟩ = some (.bool bb) := by rw [hL.cell, List.getElem?_map, hbb]; rfl
                obtain ⟨ad, B4, cc, e4, c0, c1, c2, c3, c4, hrow, -, hadl⟩ := (HH.out.kept hb).at_ HO.out
                subst e4
                rw [HP2.out] at c3
                have HROW := Lib.hid hrow
                obtain ⟨ln, hln⟩ : ∃ ln, o.2.length = ln := ⟨_, rfl⟩
                rw [hln] at c4 hPl hlen4
                have HLN := Lib.hid hln
                clear hrc hled hbb hno hyes hL hLB hb c0 c1 c2 hrow hln hadl
                cases bb with
                | false =>
                  obtain rfl : p = 0 := hb0 rfl
                  clear c3 c4 hb0
                  go_wp2_with fail
                  refine ⟨⟨k + 1, mo4, st4, by omega, by go_num, rfl, HRC4.out, HLED4.out, fun h => ⟨(HNO4.out h).1, fun x hx => ?_⟩, HYES4.out, HL4.out, HLB4.out, HB4.out⟩, by simp [intOf]; omega⟩
                  by_cases hxk : x = k
                  · subst hxk
                    intro o' _ hst
                    rw [← (HNO4.out h).1, HBB4.out] at hst
                    simp at hst
                  · exact (HNO4.out h).2.1 x (by omega)
                | true =>
                  by_cases hjP : p < P
                  · have hzl : p < o.2.length := by rw [HLN.out]; omega
                    have hzg := HGD.out p hjP
                    obtain ⟨bd, e5, hcz⟩ := HROW.out.at_ hzl
                    subst e5
                    obtain ⟨z, hz⟩ : ∃ z, o.2.getD p 0 = z := ⟨_, rfl⟩
                    rw [hz] at hcz hzg
                    have HZ := Lib.hid hz
                    have p0 : (0 : Int) ≤ (p : Int) := by omega
                    have p1 : (p : Int) < (ln : Int) := by omega
                    have p2 : decide ((p : Int) < (P : Int)) = true := by simp; omega
                    by_cases hz0 : z = 0
                    · subst hz0
                      clear hz hzg hzl hb0
                      go_wp2_with fail
                      refine ⟨⟨p + 1, mo4, st4, true, by omega, by go_num, rfl, HRC4.out, HLED4.out, HBB4.out, (fun h => by cases h), fun h => ⟨(HNO4.out h).1, (HNO4.out h).2.1, fun r hr => ?_⟩, HYES4.out, HL4.out, HLB4.out, HB4.out⟩, by simp [intOf]; omega⟩
                      by_cases hrp : r = p
                      · subst hrp; rw [HZ.out]; exact .inl rfl
                      · exact (HNO4.out h).2.2 r (by omega)
                    · obtain ⟨hz1, hz2, i, o2, hi, hin, hfv, ho2, hk2⟩ := HTI.out z hzg hz0
                      obtain ⟨y, hy⟩ : ∃ y, z - 1 = y := ⟨_, rfl⟩
                      rw [hy] at hfv
                      have hyw : IntKind.i64.wrap (z - 1) = y := by rw [← hy]; exact IntWalk.i64_in _ (by omega)
                      have d1 : decide (0 < z) = true := by simp; omega
                      have hcall := Lib.hid (fun V (hV : Below w.heap.size w V) => HFD.out V hV y)
                      rw [hfv] at hcall
                      obtain ⟨b5, hb5⟩ : ∃ b5, st4[i]? = some b5 := ⟨_, List.getElem?_eq_getElem (by rw [HRC4.out.len, HN.out]; exact hin)⟩
                      have HB5 := Lib.hid hb5
                      have HI := Lib.hid hi
                      have HRC5 := Lib.hid (HRC4.out.set ho2 hk2)
                      have i0 : (0 : Int) ≤ (i : Int) := by omega
                      have i1 : (i : Int) < (n : Int) := by omega
                      have ea2 : (⟨q, 0, none⟩ : Addr).add i = ⟨q, i, none⟩ := add_at q i
                      clear hz hzg hzl hb0 hz0 hi hfv ho2 hk2 hy hb5
                      go_wp2_with fail
                      refine (hcall.out _ HB4.out).mono ?_
                      rintro e w5 ⟨rfl, hb6⟩
                      have HB6 := Lib.hid (on HB4.out HB4.out.size hb6)
                      have HL6 := Lib.hid (HL4.out.kept hb6)
                      have HLB6 := Lib.hid (HLB4.out.kept hb6)
                      have cq2 : w5.cell? ⟨q, i, none⟩ = some (.bool b5) := by rw [HL6.out.cell, List.getElem?_map, HB5.out]; rfl
                      have x2 : w5.cell? ⟨w.heap.size, 0, none⟩ = some (.int .i64 s) := HLB6.out.cell 0
                      have x3 : w5.cell? ⟨w.heap.size, 1, none⟩ = some (.slice (some ad) n c) := HLB6.out.cell 1
                      clear hb6 x0 x1 cq c3 c4 hcz
                      cases b5 with
                      | true =>
                        go_wp2_with fail
                        refine ⟨⟨p + 1, mo4, st4, true, by omega, by go_num, rfl, HRC4.out, HLED4.out, HBB4.out, (fun h => by cases h), fun h => ⟨(HNO4.out h).1, (HNO4.out h).2.1, fun r hr => ?_⟩, HYES4.out, HL6.out, HLB6.out, HB6.out⟩, by simp [intOf]; omega⟩
                        by_cases hrp : r = p
                        · subst hrp; rw [HZ.out, ← (HNO4.out h).1]; exact .inr (by rw [← HI.out]; exact HB5.out)
                        · exact (HNO4.out h).2.2 r (by omega)
                      | false =>
                        go_wp2_with fail
                        refine (hcall.out _ HB6.out).mono ?_
                        rintro e w7 ⟨rfl, hb7⟩
                        have HB7 := Lib.hid (on HB6.out HB6.out.size hb7)
                        have HL7 := Lib.hid (HL6.out.kept hb7)
                        have HLB7 := Lib.hid (HLB6.out.kept hb7)
                        have cq3 : w7.cell? ⟨q, i, none⟩ = some (.bool false) := by rw [HL7.out.cell, List.getElem?_map, HB5.out]; rfl
                        have f7 := HL7.out.frozen i
                        have l7 : q < w7.heap.size := HL7.out.lt
                        clear hb7 x2 x3 cq2
                        go_wp2_with fail
                        have hfl := fls_set st4 i HB5.out
                        refine ⟨⟨p + 1, true, st4.set i true, true, by omega, by go_num, rfl, HRC5.out, fun r hr => led_set (HLED4.out r hr), set_keeps HBB4.out, (fun h => by cases h), (fun h => by cases h), fun _ => ?_, by rw [map_set]; exact HL7.out.set i _, HLB7.out.far (p := ⟨q, i, none⟩) (by show w.heap.size ≠ q; exact hbq) _, HB7.out.setCell (p := ⟨q, i, none⟩) (by show w.heap.size ≤ q; exact hbq2) _⟩, by simp [intOf]; omega⟩
                        cases mo4 with
                        | true => have := HYES4.out (by first | rfl | trivial); omega
                        | false => have := (HNO4.out (by first | rfl | trivial)).1; rw [this] at hfl; rw [this]; omega
                  · obtain rfl : p = P := by omega
                    have p2 : decide ((p : Int) < (p : Int)) = false := by simp
                    clear c4 hb0
                    go_wp2_with fail
                    refine ⟨⟨k + 1, mo4, st4, by omega, by go_num, rfl, HRC4.out, HLED4.out, fun h => ⟨(HNO4.out h).1, fun x hx => ?_⟩, HYES4.out, HL4.out, HLB4.out, HB4.out⟩, by simp [intOf]; omega⟩
                    by_cases hxk : x = k
                    · subst hxk
                      intro o' ho' _ r hr
                      rw [HO.out] at ho'
                      injection ho' with ho'
                      subst ho'
                      rw [HPP.out] at hr
                      exact (HNO4.out h).2.2 r hr
                    · exact (HNO4.out h).2.1 x (by omega)
            · obtain rfl : k = n := by omega
              have HFL3 := Lib.hid (fls_w HL3.out (HRC3.out.len.trans HN.out))
              go_wp2_with fail
              refine ⟨⟨mo, st, rfl, HRC3.out, HLED3.out, fun h x => ?_, HL3.out, HLB3.out, HB3.out⟩, ?_⟩
              · have h1 := HNO.out h
                rw [h1.1]
                by_cases hx : x < k
                · exact h1.2 x hx
                · intro o' ho' _
                  have := (List.getElem?_eq_some_iff.1 ho').1
                  rw [HN.out] at this
                  exact absurd this hx
              · have h1 := HFL.out
                have h2 := HFL3.out
                cases mo with
                | true =>
                  have h3 := HYES.out (by first | rfl | trivial)
                  rw [h1, h2]
                  omega
                | false =>
                  have h3 := (HNO.out (by first | rfl | trivial)).1
                  rw [h1, h2, h3]
                  simp [boolOf]
end Go.Proofs.Ytklhdilbmpndkaa

namespace Go.Proofs.Ytklhdilbmpndkaa
set_option maxRecDepth 20000
open Go.RowKit Go.Sort
set_option linter.unusedVariables false
set_option linter.unusedSimpArgs false


/-- Marks of what is reached, among the first so many. -/
def markT (obs : List Ob) (st : List Bool) (j p : Nat) : Bool := (List.range j).any fun k => (st[k]? == some true) && decide (p = atI obs k)
theorem markT_succ (obs : List Ob) (st : List Bool) (j p : Nat) : markT obs st (j + 1) p = (markT obs st j p || ((st[j]? == some true) && decide (p = atI obs j))) := by
  unfold markT
  rw [List.range_succ, List.any_append]
  simp
theorem markT_at {obs : List Ob} {st : List Bool} {k : Nat} (hl : st.length = obs.length) (hk : k < obs.length) : markT obs st obs.length (atI obs k) = (st[k]? == some true) := by
  unfold markT
  cases hs : st[k]? == some true with
  | true =>
    rw [List.any_eq_true]
    exact ⟨k, List.mem_range.2 hk, by rw [hs]; simp⟩
  | false =>
    rw [List.any_eq_false]
    intro k' hk' h
    rw [List.mem_range] at hk'
    rw [Bool.and_eq_true, decide_eq_true_eq] at h
    have := atI_inj hk hk' h.2
    subst this
    rw [hs] at h
    exact absurd h.1 (by simp)
section
variable {obs : List Ob} {st : List Bool} {f : Nat → Bool}
theorem stb_reach (hc : Rc obs st) (hf : ∀ p, f p = markT obs st obs.length p) : Stb st f obs := by
  refine ⟨hc.len, fun k o ho => ?_⟩
  have hk := (List.getElem?_eq_some_iff.1 ho).1
  obtain ⟨b, hb⟩ : ∃ b, st[k]? = some b := ⟨_, List.getElem?_eq_getElem (by rw [hc.len]; exact hk)⟩
  rw [hb]
  congr 1
  unfold keepB
  rw [hf]
  show b = _
  rw [markT_at hc.len hk, hb]
  cases b with
  | false => simp
  | true => have := hc.no k o ho hb; simp [this]
theorem led_ok (hst : Stb st f obs) {z : Int} (hg : astrayO obs z = false) (hl : led obs st z) : okW f (adr 0 obs) z = true := by
  by_cases h0 : z = 0
  · subst h0; simp [okW]
  · obtain ⟨h1, h2, o, h3, h4⟩ := led_to hg h0
    rcases hl with h | h
    · exact absurd h h0
    · rcases find_word hst z (z - 1) (.inl rfl) h0 with ⟨h5, _⟩ | ⟨_, h6 | h6 | ⟨i, h6, _, h7⟩⟩
      · exact h5
      · omega
      · rw [h2] at h6; omega
      · rw [h2] at h6
        have e : toI obs z = i := by omega
        rw [e, h7] at h
        simp at h
theorem reach_right (hc : Rc obs st) (hst : Stb st f obs) (hcl : Clean obs) (hsh : ∀ k, shut obs st k) : rightB f (adr 0 obs) = true := by
  unfold rightB
  rw [List.all_eq_true]
  intro x hx
  obtain ⟨k, hk⟩ := List.mem_iff_getElem?.1 hx
  obtain ⟨h1, h2⟩ := adr_get hk
  rw [Nat.zero_add] at h2
  have hxe : x = (atI obs k, x.2) := by rw [← h2]
  cases hkp : keepB f x with
  | false => rfl
  | true =>
    simp only [Bool.not_true, Bool.false_or]
    have hs := hst.at_ k x.2 h1
    rw [← hxe, hkp] at hs
    unfold okX
    rw [List.all_eq_true]
    intro z hz
    have hco := (hcl x.2 (List.mem_of_getElem? h1)).2 z hz
    obtain ⟨r, hr⟩ := List.mem_iff_getElem?.1 hz
    have hrl := (List.getElem?_eq_some_iff.1 hr).1
    rw [List.length_take] at hrl
    rw [List.getElem?_take_of_lt (by omega)] at hr
    have hl := hsh k x.2 h1 hs r (by omega)
    have e : x.2.2.getD r 0 = z := by simp [List.getD, hr]
    rw [e] at hl
    exact led_ok hst (astray_live hco) hl
end
/-- What reached makes. -/
structure Rch (w w' : World) (ds : List Nd) (rs : List Int) (Z g gw gb base : Nat) (obs : List Ob) (tail : List Int) (A : Option Addr) (n c : Nat) (xs : List Value) (B : Option Addr) (cap : Nat) (rts : List Int) (mg mw : Nat) (ws : List Nat) (q : Nat) (st : List Bool) : Prop where
  bt : Built w w' ds rs Z g gw gb base obs tail A n c xs B cap rts
  map : Mk.At w' mg mw Z ws
  bits : ∀ p, Mk.bit ws p = markT obs st obs.length p
  row : Lies w' q 4 (st.map Value.bool)
  rc : Rc obs st
  led : ∀ r ∈ rts, led obs st r
  shut : ∀ k, shut obs st k
theorem Rch.kept {w w' w'' : World} {ds : List Nd} {rs : List Int} {Z g gw gb base n c cap mg mw q : Nat} {obs : List Ob} {tail : List Int} {A B : Option Addr} {xs : List Value} {rts : List Int} {ws : List Nat} {st : List Bool} (h : Rch w w' ds rs Z g gw gb base obs tail A n c xs B cap rts mg mw ws q st) (hb : Below w'.heap.size w' w'') : Rch w w'' ds rs Z g gw gb base obs tail A n c xs B cap rts mg mw ws q st :=
  ⟨h.bt.kept hb, h.map.kept hb, h.bits, h.row.kept hb, h.rc, h.led, h.shut⟩
theorem Rch.stb {w w' : World} {ds : List Nd} {rs : List Int} {Z g gw gb base n c cap mg mw q : Nat} {obs : List Ob} {tail : List Int} {A B : Option Addr} {xs : List Value} {rts : List Int} {ws : List Nat} {st : List Bool} (h : Rch w w' ds rs Z g gw gb base obs tail A n c xs B cap rts mg mw ws q st) : Stb st (Mk.bit ws) obs := stb_reach h.rc h.bits
theorem Rch.right {w w' : World} {ds : List Nd} {rs : List Int} {Z g gw gb base n c cap mg mw q : Nat} {obs : List Ob} {tail : List Int} {A B : Option Addr} {xs : List Value} {rts : List Int} {ws : List Nat} {st : List Bool} (h : Rch w w' ds rs Z g gw gb base obs tail A n c xs B cap rts mg mw ws q st) : rightB (Mk.bit ws) (adr 0 obs) = true := reach_right h.rc h.stb h.bt.clean h.shut
theorem Rch.roots {w w' : World} {ds : List Nd} {rs : List Int} {Z g gw gb base n c cap mg mw q : Nat} {obs : List Ob} {tail : List Int} {A B : Option Addr} {xs : List Value} {rts : List Int} {ws : List Nat} {st : List Bool} (h : Rch w w' ds rs Z g gw gb base obs tail A n c xs B cap rts mg mw ws q st) : rts.all (okW (Mk.bit ws) (adr 0 obs)) = true := by
  rw [List.all_eq_true]
  exact fun r hr => led_ok h.stb (h.bt.good r hr) (h.led r hr)
theorem mkAt_far {w : World} {mg mw Z : Nat} {ws : List Nat} (h : Mk.At w mg mw Z ws) {p : Addr} (h1 : mg ≠ p.block) (h2 : mw ≠ p.block) (u : Value) : Mk.At (w.setCell p u) mg mw Z ws :=
  ⟨h.own.far h1 u, h.words.far h2 u, h.many, h.some_, h.most, h.fit, h.in_⟩
theorem Built.behind {w w1 w' : World} {ds : List Nd} {rs : List Int} {Z g gw gb base n c cap : Nat} {obs : List Ob} {tail : List Int} {A B : Option Addr} {xs : List Value} {rts : List Int} (h : Built w1 w' ds rs Z g gw gb base obs tail A n c xs B cap rts) (hb : Below w.heap.size w w1) : Built w w' ds rs Z g gw gb base obs tail A n c xs B cap rts :=
  ⟨h.st, h.clean, h.len, h.own, h.count, h.heads, on hb hb.size h.old, h.room, ⟨Nat.le_trans hb.size h.lo.1, Nat.le_trans hb.size h.lo.2.1, Nat.le_trans hb.size h.lo.2.2⟩, h.hi, h.rts_, h.row, h.good⟩
theorem Built.put2 {w W : World} {ds : List Nd} {rs : List Int} {Z g gw gb base n c cap bm : Nat} {obs : List Ob} {tail : List Int} {A B : Option Addr} {xs : List Value} {rts : List Int} {a b : Value} (h : Built w W ds rs Z g gw gb base obs tail A n c xs B cap rts) (hl : Lies W bm 33 [a, b]) (h1 : g ≠ bm) (h2 : gw ≠ bm) (h3 : gb ≠ bm) (hbm : w.heap.size ≤ bm) (u v : Value) : Built w ((W.setCell ⟨bm, 0, none⟩ u).setCell ⟨bm, 1, none⟩ v) ds rs Z g gw gb base obs tail A n c xs B cap rts := by
  refine ⟨h.st.put2 h1 h2 h3 _ _, h.clean, h.len, h.own.put2 hl _ _, h.count, h.heads, (h.old.setCell (p := ⟨bm, 0, none⟩) hbm _).setCell (p := ⟨bm, 1, none⟩) hbm _, by simpa using h.room, h.lo, h.hi, h.rts_, ?_, h.good⟩
  refine h.row.kept fun b cs hb hl2 => ?_
  have hne2 : b ≠ bm := hl2.apart hl (by decide)
  exact (hl2.far (p := ⟨bm, 0, none⟩) hne2 _).far (p := ⟨bm, 1, none⟩) hne2 _
set_option maxRecDepth 1000000 in
set_option maxHeartbeats 4000000 in
theorem reached_any {w : World} (A0 B0 : Option Addr) (n cN m cR : Nat) (ds : List Nd) (rs : List Int) (hd : CameN w A0 n ds) (hr : Mk.Came .u8 w B0 m rs) (hn : n ≤ 14) (hm : m ≤ 14) (hed : ∀ d ∈ ds, d.edges.length ≤ 10) :
    Calls Try.prog 18 #[.agg #[.slice A0 n cN, .slice B0 m cR]] w fun e w' => ∃ g gw gb base obs tail A n' c xs B cap rts mg mw ws q st, e = .returned (.tuple #[.pointer (some ⟨g, 0, none⟩), .slice B m cap, .pointer (some ⟨mg, 0, none⟩), .agg #[.int .i64 (sizeG ds 3 n : Nat), .slice A n' c], .slice (some ⟨q, 0, none⟩) n' n']) ∧ Rch w w' ds rs (sizeG ds 3 n) g gw gb base obs tail A n' c xs B cap rts mg mw ws q st := by
  have HD := Lib.hid hd
  have HR := Lib.hid hr
  have HE := Lib.hid hed
  have hZs := size_small hed n 3 (by rw [hd.1]; exact hn)
  have b0 : Below w.heap.size w ((w.alloc (.cells #[.slice A0 n cN, .slice B0 m cR] 25)).alloc (.cells #[.int .i64 0, .slice none 0 0] 33)) := ((Below.refl _ w).alloc (Nat.le_refl _) _).alloc (by simp) _
  have LX : Lies ((w.alloc (.cells #[.slice A0 n cN, .slice B0 m cR] 25)).alloc (.cells #[.int .i64 0, .slice none 0 0] 33)) w.heap.size 25 [.slice A0 n cN, .slice B0 m cR] := (Lies.new w 25 [_, _]).alloc _
  have LY : Lies ((w.alloc (.cells #[.slice A0 n cN, .slice B0 m cR] 25)).alloc (.cells #[.int .i64 0, .slice none 0 0] 33)) (w.heap.size + 1) 33 [.int .i64 0, .slice none 0 0] := by
    have := Lies.new (w.alloc (.cells #[.slice A0 n cN, .slice B0 m cR] 25)) 33 [.int .i64 0, .slice none 0 0]
    rw [World.size_alloc] at this; exact this
  have hsz1 : ((w.alloc (.cells #[.slice A0 n cN, .slice B0 m cR] 25)).alloc (.cells #[.int .i64 0, .slice none 0 0] 33)).heap.size = w.heap.size + 2 := by simp
  obtain ⟨w1, hw1⟩ : ∃ w1, (w.alloc (.cells #[.slice A0 n cN, .slice B0 m cR] 25)).alloc (.cells #[.int .i64 0, .slice none 0 0] 33) = w1 := ⟨_, rfl⟩
  rw [hw1] at b0 LX LY hsz1
  have HW1 := Lib.hid hw1
  have HB1 := Lib.hid b0
  have HLX := Lib.hid LX
  have HLY := Lib.hid LY
  have HS1 := Lib.hid hsz1
  have y0 : w1.cell? ⟨w.heap.size, 0, none⟩ = some (.slice A0 n cN) := LX.cell 0
  have y1 : w1.cell? ⟨w.heap.size, 1, none⟩ = some (.slice B0 m cR) := LX.cell 1
  clear b0 LX LY hw1 hd hr hed hsz1
  go_enter Try.func18, Try.ntmps18
  go_upto_region 1 with fail
  rw [HW1.out]
  go_wp2_with fail
  refine (build_any A0 B0 n cN m cR 3 ds rs ⟨HD.out.1, HD.out.2.1.kept HB1.out, HD.out.2.2⟩ ⟨HR.out.1, HR.out.2.1.kept HB1.out, HR.out.2.2⟩ hn hm HE.out (by omega)).mono ?_
  rintro e w4 ⟨g, gw, gb, base, obs, tail, A, n', c, xs, B, cap, rts, rfl, BT⟩
  obtain ⟨Z, hZ⟩ : ∃ Z, sizeG ds 3 n = Z := ⟨_, rfl⟩
  rw [hZ] at BT hZs ⊢
  have HZ1 : 1 ≤ Z := by rw [← hZ]; unfold sizeG; omega
  have bX := below_one w4 (.cells #[.int .i64 (Z : Int), .slice A n' c] 33)
  have HBT := Lib.hid (BT.kept bX)
  have HB4 := Lib.hid (on (on HB1.out HB1.out.size BT.old) (on HB1.out HB1.out.size BT.old).size bX)
  have HY4 := Lib.hid ((HLY.out.kept BT.old).kept bX)
  have HLB := Lib.hid (show Lies (w4.alloc (.cells #[.int .i64 (Z : Int), .slice A n' c] 33)) w4.heap.size 33 [.int .i64 (Z : Int), .slice A n' c] from Lies.new w4 33 [_, _])
  have hs4 := BT.old.size
  have sX : (w4.alloc (.cells #[.int .i64 (Z : Int), .slice A n' c] 33)).heap.size = w4.heap.size + 1 := by simp
  obtain ⟨w5, hw5⟩ : ∃ w5, w4.alloc (.cells #[.int .i64 (Z : Int), .slice A n' c] 33) = w5 := ⟨_, rfl⟩
  rw [hw5] at HBT HB4 HY4 HLB sX
  have HW5 := Lib.hid hw5
  obtain ⟨rb, hrb⟩ : ∃ rb, w4.heap.size = rb := ⟨_, rfl⟩
  rw [hrb] at HLB sX hs4
  have HRB := Lib.hid hrb
  have HSX := Lib.hid (And.intro sX hs4)
  clear BT bX hw5 hrb sX hs4 y0 y1
  have HZZ := Lib.hid hZ
  clear hZ
  go_upto_region 2 with fail
  rw [HW5.out, HRB.out]
  go_wp2_with fail
  refine (size_z HBT.out.st Z HBT.out.len).mono ?_
  rintro e wx ⟨rfl, hwx⟩
  rw [hwx]; clear hwx wx
  go_wp2_with fail
  refine (Mk.new_yes (Z : Int) Z rfl _ HZ1 (by omega)).mono ?_
  rintro e w7 ⟨mg, mw, rfl, hb7, hmg, hmw, M7⟩
  have HB7 := Lib.hid hb7
  have HM7 := Lib.hid M7
  have HMG := Lib.hid (And.intro hmg hmw)
  have r0 : w7.cell? ⟨rb, 0, none⟩ = some (.int .i64 (Z : Int)) := (HLB.out.kept hb7).cell 0
  have r1 : w7.cell? ⟨rb, 1, none⟩ = some (.slice A n' c) := (HLB.out.kept hb7).cell 1
  have hlenZ := HBT.out.len
  have hlenF : (flat obs).length ≤ 65536 := by rw [List.length_append] at hlenZ; omega
  have hrl : rts.length = m := by rw [HBT.out.rts_, List.length_map]; exact HR.out.1
  have hRE := reach_any (w := w7) (A := A) (B := B) (Z : Int) n' c m cap HBT.out.st.fine (HBT.out.kept hb7).own.things HBT.out.count hlenF (Row.of_rv (HBT.out.kept hb7).row) hrl HBT.out.good HBT.out.clean (by omega)
  have HRE := Lib.hid hRE
  clear hb7 M7 hmg hmw hlenZ hlenF hRE
  go_wp2_with fail
  refine HRE.out.mono ?_
  rintro e w8 ⟨q, st, rfl, hqs, hLq, hrc, hled, hshut, hb8⟩
  have HB8 := Lib.hid (on HB7.out HB7.out.size hb8)
  have HM8 := Lib.hid (HM7.out.kept hb8)
  have HLQ := Lib.hid hLq
  have HRC := Lib.hid hrc
  have HLED := Lib.hid hled
  have HSH := Lib.hid hshut
  have HNEQ : Hid (q ≠ mg ∧ q ≠ mw) := Lib.hid ⟨by have := HM7.out.own.lt; omega, by have := HM7.out.words.lt; omega⟩
  have x1 : w8.cell? ⟨rb, 1, none⟩ = some (.slice A n' c) := (HLB.out.kept HB8.out).cell 1
  have hn3 : n' ≤ 65536 := by have := HBT.out.count; have := count_le obs; have hl := HBT.out.len; rw [List.length_append] at hl; omega
  have HCT := Lib.hid HBT.out.count
  clear hqs hLq hrc hled hshut hb8 r0 r1 HRE
  go_wp2_with fail
  go_loopw [33] (fun i wr => ∃ (k : Nat) (ws : List Nat), k ≤ n' ∧ i = .int .i64 (k : Nat) ∧ Mk.At wr mg mw Z ws ∧ (∀ p, Mk.bit ws p = markT obs st k p) ∧ Lies wr q 4 (st.map Value.bool) ∧ Below w5.heap.size w5 wr) (fun i _ => n' - (intOf i).toNat)
  case atStart => exact ⟨0, _, Nat.zero_le _, rfl, HM8.out, fun p => by rw [Mk.bit_new]; rfl, HLQ.out, HB8.out⟩
  case round =>
    obtain ⟨k, ws, hk, rfl, M, hbits, hL, hb⟩ := hrel
    have HM := Lib.hid M
    have HBITS := Lib.hid hbits
    have HL := Lib.hid hL
    have HB := Lib.hid hb
    by_cases hlt : k < n'
    · obtain ⟨o, ho⟩ : ∃ o, obs[k]? = some o := ⟨_, List.getElem?_eq_getElem (by rw [HCT.out]; exact hlt)⟩
      obtain ⟨ad, B1, cc, e1, c0, c1, c2, c3, c4, -, -, -⟩ := (HBT.out.kept hb).own.things.at_ ho
      subst e1
      have hpZ : atI obs k < Z := by
        have h1 := at_lt ho
        have h2 := HBT.out.len
        rw [List.length_append] at h2; omega
      obtain ⟨b1, hb1⟩ : ∃ b1, st[k]? = some b1 := ⟨_, List.getElem?_eq_getElem (by rw [HRC.out.len, HCT.out]; exact hlt)⟩
      have HB11 := Lib.hid hb1
      obtain ⟨p, hp⟩ : ∃ p, atI obs k = p := ⟨_, rfl⟩
      have HP := Lib.hid hp
      rw [hp] at c0 hpZ
      obtain ⟨k1, hk1⟩ : ∃ x, o.1 % 16 = x := ⟨_, rfl⟩
      obtain ⟨k2, hk2⟩ : ∃ x, o.1 / 65536 = x := ⟨_, rfl⟩
      obtain ⟨k3, hk3⟩ : ∃ x, o.1 % 65536 / 16 = x := ⟨_, rfl⟩
      rw [hk1] at c1
      rw [hk2] at c2
      rw [hk3] at c3
      have bx := below_one wr (.cells #[.int .i64 (p : Nat), .int .i64 k1, .int .i64 k2, .int .i64 k3, .slice B1 o.2.length cc] 47)
      have HBX := Lib.hid bx
      have HLX1 := Lib.hid (show Lies (wr.alloc (.cells #[.int .i64 (p : Nat), .int .i64 k1, .int .i64 k2, .int .i64 k3, .slice B1 o.2.length cc] 47)) wr.heap.size 47 [.int .i64 (p : Nat), .int .i64 k1, .int .i64 k2, .int .i64 k3, .slice B1 o.2.length cc] from Lies.new wr 47 [_, _, _, _, _])
      obtain ⟨wa, hwa⟩ : ∃ wa, wr.alloc (.cells #[.int .i64 (p : Nat), .int .i64 k1, .int .i64 k2, .int .i64 k3, .slice B1 o.2.length cc] 47) = wa := ⟨_, rfl⟩
      rw [hwa] at HBX HLX1
      have HWA := Lib.hid hwa
      have i0 : (0 : Int) ≤ (k : Int) := by omega
      have i1 : (k : Int) < (n' : Int) := by omega
      clear hk1 hk2 hk3 ho hp bx hwa M hbits hL hb hb1
      go_upto_region 7 with fail
      rw [HWA.out]
      have HLA := Lib.hid (HL.out.kept HBX.out)
      have cq : wa.cell? ⟨q, k, none⟩ = some (.bool b1) := by rw [HLA.out.cell, List.getElem?_map, HB11.out]; rfl
      have ea : (⟨q, 0, none⟩ : Addr).add k = ⟨q, k, none⟩ := add_at q k
      have cx : wa.cell? ⟨wr.heap.size, 0, none⟩ = some (.int .i64 (p : Nat)) := HLX1.out.cell 0
      have HMA := Lib.hid (HM.out.kept HBX.out)
      have HBA := Lib.hid (on HB.out HB.out.size HBX.out)
      clear c0 c1 c2 c3 c4
      cases b1 with
      | false =>
        go_wp2_with fail
        refine ⟨⟨k + 1, ws, by omega, by go_num, HMA.out, fun p' => ?_, HLA.out, HBA.out⟩, by simp [intOf]; omega⟩
        rw [markT_succ, HBITS.out, HB11.out]; simp
      | true =>
        have HSET := Lib.hid (Mk.set_yes HMA.out p hpZ)
        go_wp2_with fail
        refine HSET.out.mono ?_
        rintro e w9 ⟨rfl, M9, E9⟩
        have HM9 := Lib.hid M9
        have HL9 := Lib.hid (E9.lies HLA.out HNEQ.out.1 HNEQ.out.2)
        have HB9 := Lib.hid (HBA.out.trans (E9.below HBA.out.size HMG.out.1 HMG.out.2))
        clear M9 E9 cq cx
        go_wp2_with fail
        refine ⟨⟨k + 1, Mk.setW ws p, by omega, by go_num, HM9.out, fun p' => ?_, HL9.out, HB9.out⟩, by simp [intOf]; omega⟩
        rw [Mk.bit_set _ _ _ (HM.out.place hpZ), markT_succ, HBITS.out, HB11.out, HP.out, Bool.or_comm]
        simp
    · obtain rfl : k = n' := by omega
      have hbm : w.heap.size + 1 < w5.heap.size := by have h1 := HSX.out; have h2 := HS1.out; omega
      have m0 : wr.cell? ⟨rb, 0, none⟩ = some (.int .i64 (Z : Int)) := (HLB.out.kept hb).cell 0
      have m1 : wr.cell? ⟨rb, 1, none⟩ = some (.slice A k c) := (HLB.out.kept hb).cell 1
      have LM4 := HY4.out.kept hb
      have r0 : wr.cell? ⟨w.heap.size + 1, 0, none⟩ = some (.int .i64 0) := LM4.cell 0
      have r1 : wr.cell? ⟨w.heap.size + 1, 1, none⟩ = some (.slice none 0 0) := LM4.cell 1
      have r2 := LM4.frozen 0
      have r3 := LM4.frozen 1
      have r4 := LM4.lt
      have hne : rb ≠ w.heap.size + 1 := by have h1 := HSX.out; have h2 := HS1.out; omega
      have LMd : Lies wr.drew (w.heap.size + 1) 33 [.int .i64 0, .slice none 0 0] := LM4
      have F : Rch w ((wr.drew.setCell ⟨w.heap.size + 1, 0, none⟩ (.int .i64 (Z : Int))).setCell ⟨w.heap.size + 1, 1, none⟩ (.slice A k c)) ds rs Z g gw gb base obs tail A k c xs B cap rts mg mw ws q st := by
        have T := (HBT.out.kept hb).kept (Below.refl _ wr).drew
        have h1 := T.lo
        have h2 := HS1.out
        have h3 := HMG.out
        have hq : q ≠ w.heap.size + 1 := HL.out.apart LM4 (by decide)
        have Md : Mk.At wr.drew mg mw Z ws := HM.out.kept (Below.refl _ wr).drew
        have Ld : Lies wr.drew q 4 (st.map Value.bool) := HL.out
        refine ⟨(T.behind HB1.out).put2 LMd (by omega) (by omega) (by omega) (by omega) _ _, mkAt_far (p := ⟨w.heap.size + 1, 1, none⟩) (mkAt_far (p := ⟨w.heap.size + 1, 0, none⟩) Md (by show mg ≠ w.heap.size + 1; omega) (by show mw ≠ w.heap.size + 1; omega) _) (by show mg ≠ w.heap.size + 1; omega) (by show mw ≠ w.heap.size + 1; omega) _, fun p => ?_, (Ld.far (p := ⟨w.heap.size + 1, 0, none⟩) hq _).far (p := ⟨w.heap.size + 1, 1, none⟩) hq _, HRC.out, HLED.out, HSH.out⟩
        rw [HBITS.out, HCT.out]
      have HFF := Lib.hid F
      clear F LM4 LMd hbits hL hb M
      go_wp2
      go_region
      go_wp2
      have lt2 : w.heap.size + 1 < wr.drew.heap.size := r4
      refine bodyPost_ret (v := .tuple #[.pointer (some ⟨g, 0, none⟩), .slice B m cap, .pointer (some ⟨mg, 0, none⟩), .agg #[.int .i64 (Z : Int), .slice A k c], .slice (some ⟨q, 0, none⟩) k k]) (by simp [results, Try.results18, go_sem, r0, r1, r2, r3, r4, lt2]) rfl ?_
      exact ⟨g, gw, gb, base, obs, tail, A, k, c, xs, B, cap, rts, mg, mw, ws, q, st, by rw [HZZ.out], by rw [HZZ.out]; exact HFF.out⟩
end Go.Proofs.Ytklhdilbmpndkaa

namespace Go.Proofs.Ytklhdilbmpndkaa
set_option maxRecDepth 20000
open Go.RowKit
set_option linter.unusedVariables false
set_option linter.unusedSimpArgs false


/-- Marks where some objects begin. -/
def marksOf (obs : List Ob) (p : Nat) : Bool := (adr 0 obs).any fun x => decide (x.1 = p)
theorem marks_more (pre : List Ob) (o : Ob) (p : Nat) : marksOf (pre ++ [o]) p = (decide (p = (flat pre).length) || marksOf pre p) := by
  unfold marksOf
  rw [adr_append, List.any_append, Nat.zero_add]
  simp only [adr, List.any_cons, List.any_nil, Bool.or_false]
  rw [Bool.or_comm]
  congr 1
  rw [decide_eq_decide]
  exact eq_comm
set_option maxRecDepth 100000 in
set_option maxHeartbeats 1000000 in
theorem yield_all {W : World} {mg mw Z bm p : Nat} {ws : List Nat} (M : Mk.At W mg mw Z ws) (hp : p < Z) (a b c : Int) (hl : Lies W bm 36 [.pointer (some ⟨mg, 0, none⟩)]) :
    Calls Try.prog 25 (#[.int .i64 (p : Nat), .agg #[.int .i64 a, .int .i64 b, .int .i64 c]] ++ #[.pointer (some ⟨bm, 0, none⟩)]) W fun e W' => e = .returned (.bool true) ∧ Mk.At W' mg mw Z (Mk.setW ws p) ∧ Mk.Else mg mw W W' := by
  have b1 := below_one W (.cells #[.int .i64 a, .int .i64 b, .int .i64 c] 45)
  have hb2 : (W.alloc (.cells #[.int .i64 a, .int .i64 b, .int .i64 c] 45)).cell? ⟨bm, 0, none⟩ = some (.pointer (some ⟨mg, 0, none⟩)) := (hl.alloc _).cell 0
  have HS := Lib.hid (Mk.set_yes (M.kept b1) p hp)
  have HB1 := Lib.hid b1
  have hml := M.own.lt
  have hmw := M.words.lt
  clear M b1 hl
  go_enter Try.func25, Try.ntmps25
  go_wp2_with fail
  refine HS.out.mono ?_
  rintro e W2 ⟨rfl, M2, E2⟩
  have HM2 := Lib.hid M2
  have HE2 := Lib.hid E2
  clear M2 E2
  go_wp2_with fail
  go_ret
  refine ⟨rfl, HM2.out, ?_⟩
  exact (Mk.Else.of_below HB1.out).trans HE2.out

set_option maxRecDepth 100000 in
set_option maxHeartbeats 1000000 in
/-- All is marked: by the iterator and a function that marks. -/
theorem mark_all {w : World} {g gw gb mg mw Z bm bh : Nat} {obs : List Ob} {tail : List Int} {ws : List Nat} (S : St w g gw gb obs tail) (hZ : (flat obs ++ tail).length = Z) (M : Mk.At w mg mw Z ws) (h0 : ∀ p, Mk.bit ws p = false) (hl : Lies w bm 36 [.pointer (some ⟨mg, 0, none⟩)]) (hb : Lies w bh 29 [.pointer (some ⟨g, 0, none⟩)])
    (n1 : mg ≠ g ∧ mg ≠ gw ∧ mg ≠ gb ∧ mg ≠ bm ∧ mg ≠ bh) (n2 : mw ≠ g ∧ mw ≠ gw ∧ mw ≠ gb ∧ mw ≠ bm ∧ mw ≠ bh) :
    Calls Try.prog 48 #[.func (.func 25) #[] #[.pointer (some ⟨bm, 0, none⟩)], .pointer (some ⟨bh, 0, none⟩)] w fun e w' => e = .returned (.tuple #[]) ∧ ∃ ws', Mk.At w' mg mw Z ws' ∧ (∀ p, Mk.bit ws' p = marksOf obs p) ∧ Mk.Else mg mw w w' := by
  have key := walk1 25 #[.pointer (some ⟨bm, 0, none⟩)] g gw gb bh w.heap.size obs tail
    (fun pre W => ∃ ws', Mk.At W mg mw Z ws' ∧ (∀ p, Mk.bit ws' p = marksOf pre p) ∧ Mk.Else mg mw w W) (fun _ _ => False)
    (fun pre W h => by
      obtain ⟨ws', _, _, E⟩ := h
      have Z := S.lies
      exact ⟨⟨S.fine, Z.own.of_block (E.block _ Z.own.lt (by omega) (by omega)), Z.words.of_block (E.block _ Z.words.lt (by omega) (by omega)), Z.begins.of_block (E.block _ Z.begins.lt (by omega) (by omega)), Z.same, Z.some_, Z.most, Z.fits⟩, hb.of_block (E.block _ hb.lt (by omega) (by omega))⟩)
    (fun pre W W' h hB => by
      obtain ⟨ws', M', hb', E⟩ := h
      exact ⟨ws', M'.kept hB, hb', E.trans (Mk.Else.of_below hB)⟩)
    (fun pre o post W he h => by
      obtain ⟨ws', M', hb', E⟩ := h
      have hpZ : (flat pre).length < Z := by rw [← hZ, he, flat_append, flat_cons]; simp
      refine (yield_all M' hpZ _ _ _ (hl.of_block (E.block _ hl.lt (by omega) (by omega)))).mono ?_
      rintro e W' ⟨he', M2, E2⟩
      have E3 := E.trans E2
      refine .inl ⟨he', ⟨_, M2, fun p => ?_, E3⟩, ⟨E2.size, fun k hk hk2 => ?_⟩⟩
      · rw [Mk.bit_set _ _ _ (M'.place hpZ), hb', marks_more]
      · exact E2.block k hk2 (by have := M.own.lt; omega) (by have := M.words.lt; omega))
    (fun args W => rfl) w (Nat.le_refl _) ⟨ws, M, fun p => by rw [h0]; rfl, Mk.Else.refl _ _ _⟩
  refine key.mono ?_
  rintro e w' ⟨he, h | ⟨_, _, _, _, h⟩⟩
  · exact ⟨he, h⟩
  · exact h.elim
end Go.Proofs.Ytklhdilbmpndkaa

namespace Go.Proofs.Ytklhdilbmpndkaa
set_option maxRecDepth 20000
open Go.RowKit
set_option linter.unusedVariables false
set_option linter.unusedSimpArgs false


theorem two_heads {ds : List Nd} : ∀ k, k ≤ 2 → ∀ o ∈ (laidG ds k).1, o.1 % 16 ≠ 15
  | 0, _, o, ho => by simp [laidG] at ho
  | k + 1, hk, o, ho => by
    have ih := two_heads (ds := ds) k (by omega)
    cases hd : ds[k]? with
    | none => rw [laidG, hd] at ho; exact ih o ho
    | some d =>
      rw [laid_succ hd] at ho
      have hm : midN k d (laidG ds k).1 = (laidG ds k).1 := by unfold midN; rw [if_neg (by omega)]
      rw [hm] at ho
      rcases List.mem_append.1 ho with h | h
      · exact ih o h
      · rw [List.mem_singleton] at h
        rw [h]
        show headN d % 16 ≠ 15
        unfold headN packW
        omega
theorem no_fill {ds : List Nd} {obs : List Ob} (h2 : ds.length ≤ 2) (hh : obs.map Prod.fst = (laidG ds ds.length).1.map Prod.fst) : ∀ o ∈ obs, o.1 % 16 ≠ 15 := by
  intro o ho
  have h1 : o.1 ∈ obs.map Prod.fst := List.mem_map_of_mem ho
  rw [hh] at h1
  obtain ⟨o', h3, h4⟩ := List.mem_map.1 h1
  rw [← h4]
  exact two_heads _ h2 o' h3
theorem adr_snd : ∀ (a : Nat) (obs : List Ob), (adr a obs).map Prod.snd = obs
  | _, [] => rfl
  | a, o :: l => by rw [adr, List.map_cons, adr_snd]
section
variable {f : Nat → Bool} {obs : List Ob}
theorem whole_keep (hm : ∀ p, f p = marksOf obs p) (hn : ∀ o ∈ obs, o.1 % 16 ≠ 15) : ∀ x ∈ adr 0 obs, keepB f x = true := by
  intro x hx
  obtain ⟨pre, post, h1, _⟩ := mem_split hx
  have h2 := hn x.2 (by rw [h1]; simp)
  unfold keepB
  rw [hm]
  have h3 : marksOf obs x.1 = true := by unfold marksOf; rw [List.any_eq_true]; exact ⟨x, hx, by simp⟩
  simp [h2, h3]
theorem whole_go (hk : ∀ x ∈ adr 0 obs, keepB f x = true) : ∀ x ∈ adr 0 obs, goS f (adr 0 obs) x.1 = x.1 := by
  intro x hx
  obtain ⟨j, hj, rfl⟩ := List.getElem_of_mem hx
  have h1 := go_take (f := f) (adr_sorted 0 obs) (List.getElem?_eq_getElem hj)
  have h2 : ((adr 0 obs).take j).filter (keepB f) = (adr 0 obs).take j := by
    rw [List.filter_eq_self]
    exact fun y hy => hk y (List.mem_of_mem_take hy)
  rw [h2, sum_take] at h1
  rw [h1]
  have h3 := (adr_get (List.getElem?_eq_getElem hj)).2
  omega
theorem live_mem {a : Int} (h : Live obs a) : ∃ x ∈ adr 0 obs, a = (x.1 : Int) := by
  obtain ⟨pre, o, post, h1, h2, _⟩ := h
  refine ⟨((flat pre).length, o), ?_, h2⟩
  rw [h1, adr_append, adr, Nat.zero_add]
  simp
theorem whole_word (hk : ∀ x ∈ adr 0 obs, keepB f x = true) {v : Int} (h : v = 0 ∨ Live obs (v - 1)) : okW f (adr 0 obs) v = true ∧ mvW f (adr 0 obs) v = v := by
  rcases h with rfl | h
  · exact ⟨by simp [okW], by simp [mvW]⟩
  · obtain ⟨x, hx, hv⟩ := live_mem h
    have e : (v - 1).toNat = x.1 := by omega
    have hne : v ≠ 0 := by omega
    constructor
    · unfold okW
      rw [e, isK_at (adr_sorted 0 obs) hx, hk x hx]
      simp; omega
    · unfold mvW
      rw [if_neg hne, e, whole_go hk x hx]
      omega
theorem whole_right (hk : ∀ x ∈ adr 0 obs, keepB f x = true) (hc : Clean obs) : rightB f (adr 0 obs) = true := by
  unfold rightB
  rw [List.all_eq_true]
  intro x hx
  obtain ⟨pre, post, h1, _⟩ := mem_split hx
  have h2 := (hc x.2 (by rw [h1]; simp)).2
  have h3 : okX f (adr 0 obs) x = true := by
    unfold okX
    rw [List.all_eq_true]
    exact fun v hv => (whole_word hk (h2 v hv)).1
  rw [h3]; simp
theorem whole_new {C : Cx} (ho : C.obs = obs) (hk : ∀ x ∈ adr 0 obs, keepB C.f x = true) (hc : Clean obs) : C.new = obs := by
  have hL : C.L = adr 0 obs := by unfold Cx.L; rw [ho]
  unfold Cx.new
  rw [hL]
  have h1 : (adr 0 obs).filter (keepB C.f) = adr 0 obs := by rw [List.filter_eq_self]; exact hk
  rw [h1]
  conv => rhs; rw [← adr_snd 0 obs]
  refine List.map_congr_left fun x hx => ?_
  obtain ⟨pre, post, h2, _⟩ := mem_split hx
  have h3 := (hc x.2 (by rw [h2]; simp)).2
  unfold mvX
  refine Prod.ext rfl ?_
  show (tab x.2.2.length fun i => dstW C.f C.L x (i + 1)) = x.2.2
  refine List.ext_getElem? fun i => ?_
  by_cases hi : i < x.2.2.length
  · rw [tab_get _ hi, List.getElem?_eq_getElem hi]
    have hg : x.2.2.getD i 0 = x.2.2[i] := by simp [List.getD, hi]
    unfold dstW
    rw [if_neg (by omega), Nat.add_sub_cancel, hg, hL]
    by_cases hp : i + 1 ≤ ptrs x.2.1
    · rw [if_pos hp, (whole_word hk (h3 x.2.2[i] ?_)).2]
      refine List.mem_of_getElem? (i := i) ?_
      rw [List.getElem?_take_of_lt (by omega), List.getElem?_eq_getElem hi]
    · rw [if_neg hp]
  · rw [List.getElem?_eq_none (by rw [tab_len]; omega), List.getElem?_eq_none (by omega)]
end
end Go.Proofs.Ytklhdilbmpndkaa

namespace Go.Proofs.Ytklhdilbmpndkaa
set_option maxRecDepth 20000
open Go.RowKit
set_option linter.unusedVariables false
set_option linter.unusedSimpArgs false


section
variable {C : Cx} {size : Nat} {base : Nat → Int} {Q Q0 : Pm} {w0 w w' : World} {t : Int} {V V' : Nat → Prop}
theorem Run.old (R : Run C size base w0 w t Q) : Below w0.heap.size w0 w := by
  obtain ⟨M, h, _⟩ := R.mem; exact h.old
theorem phi_pos (R : Run C size base w0 w t Q) (hl : Q.left ≠ 0) : 0 < Phi C Q := by
  obtain ⟨j, hj, hc⟩ := goes_on R.cok R.inv hl
  have := phi_falls R.inv hj hc
  omega
theorem InRnd.mono (h : InRnd C Q0 Q V) (hv : ∀ j, V' j → V j) : InRnd C Q0 Q V' := by
  rcases h with h | h | ⟨h1, h2⟩
  · exact .inl h
  · exact .inr (.inl h)
  · exact .inr (.inr ⟨h1, fun j hj => h2 j (hv j hj)⟩)
end
end Go.Proofs.Ytklhdilbmpndkaa

namespace Go.Proofs.Ytklhdilbmpndkaa
set_option maxRecDepth 20000
open Go.RowKit
set_option linter.unusedVariables false
set_option linter.unusedSimpArgs false


/-- What the moved objects are, whatever the workers and the regions. -/
def newF (f : Nat → Bool) (obs : List Ob) : List Ob := ((adr 0 obs).filter (keepB f)).map fun x => (x.2.1, tab x.2.2.length fun i => dstW f (adr 0 obs) x (i + 1))
theorem new_eq {C : Cx} {f : Nat → Bool} {obs : List Ob} (ho : C.obs = obs) (hf : C.f = f) : C.new = newF f obs := by
  subst ho; subst hf; rfl
theorem rot {n k y : Nat} (hy : y < n) : ∃ x, x < n ∧ (x + k) % n = y := by
  have hk : k % n < n := Nat.mod_lt _ (by omega)
  refine ⟨(y + (n - k % n)) % n, Nat.mod_lt _ (by omega), ?_⟩
  have h1 : ((y + (n - k % n)) % n + k) % n = (y + (n - k % n) + k % n) % n := by
    rw [Nat.add_mod ((y + (n - k % n)) % n) k n, Nat.mod_mod, ← Nat.add_mod (y + (n - k % n)) k n, Nat.add_mod (y + (n - k % n)) k n, Nat.add_mod (y + (n - k % n)) (k % n) n, Nat.mod_mod]
  rw [h1]
  have h2 : y + (n - k % n) + k % n = y + n := by omega
  rw [h2, Nat.add_mod_right, Nat.mod_eq_of_lt hy]
/-- A row of numbers in a slice of its own. -/
def GoodR (w : World) (lo Z : Nat) (row : List Int) (v : Value) : Prop := ∃ B cap, v = .slice B (Z + 1) cap ∧ row.length = Z + 1 ∧ Rv w lo B cap row
theorem GoodR.kept {w w' : World} {lo Z : Nat} {row : List Int} {v : Value} (h : GoodR w lo Z row v) (hb : Below w.heap.size w w') : GoodR w' lo Z row v := by
  obtain ⟨B, cap, e, e2, h⟩ := h
  exact ⟨B, cap, e, e2, h.below hb⟩
theorem GoodR.far {w : World} {lo Z b : Nat} {row : List Int} {v : Value} {cs : List Value} (h : GoodR w lo Z row v) (hl : Lies w b 60 cs) (i : Nat) (u : Value) : GoodR (w.setCell ⟨b, i, none⟩ u) lo Z row v := by
  obtain ⟨B, cap, e, e2, h⟩ := h
  refine ⟨B, cap, e, e2, h.kept fun k cs' hk hl2 => ?_⟩
  have hne : k ≠ b := hl2.apart hl (by decide)
  exact hl2.far (p := ⟨b, i, none⟩) hne _
theorem rv_lies {w : World} {q : Nat} {row : List Int} (h : Lies w q 3 (row.map (Value.int .i64))) (lo : Nat) (hq : lo ≤ q) : Rv w lo (some ⟨q, 0, none⟩) row.length row := by
  refine Or.inr ⟨q, _, rfl, hq, h, by simp, Nat.le_refl _, fun i hi => ?_⟩
  rw [List.getElem?_map, List.getElem?_eq_getElem hi]
  simp [List.getD, hi]
/-- What was there first is there in a world between. -/
theorem below_first2 {w w0 w' : World} (h : Below w.heap.size w w') (k : Below w0.heap.size w0 w') (hs : w.heap.size ≤ w0.heap.size) : Below w.heap.size w w0 :=
  ⟨by rw [← k.os, h.os], by rw [← k.tape, h.tape], by rw [← k.output, h.output], hs, fun i hi => by rw [← k.block i (Nat.lt_of_lt_of_le hi hs), h.block i hi]⟩
set_option maxRecDepth 1000000 in
set_option maxHeartbeats 4000000 in
theorem same_far (A0 B0 : Option Addr) (n cN m cR : Nat) (x0 x1 x2 x3 : Int) (ds : List Nd) (w : World) (hd : CameN w A0 n ds) (hm : m ≤ maxLen) (h : fewB ds m = false) :
    Calls Try.prog 4 #[.agg #[.slice A0 n cN, .slice B0 m cR], .agg #[.int .u8 x0, .int .u8 x1, .int .u8 x2, .int .u8 x3]] w fun e w' => e = .returned (.bool true) ∧ Below w.heap.size w w' := by
  have HD := Lib.hid hd
  have b0 : Below w.heap.size w ((w.alloc (.cells #[.slice A0 n cN, .slice B0 m cR] 25)).alloc (.cells #[.int .u8 x0, .int .u8 x1, .int .u8 x2, .int .u8 x3] 57)) := ((Below.refl _ w).alloc (Nat.le_refl _) _).alloc (by simp) _
  have LX : Lies ((w.alloc (.cells #[.slice A0 n cN, .slice B0 m cR] 25)).alloc (.cells #[.int .u8 x0, .int .u8 x1, .int .u8 x2, .int .u8 x3] 57)) w.heap.size 25 [.slice A0 n cN, .slice B0 m cR] := (Lies.new w 25 [_, _]).alloc _
  have LY : Lies ((w.alloc (.cells #[.slice A0 n cN, .slice B0 m cR] 25)).alloc (.cells #[.int .u8 x0, .int .u8 x1, .int .u8 x2, .int .u8 x3] 57)) (w.heap.size + 1) 57 [.int .u8 x0, .int .u8 x1, .int .u8 x2, .int .u8 x3] := by
    have := Lies.new (w.alloc (.cells #[.slice A0 n cN, .slice B0 m cR] 25)) 57 [.int .u8 x0, .int .u8 x1, .int .u8 x2, .int .u8 x3]
    rw [World.size_alloc] at this; exact this
  obtain ⟨w1, hw1⟩ : ∃ w1, (w.alloc (.cells #[.slice A0 n cN, .slice B0 m cR] 25)).alloc (.cells #[.int .u8 x0, .int .u8 x1, .int .u8 x2, .int .u8 x3] 57) = w1 := ⟨_, rfl⟩
  rw [hw1] at b0 LX LY
  have HW1 := Lib.hid hw1
  have HB1 := Lib.hid b0
  have HLX := Lib.hid LX
  have HLY := Lib.hid LY
  clear b0 LX LY hw1
  clear hd
  unfold maxLen at hm
  go_enter Try.func4, Try.ntmps4
  go_upto_region 1 with fail
  rw [HW1.out]
  go_wp2_with fail
  refine (awake_any _).mono ?_
  rintro e w2 ⟨rfl, hb2⟩
  have L2 := HLX.out.kept hb2
  have y0 : w2.cell? ⟨w.heap.size, 0, none⟩ = some (.slice A0 n cN) := L2.cell 0
  have y1 : w2.cell? ⟨w.heap.size, 1, none⟩ = some (.slice B0 m cR) := L2.cell 1
  have HB2 := Lib.hid (on HB1.out HB1.out.size hb2)
  clear hb2 L2
  go_wp2_with fail
  refine (few_any A0 B0 n cN m cR ds ⟨HD.out.1, HD.out.2.1.kept HB2.out, HD.out.2.2⟩ (by unfold maxLen; exact hm)).mono ?_
  rintro e w3 ⟨rfl, hb3⟩
  rw [h]
  have HB3 := Lib.hid (on HB2.out HB2.out.size hb3)
  clear hb3 y0 y1 h
  go_wp2_with fail
  refine (awake_any _).mono ?_
  rintro e w4 ⟨rfl, hb4⟩
  have HB4 := Lib.hid (on HB3.out HB3.out.size hb4)
  clear hb4
  go_wp2
  go_ret
  exact ⟨rfl, HB4.out⟩

set_option maxRecDepth 1000000 in
set_option maxHeartbeats 4000000 in
theorem same_near (A0 B0 : Option Addr) (n cN m cR : Nat) (x0 x1 x2 x3 : Int) (ds : List Nd) (rs : List Int) (w : World) (hd : CameN w A0 n ds) (hr : Mk.Came .u8 w B0 m rs) (hf : fewB ds m = true) (hx0 : 0 ≤ x0 ∧ x0 ≤ 255) (hx1 : 0 ≤ x1 ∧ x1 ≤ 255) (hx2 : 0 ≤ x2 ∧ x2 ≤ 255) (hx3 : 0 ≤ x3 ∧ x3 ≤ 255) :
    Calls Try.prog 4 #[.agg #[.slice A0 n cN, .slice B0 m cR], .agg #[.int .u8 x0, .int .u8 x1, .int .u8 x2, .int .u8 x3]] w fun e w' => e = .returned (.bool true) ∧ Below w.heap.size w w' := by
  have HD := Lib.hid hd
  have HR := Lib.hid hr
  have HF := Lib.hid hf
  have hfew := hf
  unfold fewB at hfew
  simp only [Bool.and_eq_true, List.all_eq_true, decide_eq_true_eq] at hfew
  obtain ⟨he, hn14, hm14⟩ := hfew
  rw [hd.1] at hn14
  have HE := Lib.hid he
  have HX0 := Lib.hid hx0
  have HX1 := Lib.hid hx1
  have HX2 := Lib.hid hx2
  have HX3 := Lib.hid hx3
  have HZs := Lib.hid (size_small he n 3 (by rw [hd.1]; exact hn14))
  have b0 : Below w.heap.size w ((w.alloc (.cells #[.slice A0 n cN, .slice B0 m cR] 25)).alloc (.cells #[.int .u8 x0, .int .u8 x1, .int .u8 x2, .int .u8 x3] 57)) := ((Below.refl _ w).alloc (Nat.le_refl _) _).alloc (by simp) _
  have LX : Lies ((w.alloc (.cells #[.slice A0 n cN, .slice B0 m cR] 25)).alloc (.cells #[.int .u8 x0, .int .u8 x1, .int .u8 x2, .int .u8 x3] 57)) w.heap.size 25 [.slice A0 n cN, .slice B0 m cR] := (Lies.new w 25 [_, _]).alloc _
  have LY : Lies ((w.alloc (.cells #[.slice A0 n cN, .slice B0 m cR] 25)).alloc (.cells #[.int .u8 x0, .int .u8 x1, .int .u8 x2, .int .u8 x3] 57)) (w.heap.size + 1) 57 [.int .u8 x0, .int .u8 x1, .int .u8 x2, .int .u8 x3] := by
    have := Lies.new (w.alloc (.cells #[.slice A0 n cN, .slice B0 m cR] 25)) 57 [.int .u8 x0, .int .u8 x1, .int .u8 x2, .int .u8 x3]
    rw [World.size_alloc] at this; exact this
  obtain ⟨w1, hw1⟩ : ∃ w1, (w.alloc (.cells #[.slice A0 n cN, .slice B0 m cR] 25)).alloc (.cells #[.int .u8 x0, .int .u8 x1, .int .u8 x2, .int .u8 x3] 57) = w1 := ⟨_, rfl⟩
  rw [hw1] at b0 LX LY
  have HW1 := Lib.hid hw1
  have HB1 := Lib.hid b0
  have HLX := Lib.hid LX
  have HLY := Lib.hid LY
  clear b0 LX LY hw1
  clear hd hr hf he hx0 hx1 hx2 hx3
  go_enter Try.func4, Try.ntmps4
  go_upto_region 1 with fail
  rw [HW1.out]
  go_wp2_with fail
  refine (awake_any _).mono ?_
  rintro e w2 ⟨rfl, hb2⟩
  have L2 := HLX.out.kept hb2
  have y0 : w2.cell? ⟨w.heap.size, 0, none⟩ = some (.slice A0 n cN) := L2.cell 0
  have y1 : w2.cell? ⟨w.heap.size, 1, none⟩ = some (.slice B0 m cR) := L2.cell 1
  have HL2 := Lib.hid L2
  have HB2 := Lib.hid (on HB1.out HB1.out.size hb2)
  have HY2 := Lib.hid (HLY.out.kept hb2)
  clear hb2 L2
  go_wp2_with fail
  refine (few_any A0 B0 n cN m cR ds ⟨HD.out.1, HD.out.2.1.kept HB2.out, HD.out.2.2⟩ (by unfold maxLen; omega)).mono ?_
  rintro e w3 ⟨rfl, hb3⟩
  rw [HF.out]
  have L3 := HL2.out.kept hb3
  have y2 : w3.cell? ⟨w.heap.size, 0, none⟩ = some (.slice A0 n cN) := L3.cell 0
  have y3 : w3.cell? ⟨w.heap.size, 1, none⟩ = some (.slice B0 m cR) := L3.cell 1
  have HB3 := Lib.hid (on HB2.out HB2.out.size hb3)
  have HY3 := Lib.hid (HY2.out.kept hb3)
  clear hb3 y0 y1
  go_wp2_with fail
  refine (reached_any A0 B0 n cN m cR ds rs ⟨HD.out.1, HD.out.2.1.kept HB3.out, HD.out.2.2⟩ ⟨HR.out.1, HR.out.2.1.kept HB3.out, HR.out.2.2⟩ hn14 hm14 HE.out).mono ?_
  rintro e w4 ⟨g, gw, gb, base, obs, tail, A, n', c, xs, B, cap, rts, mg, mw, ws, q, st, rfl, R4⟩
  obtain ⟨Z, hZ⟩ : ∃ Z, sizeG ds 3 n = Z := ⟨_, rfl⟩
  have hZs := HZs.out
  rw [hZ] at R4 hZs ⊢
  have HZ1 : 1 ≤ Z := by rw [← hZ]; unfold sizeG; omega
  clear hZ y2 y3
  have bX := below_one w4 (.cells #[.int .i64 (Z : Int), .slice A n' c] 33)
  have HR5 := Lib.hid (R4.kept bX)
  have HB5 := Lib.hid (on (on HB3.out HB3.out.size R4.bt.old) (on HB3.out HB3.out.size R4.bt.old).size bX)
  have HY5 := Lib.hid ((HY3.out.kept R4.bt.old).kept bX)
  obtain ⟨w5, hw5⟩ : ∃ w5, w4.alloc (.cells #[.int .i64 (Z : Int), .slice A n' c] 33) = w5 := ⟨_, rfl⟩
  rw [hw5] at HR5 HB5 HY5
  have HW5 := Lib.hid hw5
  clear R4 bX hw5
  go_upto_region 4 with fail
  rw [HW5.out]
  have bY := below_one w5 (.cells #[.slice none 0 0, .slice none 0 0] 60)
  have HB6 := Lib.hid bY
  have HL6 := Lib.hid (show Lies (w5.alloc (.cells #[.slice none 0 0, .slice none 0 0] 60)) w5.heap.size 60 [.slice none 0 0, .slice none 0 0] from Lies.new w5 60 [_, _])
  obtain ⟨w6, hw6⟩ : ∃ w6, w5.alloc (.cells #[.slice none 0 0, .slice none 0 0] 60) = w6 := ⟨_, rfl⟩
  rw [hw6] at HB6 HL6
  have HW6 := Lib.hid hw6
  obtain ⟨bl, hbl⟩ : ∃ bl, w5.heap.size = bl := ⟨_, rfl⟩
  rw [hbl] at HL6
  have HBL := Lib.hid hbl
  clear bY hw6 hbl
  go_upto_region 5 with fail
  rw [HW6.out, HBL.out]
  obtain ⟨f, hf⟩ : ∃ f, Mk.bit ws = f := ⟨_, rfl⟩
  have HFM := Lib.hid hf
  obtain ⟨top, htop⟩ : ∃ top, (flat obs).length = top := ⟨_, rfl⟩
  have HTOP := Lib.hid htop
  obtain ⟨T, hT⟩ : ∃ T, (flat (newF f obs)).length = T := ⟨_, rfl⟩
  have HTL := Lib.hid hT
  obtain ⟨NL, hNL⟩ : ∃ NL, flat (newF f obs) ++ List.replicate (top - T) 0 ++ tail = NL := ⟨_, rfl⟩
  have HNLE := Lib.hid hNL
  obtain ⟨P, hP⟩ : ∃ P, 10 * (Z + 10) * (Z + 10) = P := ⟨_, rfl⟩
  have HP := Lib.hid hP
  have e1 : IntKind.i64.wrap ((Z : Int) + 10) = (Z : Int) + 10 := IntWalk.i64_in _ (by omega)
  have e2 : IntKind.i64.wrap (10 * ((Z : Int) + 10)) = 10 * ((Z : Int) + 10) := IntWalk.i64_in _ (by omega)
  have hPI : 10 * ((Z : Int) + 10) * ((Z : Int) + 10) = (P : Int) := by rw [← hP]; simp
  have hPb : P ≤ 600000 := by
    have h1 : (Z + 10) * (Z + 10) ≤ 241 * 241 := Nat.mul_le_mul (by omega) (by omega)
    rw [← hP, Nat.mul_assoc]; omega
  have e3 : IntKind.i64.wrap (10 * ((Z : Int) + 10) * ((Z : Int) + 10)) = (P : Int) := by rw [hPI]; exact IntWalk.i64_in _ (by omega)
  have HZS := Lib.hid hZs
  clear hf htop hT hNL hP hPI hZs
  go_wp2_with fail
  go_loopw [36] (fun i wr => ∃ (i2 : Nat) (v0 v1 : Value), i2 ≤ 2 ∧ i = .int .i64 (i2 : Nat) ∧ Lies wr bl 60 [v0, v1] ∧ (1 ≤ i2 → GoodR wr bl Z (NL ++ [(T : Int)]) v0) ∧ (2 ≤ i2 → GoodR wr bl Z (NL ++ [(T : Int)]) v1) ∧ Below bl w5 wr) (fun i _ => 2 - (intOf i).toNat)
  case atStart => exact ⟨0, _, _, by omega, rfl, HL6.out, fun h => absurd h (by omega), fun h => absurd h (by omega), by have := HB6.out; rw [HBL.out] at this; exact this⟩
  case round =>
    obtain ⟨i2, v0, v1, hi2, rfl, hLr, hg0, hg1, hbr⟩ := hrel
    obtain ⟨wN, rfl⟩ : ∃ wN, wN = wr := ⟨_, rfl⟩
    have HLr := Lib.hid hLr
    have HG0 := Lib.hid hg0
    have HG1 := Lib.hid hg1
    have HBR := Lib.hid (show Below w5.heap.size w5 wN by rw [HBL.out]; exact hbr)
    have HRr := Lib.hid (HR5.out.kept HBR.out)
    have HYr := Lib.hid (HY5.out.kept HBR.out)
    have HBLr := Lib.hid (show bl < wN.heap.size from hLr.lt)
    clear hLr hg0 hg1 hbr
    by_cases h2 : i2 < 2
    · obtain ⟨xa, xb, hxa, hxb, ca, cb⟩ : ∃ xa xb : Int, (0 ≤ xa ∧ xa ≤ 255) ∧ (0 ≤ xb ∧ xb ≤ 255) ∧ wN.cell? ⟨w.heap.size + 1, 2 * i2, none⟩ = some (.int .u8 xa) ∧ wN.cell? ⟨w.heap.size + 1, 2 * i2 + 1, none⟩ = some (.int .u8 xb) := by
        have L := HYr.out
        rcases (by omega : i2 = 0 ∨ i2 = 1) with rfl | rfl
        · exact ⟨x0, x1, HX0.out, HX1.out, L.cell 0, L.cell 1⟩
        · exact ⟨x2, x3, HX2.out, HX3.out, L.cell 2, L.cell 3⟩
      obtain ⟨ia, hia⟩ : ∃ ia : Nat, 2 * i2 = ia := ⟨_, rfl⟩
      obtain ⟨ib, hib⟩ : ∃ ib : Nat, 2 * i2 + 1 = ib := ⟨_, rfl⟩
      rw [hia] at ca
      rw [hib] at cb
      have ea : IntKind.i64.wrap (2 * (i2 : Int)) = (ia : Int) := by rw [IntWalk.i64_in _ (by omega)]; omega
      have eb : IntKind.i64.wrap ((ia : Int) + 1) = (ib : Int) := by rw [IntWalk.i64_in _ (by omega)]; omega
      have ja0 : (0 : Int) ≤ (ia : Int) := by omega
      have ja1 : (ia : Int) < 4 := by omega
      have jb0 : (0 : Int) ≤ (ib : Int) := by omega
      have jb1 : (ib : Int) < 4 := by omega
      have da : (⟨w.heap.size + 1, 0, none⟩ : Addr).add ia = ⟨w.heap.size + 1, ia, none⟩ := add_at _ _
      have db : (⟨w.heap.size + 1, 0, none⟩ : Addr).add ib = ⟨w.heap.size + 1, ib, none⟩ := add_at _ _
      have hxa0 := hxa.1
      have hxa1 := hxa.2
      have hxb0 := hxb.1
      have hxb1 := hxb.2
      have hma0 : 0 ≤ xa % 9 := by omega
      have hma1 : xa % 9 < 9 := by omega
      have HII := Lib.hid (And.intro hia hib)
      clear hia hib hxa hxb
      go_upto_region 9 with fail
      obtain ⟨z9, hz9⟩ : ∃ z9 : Nat, xa % 9 = (z9 : Int) := ⟨(xa % 9).toNat, by omega⟩
      have hz9b : z9 < 9 := by omega
      rw [hz9]
      have enw : (1 : Int) + (z9 : Int) = ((1 + z9 : Nat) : Int) := by omega
      rw [enw]
      obtain ⟨nw, hnw⟩ : ∃ nw, 1 + z9 = nw := ⟨_, rfl⟩
      rw [hnw]
      have hnw1 : 1 ≤ nw := by omega
      have hnw2 : nw ≤ 9 := by omega
      clear hz9 enw hnw hz9b hma0 hma1 hxa0 hxa1 ca ja0 ja1 da
      have HIN : Hid (∀ o ∈ obs, ∀ z ∈ o.2, InR z) := Lib.hid fun o ho => (HRr.out.bt.clean o ho).1
      obtain ⟨W, hW⟩ : ∃ W, wOf xb = W := ⟨_, rfl⟩
      obtain ⟨K, hK⟩ : ∃ K, K = (top + W - 1) / W := ⟨_, rfl⟩
      have hlenZ := HRr.out.bt.len
      have hzs := HZS.out
      have HN := Lib.hid (snew_any HRr.out.bt.st HRr.out.map xb nw W K top hW HTOP.out hK (by unfold InR; omega) hnw1 (by omega) HIN.out (by omega))
      clear hW hK hlenZ
      go_wp2_with fail
      refine HN.out.mono ?_
      rintro e w11 ⟨-, hyes, hb11⟩
      obtain ⟨w0, C, rfl, hSl, hCn, hCW, hCK, hCtop, hCf, hCo, hs⟩ := hyes HRr.out.right
      have hL : C.L = adr 0 obs := by unfold Cx.L; rw [hCo]
      have HB0 := Lib.hid (below_first2 hb11 hSl.old hs)
      have hSl2 : Sl w0 w11 C (Ms.new (flat obs ++ tail) (sgL C.f C.W C.K C.L C.L) C.top) := by rw [hCf, hCW, hCK, hL, hCtop]; exact hSl
      have hlenZ := HRr.out.bt.len
      have hrun := run_begin HRr.out.bt.st hCo hSl2 (by rw [hCf, hL]; exact HRr.out.right) HIN.out (by omega)
      have HS0 := Lib.hid hs
      have HCN := Lib.hid hCn
      have HCO := Lib.hid hCo
      have hphi0 : Phi C (Pm.init C (fun p => (flat obs ++ tail).getD p 0) C.aw0) ≤ P := by
        have := phi_init hrun.cok (by omega) C.aw0 (aw0_le hrun.cok)
        rw [hlenZ, HP.out] at this; exact this
      obtain ⟨Q0, hQ0⟩ : ∃ Q0, Pm.init C (fun p => (flat obs ++ tail).getD p 0) C.aw0 = Q0 := ⟨_, rfl⟩
      rw [hQ0] at hphi0 hrun
      have HRUN := Lib.hid hrun
      have HNEW : Hid (C.new = newF f obs) := Lib.hid (new_eq hCo (hCf.trans HFM.out))
      have HPHI0 := Lib.hid hphi0
      clear hyes hb11 hSl hCn hCW hCK hCtop hCf hCo hs hL hSl2 hlenZ hrun hphi0 hQ0 HN cb jb0 jb1 db ea eb hxb0 hxb1
      go_wp2_with fail
      go_loopw [15] (fun i wr => ∃ (k : Nat) (Q : Pm) (t : Int), k ≤ P ∧ i = .int .i64 (k : Nat) ∧ Run C (flat obs ++ tail).length (fun p => (flat obs ++ tail).getD p 0) w0 wr t Q ∧ (Q.left = 0 ∨ Phi C Q + k ≤ P)) (fun i _ => P - (intOf i).toNat)
      case atStart => exact ⟨0, Q0, 0, Nat.zero_le _, rfl, HRUN.out, .inr (by have := HPHI0.out; omega)⟩
      case round =>
        obtain ⟨k, Q, t, hk, rfl, hR, hphi⟩ := hrel
        have HR1 := Lib.hid hR
        have HPH := Lib.hid hphi
        have HBq : Hid (Below wN.heap.size wN wr) := Lib.hid (HB0.out.trans (hR.old.mono HS0.out))
        have HSZ := Lib.hid (size_z (HRr.out.kept HBq.out).bt.st Z HRr.out.bt.len)
        have HO := Lib.hid (run_over hR)
        by_cases hl : Q.left = 0
        · have dO : decide (Q.left = 0) = true := by simp [hl]
          rw [dO] at HO
          have HTT : Hid (C.T = T ∧ C.top = top ∧ NL.length = Z) := Lib.hid (by
            have h1 := new_len hR.cok
            have h2 := hR.cok.top_
            rw [HNEW.out, HTL.out] at h1
            rw [HCO.out, HTOP.out] at h2
            have h3 : C.T ≤ C.top := by have := hR.cok.fi_top C.K; rw [hR.cok.sum]; exact this
            refine ⟨h1.symm, h2.symm, ?_⟩
            have h4 := HRr.out.bt.len
            have h5 := HTL.out
            have h6 := HTOP.out
            rw [List.length_append] at h4
            rw [← HNLE.out, List.length_append, List.length_append, List.length_replicate]
            omega)
          have HHY := Lib.hid (sheap_yes HCO.out HRr.out.bt.st.fine hR hl)
          clear hl dO hR hphi
          rcases Nat.lt_or_ge k P with hkP | hkP
          · have dk : decide ((k : Int) < (P : Int)) = true := by simp; omega
            go_wp2_with fail
            refine HSZ.out.mono ?_
            rintro e wx ⟨rfl, hwx⟩
            rw [hwx]; clear hwx wx
            go_wp2_with fail
            refine HSZ.out.mono ?_
            rintro e wx ⟨rfl, hwx⟩
            rw [hwx]; clear hwx wx
            go_wp2_with fail
            refine HO.out.mono ?_
            rintro e wx ⟨rfl, hwx⟩
            rw [← hwx]; clear hwx wx
            go_upto_region 20 with fail
            clear dk hkP
            go_wp2_with fail
            refine HHY.out.mono ?_
            rintro e w13 ⟨g', gw', gb', rfl, hb13, hH⟩
            rw [HNEW.out, HTT.out.1, HTT.out.2.1, HNLE.out] at hH
            obtain ⟨bs, hH2⟩ : ∃ bs, HeapAt w13 g' gw' gb' NL T bs := ⟨_, hH⟩
            have HH := Lib.hid hH2
            have HB13 := Lib.hid (on HBq.out HBq.out.size hb13)
            clear hb13 hH hH2
            have HWD := Lib.hid (words_any HH.out)
            rw [HTT.out.2.2] at HWD
            obtain ⟨l1, hl1⟩ : ∃ l1, w13.heap.size = l1 := ⟨_, rfl⟩
            rw [hl1] at HWD
            have HL1 := Lib.hid hl1
            clear hl1
            go_wp2_with fail
            refine HWD.out.mono ?_
            rintro e w14 ⟨rfl, hL14, hb14⟩
            have HB14 := Lib.hid (show Below w13.heap.size w13 w14 by rw [HL1.out]; exact hb14)
            have HRV14 : Hid (Rv w14 l1 (some ⟨l1, 0, none⟩) Z NL) := Lib.hid (by have := rv_lies hL14 l1 (Nat.le_refl _); rw [HTT.out.2.2] at this; exact this)
            have HLT : Hid (l1 ≤ w14.heap.size) := Lib.hid (by have := HB14.out.size; rw [HL1.out] at this; exact this)
            have HTA := Lib.hid (top_any (HH.out.kept HB14.out))
            clear hL14 hb14
            go_wp2_with fail
            refine HTA.out.mono ?_
            rintro e wx ⟨rfl, hwx⟩
            rw [← hwx]; clear hwx wx
            obtain ⟨vv, hvv⟩ : ∃ vv, [v0, v1][i2]? = some vv := ⟨_, List.getElem?_eq_getElem (by simpa using h2)⟩
            have cc : (w14.alloc (.cells #[.int .i64 (T : Int)] 3)).cell? ⟨w14.heap.size, 0, none⟩ = some (.int .i64 (T : Int)) := (Lies.new w14 3 [.int .i64 (T : Int)]).cell 0
            have HRV15 := Lib.hid (HRV14.out.below (below_one w14 (.cells #[.int .i64 (T : Int)] 3)))
            have HB15 := Lib.hid (on HB14.out HB14.out.size (below_one w14 (.cells #[.int .i64 (T : Int)] 3)))
            have HNL1 : Hid (NL.length ≤ 100000) := Lib.hid (by have h3 := HTT.out.2.2; have h4 := HZS.out; omega)
            have di : (⟨bl, 0, none⟩ : Addr).add i2 = ⟨bl, i2, none⟩ := add_at _ _
            have ji0 : (0 : Int) ≤ (i2 : Int) := by omega
            have ji1 : (i2 : Int) < 2 := by omega
            have HVV := Lib.hid hvv
            clear hvv
            go_wp2_with (at_builtin; (have RV7 := HRV15.out); refine wpList_append_rv (row := NL) rfl (.tmp 103) (.tmp 106) rfl (by rw [HTT.out.2.2]; rfl) RV7 (Nat.le_trans HLT.out (below_one w14 (.cells #[.int .i64 (T : Int)] 3)).size) HNL1.out ⟨w14.heap.size, 0, none⟩ (T : Int) rfl cc ?_; intro B7 cap7 w7 R7 G7 M7; have HR7 := Lib.hid R7; have HB7 : Hid (Below w13.heap.size w13 w7) := Lib.hid (HB15.out.grown G7 HB15.out.size (fun k e => by rw [HL1.out]; exact (HRV15.out.blk_lt e).1)); rw [HTT.out.2.2]; have HL7 := Lib.hid ((HLr.out.kept HB13.out).kept HB7.out); have c7 := (HL7.out.cell i2).trans HVV.out; have f7 := HL7.out.frozen i2; have t7 := HL7.out.lt; clear R7 G7 M7 cc RV7)
            have HGV : Hid (GoodR (w7.setCell ⟨bl, i2, none⟩ (.slice B7 (Z + 1) cap7)) bl Z (NL ++ [(T : Int)]) (.slice B7 (Z + 1) cap7)) := Lib.hid (GoodR.far ⟨B7, cap7, rfl, by simp [HTT.out.2.2], HR7.out.wider (by have h3 := HBLr.out; have h4 := HB13.out.size; have h5 := HL1.out; omega)⟩ HL7.out i2 _)
            have HBE : Hid (Below bl w5 (w7.setCell ⟨bl, i2, none⟩ (.slice B7 (Z + 1) cap7))) := Lib.hid (by
              have h3 := on HBR.out HBR.out.size (on HB13.out HB13.out.size HB7.out)
              rw [HBL.out] at h3
              exact h3.setCell (p := ⟨bl, i2, none⟩) (Nat.le_refl _) _)
            rcases (by omega : i2 = 0 ∨ i2 = 1) with rfl | rfl
            · exact ⟨⟨1, _, v1, by omega, by go_num, HL7.out.set 0 _, fun _ => HGV.out, fun h => absurd h (by omega), HBE.out⟩, by simp [intOf]⟩
            · exact ⟨⟨2, v0, _, by omega, by go_num, HL7.out.set 1 _, fun _ => GoodR.far ((((HG0.out (by omega)).kept HB13.out)).kept HB7.out) HL7.out 1 _, fun _ => HGV.out, HBE.out⟩, by simp [intOf]⟩
          · have dk : decide ((k : Int) < (P : Int)) = false := by simp; omega
            go_wp2_with fail
            refine HSZ.out.mono ?_
            rintro e wx ⟨rfl, hwx⟩
            rw [hwx]; clear hwx wx
            go_wp2_with fail
            refine HSZ.out.mono ?_
            rintro e wx ⟨rfl, hwx⟩
            rw [hwx]; clear hwx wx
            go_upto_region 20 with fail
            clear dk hkP
            go_wp2_with fail
            refine HHY.out.mono ?_
            rintro e w13 ⟨g', gw', gb', rfl, hb13, hH⟩
            rw [HNEW.out, HTT.out.1, HTT.out.2.1, HNLE.out] at hH
            obtain ⟨bs, hH2⟩ : ∃ bs, HeapAt w13 g' gw' gb' NL T bs := ⟨_, hH⟩
            have HH := Lib.hid hH2
            have HB13 := Lib.hid (on HBq.out HBq.out.size hb13)
            clear hb13 hH hH2
            have HWD := Lib.hid (words_any HH.out)
            rw [HTT.out.2.2] at HWD
            obtain ⟨l1, hl1⟩ : ∃ l1, w13.heap.size = l1 := ⟨_, rfl⟩
            rw [hl1] at HWD
            have HL1 := Lib.hid hl1
            clear hl1
            go_wp2_with fail
            refine HWD.out.mono ?_
            rintro e w14 ⟨rfl, hL14, hb14⟩
            have HB14 := Lib.hid (show Below w13.heap.size w13 w14 by rw [HL1.out]; exact hb14)
            have HRV14 : Hid (Rv w14 l1 (some ⟨l1, 0, none⟩) Z NL) := Lib.hid (by have := rv_lies hL14 l1 (Nat.le_refl _); rw [HTT.out.2.2] at this; exact this)
            have HLT : Hid (l1 ≤ w14.heap.size) := Lib.hid (by have := HB14.out.size; rw [HL1.out] at this; exact this)
            have HTA := Lib.hid (top_any (HH.out.kept HB14.out))
            clear hL14 hb14
            go_wp2_with fail
            refine HTA.out.mono ?_
            rintro e wx ⟨rfl, hwx⟩
            rw [← hwx]; clear hwx wx
            obtain ⟨vv, hvv⟩ : ∃ vv, [v0, v1][i2]? = some vv := ⟨_, List.getElem?_eq_getElem (by simpa using h2)⟩
            have cc : (w14.alloc (.cells #[.int .i64 (T : Int)] 3)).cell? ⟨w14.heap.size, 0, none⟩ = some (.int .i64 (T : Int)) := (Lies.new w14 3 [.int .i64 (T : Int)]).cell 0
            have HRV15 := Lib.hid (HRV14.out.below (below_one w14 (.cells #[.int .i64 (T : Int)] 3)))
            have HB15 := Lib.hid (on HB14.out HB14.out.size (below_one w14 (.cells #[.int .i64 (T : Int)] 3)))
            have HNL1 : Hid (NL.length ≤ 100000) := Lib.hid (by have h3 := HTT.out.2.2; have h4 := HZS.out; omega)
            have di : (⟨bl, 0, none⟩ : Addr).add i2 = ⟨bl, i2, none⟩ := add_at _ _
            have ji0 : (0 : Int) ≤ (i2 : Int) := by omega
            have ji1 : (i2 : Int) < 2 := by omega
            have HVV := Lib.hid hvv
            clear hvv
            go_wp2_with (at_builtin; (have RV7 := HRV15.out); refine wpList_append_rv (row := NL) rfl (.tmp 103) (.tmp 106) rfl (by rw [HTT.out.2.2]; rfl) RV7 (Nat.le_trans HLT.out (below_one w14 (.cells #[.int .i64 (T : Int)] 3)).size) HNL1.out ⟨w14.heap.size, 0, none⟩ (T : Int) rfl cc ?_; intro B7 cap7 w7 R7 G7 M7; have HR7 := Lib.hid R7; have HB7 : Hid (Below w13.heap.size w13 w7) := Lib.hid (HB15.out.grown G7 HB15.out.size (fun k e => by rw [HL1.out]; exact (HRV15.out.blk_lt e).1)); rw [HTT.out.2.2]; have HL7 := Lib.hid ((HLr.out.kept HB13.out).kept HB7.out); have c7 := (HL7.out.cell i2).trans HVV.out; have f7 := HL7.out.frozen i2; have t7 := HL7.out.lt; clear R7 G7 M7 cc RV7)
            have HGV : Hid (GoodR (w7.setCell ⟨bl, i2, none⟩ (.slice B7 (Z + 1) cap7)) bl Z (NL ++ [(T : Int)]) (.slice B7 (Z + 1) cap7)) := Lib.hid (GoodR.far ⟨B7, cap7, rfl, by simp [HTT.out.2.2], HR7.out.wider (by have h3 := HBLr.out; have h4 := HB13.out.size; have h5 := HL1.out; omega)⟩ HL7.out i2 _)
            have HBE : Hid (Below bl w5 (w7.setCell ⟨bl, i2, none⟩ (.slice B7 (Z + 1) cap7))) := Lib.hid (by
              have h3 := on HBR.out HBR.out.size (on HB13.out HB13.out.size HB7.out)
              rw [HBL.out] at h3
              exact h3.setCell (p := ⟨bl, i2, none⟩) (Nat.le_refl _) _)
            rcases (by omega : i2 = 0 ∨ i2 = 1) with rfl | rfl
            · exact ⟨⟨1, _, v1, by omega, by go_num, HL7.out.set 0 _, fun _ => HGV.out, fun h => absurd h (by omega), HBE.out⟩, by simp [intOf]⟩
            · exact ⟨⟨2, v0, _, by omega, by go_num, HL7.out.set 1 _, fun _ => GoodR.far ((((HG0.out (by omega)).kept HB13.out)).kept HB7.out) HL7.out 1 _, fun _ => HGV.out, HBE.out⟩, by simp [intOf]⟩
        · have HNLF := Lib.hid hl
          have hkP : k < P := by
            have := phi_pos hR hl
            rcases hphi with h | h
            · exact absurd h hl
            · omega
          have dO : decide (Q.left = 0) = false := by simp [hl]
          rw [dO] at HO
          have dk : decide ((k : Int) < (P : Int)) = true := by simp; omega
          clear hl dO hR hphi
          go_wp2_with fail
          refine HSZ.out.mono ?_
          rintro e wx ⟨rfl, hwx⟩
          rw [hwx]; clear hwx wx
          go_wp2_with fail
          refine HSZ.out.mono ?_
          rintro e wx ⟨rfl, hwx⟩
          rw [hwx]; clear hwx wx
          go_wp2_with fail
          refine HO.out.mono ?_
          rintro e wx ⟨rfl, hwx⟩
          rw [← hwx]; clear hwx wx dk
          go_wp2_with fail
          go_loopw [83] (fun i wr => ∃ (j : Nat) (Q' : Pm) (t' : Int), j ≤ nw ∧ i = .int .i64 (j : Nat) ∧ Run C (flat obs ++ tail).length (fun p => (flat obs ++ tail).getD p 0) w0 wr t' Q' ∧ InRnd C Q Q' (fun y => ∃ x, x < j ∧ (x + k) % nw = y)) (fun i _ => nw - (intOf i).toNat)
          case atStart => exact ⟨0, Q, t, Nat.zero_le _, rfl, HR1.out, (within_start Q).mono fun j ⟨x, h, _⟩ => absurd h (Nat.not_lt_zero _)⟩
          case round =>
            obtain ⟨j, Q', t', hj, rfl, hR', hrnd⟩ := hrel
            have HR2 := Lib.hid hR'
            have HRND := Lib.hid hrnd
            by_cases hjn : j < nw
            · obtain ⟨who, hwho⟩ : ∃ who, (j + k) % nw = who := ⟨_, rfl⟩
              have hwn : who < nw := by rw [← hwho]; exact Nat.mod_lt _ (by omega)
              obtain ⟨jk, hjk⟩ : ∃ jk, j + k = jk := ⟨_, rfl⟩
              have hjkb : jk ≤ 700000 := by omega
              have b1 : IntKind.i64.wrap ((j : Int) + (k : Int)) = (jk : Int) := by rw [IntWalk.i64_in _ (by omega)]; omega
              have b2 : Int.tmod (jk : Int) (nw : Int) = (who : Int) := by rw [← hwho, hjk]; rfl
              have b4 : ((jk : Int) % (nw : Int)) = (who : Int) := by rw [← hwho, hjk]; rfl
              have b3 : ((nw : Int) == 0) = false := by simp; omega
              have HWHO := Lib.hid hwho
              have HST := Lib.hid (run_step hR' (show who < C.n by rw [HCN.out]; exact hwn))
              clear hR' hrnd hwho hjk
              go_wp2_with fail
              refine HST.out.mono ?_
              rintro e w12 ⟨rfl, t2, hR2, -, -⟩
              have HR3 := Lib.hid hR2
              clear hR2 HST
              generalize (if Q'.left = 0 then (12 : Int) else 0) = res at *
              go_wp2_with fail
              refine ⟨⟨j + 1, stepO C Q' who, t2, by omega, by go_num, HR3.out, (within_step HR2.out.inv (show who < C.n by rw [HCN.out]; exact hwn) HRND.out).mono fun y hy => ?_⟩, by simp [intOf]; omega⟩
              obtain ⟨x, h1, h2⟩ := hy
              rcases Nat.lt_or_ge x j with h3 | h3
              · exact .inl ⟨x, h3, h2⟩
              · have : x = j := by omega
                subst this
                exact .inr (h2.symm.trans HWHO.out)
            · obtain rfl : j = nw := by omega
              clear hR' hrnd
              go_wp2_with fail
              refine ⟨⟨k + 1, Q', t', by omega, by go_num, HR2.out, ?_⟩, by simp [intOf]; omega⟩
              rcases within_end HR2.out.cok HR1.out.inv HRND.out (fun x hx => by rw [HCN.out] at hx; exact rot hx) with h | h
              · exact .inl h
              · refine .inr ?_
                rcases HPH.out with h2 | h2
                · exact absurd h2 HNLF.out
                · omega
    · obtain rfl : i2 = 2 := by omega
      obtain ⟨B0', cap0, rfl, hlen0, hr0⟩ := HG0.out (by omega)
      obtain ⟨B1', cap1, rfl, hlen1, hr1⟩ := HG1.out (by omega)
      obtain ⟨q0, cs0, rfl, -, hq0, -, -, hz0⟩ := hr0.some_ (by omega)
      obtain ⟨q1, cs1, rfl, -, hq1, -, -, hz1⟩ := hr1.some_ (by omega)
      have HQ0 := Lib.hid hq0
      have HQ1 := Lib.hid hq1
      obtain ⟨row, hrow⟩ : ∃ row, NL ++ [(T : Int)] = row := ⟨_, rfl⟩
      rw [hrow] at hz0 hz1 hlen0
      have HC0 := Lib.hid hz0
      have HC1 := Lib.hid hz1
      have HRL := Lib.hid hlen0
      have HLw := Lib.hid HLr.out
      obtain ⟨N1, hN1⟩ : ∃ N1, Z + 1 = N1 := ⟨_, rfl⟩
      rw [hN1] at HLw HRL
      have hN1b : N1 ≤ 100000 := by have h3 := HZS.out; omega
      have c0 : wN.cell? ⟨bl, 0, none⟩ = some (.slice (some ⟨q0, 0, none⟩) N1 cap0) := HLw.out.cell 0
      have c1 : wN.cell? ⟨bl, 1, none⟩ = some (.slice (some ⟨q1, 0, none⟩) N1 cap1) := HLw.out.cell 1
      have HWO := Lib.hid (on (on HB5.out HB5.out.size HBR.out) (on HB5.out HB5.out.size HBR.out).size (Below.refl _ wN))
      clear hr0 hr1 hq0 hq1 hz0 hz1 hlen0 hlen1 hN1 hrow HG0 HG1
      go_wp2_with fail
      go_loopw [113] (fun i wr => ∃ j : Nat, j ≤ N1 ∧ i = .int .i64 (j : Nat) ∧ Below wN.heap.size wN wr) (fun i _ => N1 - (intOf i).toNat)
      case atStart => exact ⟨0, Nat.zero_le _, rfl, Below.refl _ _⟩
      case round =>
        obtain ⟨j, hj, rfl, hbq⟩ := hrel
        have HBq := Lib.hid hbq
        have d0 : wr.cell? ⟨bl, 0, none⟩ = some (.slice (some ⟨q0, 0, none⟩) N1 cap0) := (HLw.out.kept hbq).cell 0
        have d1 : wr.cell? ⟨bl, 1, none⟩ = some (.slice (some ⟨q1, 0, none⟩) N1 cap1) := (HLw.out.kept hbq).cell 1
        clear c0 c1
        by_cases hjN : j < N1
        · obtain ⟨y, hy⟩ : ∃ y, row.getD j 0 = y := ⟨_, rfl⟩
          have k0 : wr.cell? ⟨q0, j, none⟩ = some (.int .i64 y) := by
            rw [(HQ0.out.kept hbq).cell, HC0.out j (by rw [HRL.out]; exact hjN), hy]
          have k1 : wr.cell? ⟨q1, j, none⟩ = some (.int .i64 y) := by
            rw [(HQ1.out.kept hbq).cell, HC1.out j (by rw [HRL.out]; exact hjN), hy]
          have a0 : (⟨q0, 0, none⟩ : Addr).add j = ⟨q0, j, none⟩ := add_at _ _
          have a1 : (⟨q1, 0, none⟩ : Addr).add j = ⟨q1, j, none⟩ := add_at _ _
          have j0 : (0 : Int) ≤ (j : Int) := by omega
          have j1 : (j : Int) < (N1 : Int) := by omega
          have dy : (y != y) = false := by simp
          clear hbq hy
          go_upto_region 28 with fail
          go_quiet (fail)
          have HBn := Lib.hid (on HBq.out HBq.out.size (Mk.below_drewN wr nq))
          go_wp2_with fail
          exact ⟨⟨j + 1, by omega, by go_num, HBn.out⟩, by simp [intOf]; omega⟩
        · obtain rfl : j = N1 := by omega
          have dj : (j == j) = true := by simp
          clear hbq
          go_wp2_with fail
          go_ret
          exact ⟨rfl, on HWO.out HWO.out.size HBq.out⟩
end Go.Proofs.Ytklhdilbmpndkaa

namespace Go.Proofs.Ytklhdilbmpndkaa
set_option maxRecDepth 20000
open Go.ChangeShapes Go.WideShapes Go.ChangeAt Go.RowKit Go.Joins Go.Deep
theorem same_walk (A0 B0 : Option Addr) (n cN m cR : Nat) (x0 x1 x2 x3 : Int) (ds : List Nd) (rs : List Int) (w : World) (hN : CameN w A0 n ds) (hR : Mk.Came .u8 w B0 m rs) (hm : m ≤ maxLen) (hx : (0 ≤ x0 ∧ x0 ≤ 255) ∧ (0 ≤ x1 ∧ x1 ≤ 255) ∧ (0 ≤ x2 ∧ x2 ≤ 255) ∧ (0 ≤ x3 ∧ x3 ≤ 255)) :
    Calls Try.prog 4 #[.agg #[.slice A0 n cN, .slice B0 m cR], .agg #[.int .u8 x0, .int .u8 x1, .int .u8 x2, .int .u8 x3]] w fun e w' => e = .returned (.bool true) ∧ Below w.heap.size w w' := by
  cases hf : fewB ds m with
  | false => exact same_far A0 B0 n cN m cR x0 x1 x2 x3 ds w hN hm hf
  | true => exact same_near A0 B0 n cN m cR x0 x1 x2 x3 ds rs w hN hR hf hx.1 hx.2.1 hx.2.2.1 hx.2.2.2
end Go.Proofs.Ytklhdilbmpndkaa
