/- MarksAlls. -/
import Derived.Test.YtiomiaciaefbaaaDoorFlags
namespace Go.Proofs.YtiomiaciaefbaaaDoor
open Go.RowKit
set_option linter.unusedVariables false
set_option linter.unusedSimpArgs false

theorem cnt_set (f : Nat → Bool) (p : Nat) : ∀ n, cnt (fun q => decide (q = p) || f q) n = if p < n then cnt f n + (!f p).toNat else cnt f n
  | 0 => rfl
  | n + 1 => by
    rw [cnt_succ, cnt_set f p n, cnt_succ]
    by_cases h : p < n
    · rw [if_pos h, if_pos (by omega)]
      have : ¬ n = p := by omega
      simp [this]; omega
    · rw [if_neg h]
      by_cases h2 : n = p
      · subst h2
        rw [if_pos (by omega)]
        cases f n <;> simp
      · rw [if_neg (by omega)]
        simp [h2]
theorem span_set (ws : List Nat) (p n : Nat) (hp : p / 64 < ws.length) (hn : p < n) : span (bit (setW ws p)) 0 n = span (bit ws) 0 n + (!bit ws p).toNat := by
  rw [span_zero, span_zero]
  have : cnt (bit (setW ws p)) n = cnt (fun q => decide (q = p) || bit ws q) n := cnt_congr n fun i _ => bit_set ws p i hp
  rw [this, cnt_set, if_pos hn]
theorem span_new (m n : Nat) : span (bit (List.replicate m 0)) 0 n = 0 := by
  rw [span_zero]; exact cnt_none n fun i _ => bit_new m i
theorem bit_same (ws : List Nat) (p : Nat) (hp : p / 64 < ws.length) : bit (setW ws p) p = true := by rw [bit_set ws p p hp]; simp


theorem At.low' {w w' : World} {g gw n B : Nat} {ws : List Nat} (h : At w g gw n ws) (hb : Below B w w') (h1 : g < B) (h2 : gw < B) : At w' g gw n ws := h.of_blocks (hb.block g h1) (hb.block gw h2)
theorem sets_count (ws : List Nat) (n : Nat) : (sets ws 0 n).length = span (bit ws) 0 n := by
  rw [span_zero]
  induction n with
  | zero => rw [sets_self]; rfl
  | succ n ih =>
    rw [sets_step ws 0 n (by omega), cnt_succ, List.length_append, ih]
    cases bit ws n <;> simp
/-- The last one of a row of places, or -1. -/
def lastOf (pre : List Nat) : Int := match pre.getLast? with | none => -1 | some x => (x : Int)
theorem lastOf_add (pre : List Nat) (p : Nat) : lastOf (pre ++ [p]) = (p : Int) := by simp [lastOf]
theorem sets_rise (ws : List Nat) (a b : Nat) : (sets ws a b).Pairwise (· < ·) := (List.pairwise_lt_range' (s := a) (n := b - a)).filter _
theorem last_lt (ws : List Nat) (a b : Nat) (pre : List Nat) (p : Nat) (h : pre ++ [p] <+: sets ws a b) : -1 ≤ lastOf pre ∧ lastOf pre < (p : Int) := by
  have h1 := (sets_rise ws a b).sublist h.sublist
  rw [List.pairwise_append] at h1
  unfold lastOf
  cases hg : pre.getLast? with
  | none => simp; omega
  | some x =>
    have := h1.2.2 x (List.mem_of_getLast? hg) p (by simp)
    simp; omega
theorem pre_in (ws : List Nat) (a b : Nat) (pre : List Nat) (p : Nat) (h : pre ++ [p] <+: sets ws a b) : (a ≤ p ∧ p < b) ∧ bit ws p = true :=
  (sets_mem ws a b p).1 (h.subset (by simp))

set_option maxRecDepth 100000 in
set_option maxHeartbeats 1000000 in
theorem alls_far (s m : Int) (A : Option Addr) (c l : Nat) (w : World) (hs : 0 ≤ s ∧ s ≤ 255) (hl : 100 < l ∨ s = 0) : Calls Tryd.prog 4 #[.int .u8 s, .slice A l c, .int .u8 m] w fun e w' => e = .returned (.bool true) ∧ Below w.heap.size w w' := by
  obtain ⟨s0, s1⟩ := hs
  by_cases h1 : 100 < l
  · have d1 : decide ((100 : Int) < (l : Int)) = true := by simp; omega
    go_enter Tryd.func4, Tryd.ntmps4
    go_wp2_with fail
    refine (awake_any _).mono ?_
    rintro e w1 ⟨rfl, B1⟩
    go_wp2_with fail
    refine (awake_any _).mono ?_
    rintro e w2 ⟨rfl, B2⟩
    have HB := Lib.hid (on (on (on (below_one w (.cells #[.int .u8 s] 5)) (by simp) (below_one _ (.cells #[.int .u8 m] 5))) (by simp; omega) B1) (by have := B1.size; simp at this; omega) B2)
    clear B1 B2
    go_wp2
    go_ret
    exact ⟨rfl, HB.out⟩
  · have d1 : decide ((100 : Int) < (l : Int)) = false := by simp; omega
    obtain rfl : s = 0 := by omega
    go_enter Tryd.func4, Tryd.ntmps4
    go_wp2_with fail
    refine (awake_any _).mono ?_
    rintro e w1 ⟨rfl, B1⟩
    have x3 : w1.cell? ⟨w.heap.size, 0, none⟩ = some (.int .u8 0) := (((Lies.new w 5 [.int .u8 0]).alloc (.cells #[.int .u8 m] 5)).kept B1).cell 0
    go_wp2_with fail
    refine (awake_any _).mono ?_
    rintro e w2 ⟨rfl, B2⟩
    have HB := Lib.hid (on (on (on (below_one w (.cells #[.int .u8 0] 5)) (by simp) (below_one _ (.cells #[.int .u8 m] 5))) (by simp; omega) B1) (by have := B1.size; simp at this; omega) B2)
    clear B1 B2 x3
    go_wp2
    go_ret
    exact ⟨rfl, HB.out⟩

theorem enterA1 (args : Array Value) (W : World) : (callFunc 14 args).run Tryd.prog W = .ok (.enter 14 args) W := by
  simp [callFunc, go_sem, Tryd.func14]
  kernel_rfl

set_option maxRecDepth 100000 in
set_option maxHeartbeats 1000000 in
theorem alls1_any (W : World) (bn bok bl bs ib bmo gi n m i p : Nat) (la : Int) (la0 : -1 ≤ la) (hla : la < (p : Int)) (hpn : p < n) (hn : n ≤ 255) (hm : m ≤ 255) (hi : i ≤ 255) (b : Bool) (hb : decide (i + 1 < m) = b)
    (ln : Lies W bn 3 [.int .i64 (i : Nat)]) (lo : Lies W bok 4 [.bool true]) (ll : Lies W bl 3 [.int .i64 la]) (ls : Lies W bs 5 [.int .u8 (n : Nat)]) (li : Lies W ib 30 [.slice (some ⟨gi, 0, none⟩) n n]) (lm : Lies W bmo 5 [.int .u8 (m : Nat)])
    (hf : W.cell? ⟨gi, p, none⟩ = some (.bool true)) (d1 : bn ≠ bl) (d2 : gi ≠ bn) :
    Calls Tryd.prog 14 #[.int .i64 (p : Nat), .pointer (some ⟨bn, 0, none⟩), .pointer (some ⟨bok, 0, none⟩), .pointer (some ⟨bl, 0, none⟩), .pointer (some ⟨bs, 0, none⟩), .pointer (some ⟨ib, 0, none⟩), .pointer (some ⟨bmo, 0, none⟩)] W fun e W' =>
      e = .returned (.bool b) ∧ W' = ((W.setCell ⟨bn, 0, none⟩ (.int .i64 ((i + 1 : Nat) : Int))).setCell ⟨bok, 0, none⟩ (.bool true)).setCell ⟨bl, 0, none⟩ (.int .i64 (p : Nat)) := by
  have x1 : W.cell? ⟨bn, 0, none⟩ = some (.int .i64 (i : Nat)) := ln.cell 0
  have x2 : W.cell? ⟨bok, 0, none⟩ = some (.bool true) := lo.cell 0
  have x3 : W.cell? ⟨bl, 0, none⟩ = some (.int .i64 la) := ll.cell 0
  have x4 : W.cell? ⟨bs, 0, none⟩ = some (.int .u8 (n : Nat)) := ls.cell 0
  have x5 : W.cell? ⟨ib, 0, none⟩ = some (.slice (some ⟨gi, 0, none⟩) n n) := li.cell 0
  have x6 : W.cell? ⟨bmo, 0, none⟩ = some (.int .u8 (m : Nat)) := lm.cell 0
  have f1 := ln.frozen 0
  have f2 := lo.frozen 0
  have f3 := ll.frozen 0
  have e1 : bn ≠ bok := ln.apart lo (by decide)
  have e2 : bn ≠ bs := ln.apart ls (by decide)
  have e3 : bn ≠ ib := ln.apart li (by decide)
  have e4 : bn ≠ bmo := ln.apart lm (by decide)
  have e5 : bok ≠ bl := lo.apart ll (by decide)
  have e6 : bok ≠ bmo := lo.apart lm (by decide)
  have e7 : bl ≠ bmo := ll.apart lm (by decide)
  clear ln lo ll ls li lm
  have j1 : (p : Int) < (n : Int) := by omega
  subst hb
  go_enter Tryd.func14, Tryd.ntmps14
  go_wp2
  go_ret
  exact ⟨ret_bool (decide_eq_decide.2 (by omega)), by simp⟩

theorem next_none {w : World} {g gw n : Nat} {ws : List Nat} (H : At w g gw n ws) (T : Tab w) (z : Int) (a : Nat) (hz : z = a) (ha : a ≤ n) (hL : sets ws a n = []) :
    Calls Tryd.prog 12 #[.pointer (some ⟨g, 0, none⟩), .int .i64 z] w fun e w' => e = .returned (.tuple #[.int .i64 0, .int .i64 13]) ∧ Below w.heap.size w w' :=
  next_yes H T z a hz ha [] ((sets_all H a ha).trans hL)
theorem count_int {w : World} {g gw n : Nat} {ws : List Nat} (h : At w g gw n ws) (x y : Int) (a b r : Nat) (hx : x = a) (hy : y = b) (hab : a ≤ b) (hb : b ≤ n) (hr : span (bit ws) a b = r) :
    Calls Tryd.prog 11 #[.pointer (some ⟨g, 0, none⟩), .int .i64 x, .int .i64 y] w fun e w' => e = .returned (.tuple #[.int .i64 r, .int .i64 0]) ∧ w = w' := by
  subst hx hy hr
  exact count_yes h a b hab hb

theorem ends_cases (k m N : Nat) (h : (N = k ∧ k < max m 1) ∨ (N = max m 1 ∧ N ≤ k)) :
    (k = 0 ∧ N = 0 ∧ m = 0) ∨ (k = 0 ∧ N = 0 ∧ m = 1) ∨ (k = 0 ∧ N = 0 ∧ 1 < m) ∨ (m = 0 ∧ k = 1 ∧ N = 1) ∨ (m = 0 ∧ 1 < k ∧ N = 1) ∨ (m = 1 ∧ k = 1 ∧ N = 1) ∨ (m = 1 ∧ 1 < k ∧ N = 1) ∨ (1 < m ∧ 0 < k ∧ k < m ∧ N = k) ∨ (1 < m ∧ k = m ∧ N = m) ∨ (1 < m ∧ m < k ∧ N = m) := by
  by_cases hk : k = 0
  · have hN : N = 0 := by omega
    by_cases m0 : m = 0
    · exact Or.inl ⟨hk, hN, m0⟩
    by_cases m1 : m = 1
    · exact Or.inr (Or.inl ⟨hk, hN, m1⟩)
    · exact Or.inr (Or.inr (Or.inl ⟨hk, hN, by omega⟩))
  refine Or.inr (Or.inr (Or.inr ?_))
  by_cases m0 : m = 0
  · have hN : N = 1 := by omega
    by_cases k1 : k = 1
    · exact Or.inl ⟨m0, k1, hN⟩
    · exact Or.inr (Or.inl ⟨m0, by omega, hN⟩)
  refine Or.inr (Or.inr ?_)
  by_cases m1 : m = 1
  · have hN : N = 1 := by omega
    by_cases k1 : k = 1
    · exact Or.inl ⟨m1, k1, hN⟩
    · exact Or.inr (Or.inl ⟨m1, by omega, hN⟩)
  refine Or.inr (Or.inr ?_)
  by_cases h1 : k < m
  · exact Or.inl ⟨by omega, by omega, h1, by omega⟩
  by_cases h2 : k = m
  · exact Or.inr (Or.inl ⟨by omega, h2, by omega⟩)
  · exact Or.inr (Or.inr ⟨by omega, by omega, by omega⟩)

/-- What stands while places are set. -/
structure Al (w wr : World) (g gw gi ib n m : Nat) (ws : List Nat) : Prop where
  map : At wr g gw n ws
  flg : Lies wr gi 4 (flags ws n)
  ibx : Lies wr ib 30 [.slice (some ⟨gi, 0, none⟩) n n]
  sbx : Lies wr w.heap.size 5 [.int .u8 (n : Nat)]
  mbx : Lies wr (w.heap.size + 1) 5 [.int .u8 (m : Nat)]
  old : Below w.heap.size w wr

/-- While the iterator goes through the places. -/
structure Gone (W0 : World) (g no bl bn bok bm bf : Nat) (pre : List Nat) (W : World) : Prop where
  low : Below no W0 W
  last : Lies W bl 3 [.int .i64 (lastOf pre)]
  n : Lies W bn 3 [.int .i64 (pre.length : Nat)]
  ok : Lies W bok 4 [.bool true]
  mb : Lies W bm 25 [.pointer (some ⟨g, 0, none⟩)]
  fb : Lies W bf 3 [.int .i64 ((0 : Nat) : Int)]

set_option maxRecDepth 100000 in
set_option maxHeartbeats 4000000 in
theorem alls_near (n m : Nat) (A : Option Addr) (c : Nat) (zs : List Int) (w : World) (T : Tab w) (h1 : 1 ≤ n) (h2 : n ≤ 255) (h3 : m ≤ 255) (hl : zs.length ≤ 100) (hr : Row .u8 w A zs) (hz : ∀ z ∈ zs, 0 ≤ z ∧ z ≤ 255) :
    Calls Tryd.prog 4 #[.int .u8 (n : Int), .slice A zs.length c, .int .u8 (m : Int)] w fun e w' => e = .returned (.bool true) ∧ Below w.heap.size w w' := by
  have d1 : decide ((100 : Int) < (zs.length : Int)) = false := by simp; omega
  have d2 : ((n : Int) == 0) = false := by simp; omega
  have hmk := makeB .u8 n h2
  have HT := Lib.hid T
  have HR := Lib.hid hr
  have HZ := Lib.hid hz
  clear hr hz T
  go_enter Tryd.func4, Tryd.ntmps4
  go_wp2_with fail
  refine (awake_any _).mono ?_
  rintro e w1 ⟨rfl, B1⟩
  have HX1 := Lib.hid (((Lies.new w 5 [.int .u8 (n : Nat)]).alloc (.cells #[.int .u8 (m : Nat)] 5)).kept B1)
  have HY1 : Hid (Lies w1 (w.heap.size + 1) 5 [.int .u8 (m : Nat)]) := Lib.hid (by
    have := (Lies.new (w.alloc (.cells #[.int .u8 (n : Nat)] 5)) 5 [.int .u8 (m : Nat)]).kept B1
    rw [World.size_alloc] at this; exact this)
  have HBe1 := Lib.hid (on (on (below_one w (.cells #[.int .u8 (n : Nat)] 5)) (by simp) (below_one _ (.cells #[.int .u8 (m : Nat)] 5))) (by simp; omega) B1)
  clear B1
  have q0 := HX1.out.lt
  have q0' := HY1.out.lt
  have x3 : w1.cell? ⟨w.heap.size, 0, none⟩ = some (.int .u8 (n : Nat)) := HX1.out.cell 0
  go_wp2_with fail
  refine (new_yes _ n rfl w1 (by omega) (by omega)).mono ?_
  rintro e w2 ⟨g, gw, rfl, B2, q1, q2, H2⟩
  have HX2 := Lib.hid (HX1.out.kept B2)
  have HY2 := Lib.hid (HY1.out.kept B2)
  have B3 := Lib.hid (on HBe1.out HBe1.out.size B2)
  have HH3 := Lib.hid H2
  have q5 := HX2.out.lt
  have q5' := HY2.out.lt
  have q6 := HH3.out.own.lt
  have q7 := HH3.out.words.lt
  clear B2 H2 HBe1 HX1 HY1 x3
  have x3 : w2.cell? ⟨w.heap.size, 0, none⟩ = some (.int .u8 (n : Nat)) := HX2.out.cell 0
  obtain ⟨X, hX⟩ : ∃ X : Obj, X = .cells (List.replicate n (Value.bool false)).toArray 4 := ⟨_, rfl⟩
  have HP : Hid (Al w ((w2.alloc X).alloc (.cells #[.slice (some ⟨w2.heap.size, 0, none⟩) n n] 30)) g gw w2.heap.size (w2.heap.size + 1) n m (List.replicate ((n + 63) / 64) 0)) := Lib.hid (by
    refine ⟨(HH3.out.alloc _).alloc _, ?_, ?_, (HX2.out.alloc _).alloc _, (HY2.out.alloc _).alloc _, on (on B3.out B3.out.size (below_one _ _)) (by have := B3.out.size; simp; omega) (below_one _ _)⟩
    · rw [hX, flags_new]; exact (Lies.new w2 4 _).alloc _
    · have := Lies.new (w2.alloc X) 30 [.slice (some ⟨w2.heap.size, 0, none⟩) n n]
      rw [World.size_alloc] at this; exact this)
  rw [← hX] at hmk
  clear hX HH3 HX2 HY2 B3
  go_wp2
  obtain ⟨gi, hgi⟩ : ∃ gi, w2.heap.size = gi := ⟨_, rfl⟩
  rw [hgi] at HP q5 q5' q6 q7 ⊢
  obtain ⟨W3, hW3⟩ : ∃ W3, (w2.alloc X).alloc (.cells #[.slice (some ⟨gi, 0, none⟩) n n] 30) = W3 := ⟨_, rfl⟩
  rw [hW3] at HP ⊢
  clear hmk hgi hW3 x3
  go_loopw [10, 49] (fun cc i wr => ∃ (j k : Nat) (ws : List Nat), j ≤ zs.length ∧ i = .int .i64 j ∧ cc = .int .i64 k ∧ k ≤ n ∧ span (bit ws) 0 n = k ∧ Al w wr g gw gi (gi + 1) n m ws) (fun _ i _ => zs.length - (intOf i).toNat)
  case atStart => exact ⟨0, 0, _, Nat.zero_le _, rfl, rfl, Nat.zero_le _, span_new _ _, HP.out⟩
  case round =>
    obtain ⟨j, k, ws, hj, rfl, rfl, hkn, hsp, H⟩ := hrel
    have HSp := Lib.hid hsp
    have HH := Lib.hid H
    have x3 : wr.cell? ⟨w.heap.size, 0, none⟩ = some (.int .u8 (n : Nat)) := H.sbx.cell 0
    have x9 : wr.cell? ⟨gi + 1, 0, none⟩ = some (.slice (some ⟨gi, 0, none⟩) n n) := H.ibx.cell 0
    clear H HP hsp
    by_cases hjl : j < zs.length
    · obtain ⟨ad, rfl, c0⟩ := (HR.out.kept HH.out.old).at_ hjl
      have hb := HZ.out zs[j] (List.getElem_mem hjl)
      generalize zs[j] = z at c0 hb
      obtain ⟨hb0, hb1⟩ := hb
      obtain ⟨p, hzp, hpn⟩ := rem_place z n hb0 h1
      obtain ⟨b, hbit⟩ : ∃ b, bit ws p = b := ⟨_, rfl⟩
      have HPL := Lib.hid (HH.out.map.place hpn)
      have f0 : wr.cell? ⟨gi, p, none⟩ = some (.bool b) := by rw [HH.out.flg.cell p, flags_at ws n p hpn, hbit]
      have f1 := HH.out.flg.frozen p
      have hss := span_set ws p n HPL.out hpn
      rw [HSp.out, hbit] at hss
      have hle := span_le (bit (setW ws p)) 0 n
      have HSs := Lib.hid hss
      have HM : Hid (At (wr.setCell ⟨gi, p, none⟩ (.bool true)) g gw n ws) := Lib.hid (HH.out.map.of_blocks (Below.heap_setCell _ _ _ _ (by simp; omega)) (Below.heap_setCell _ _ _ _ (by simp; omega)))
      have HF : Hid (Lies (wr.setCell ⟨gi, p, none⟩ (.bool true)) gi 4 (flags (setW ws p) n)) := Lib.hid (by
        have := HH.out.flg.set p (.bool true)
        rw [flags_set ws n p HPL.out] at this
        exact this)
      clear hss hbit
      cases b with
      | false =>
        have hk1 : span (bit (setW ws p)) 0 n = k + 1 := HSs.out
        rw [hk1] at hle
        have HK1 := Lib.hid hk1
        clear hk1
        go_wp2_with fail
        refine (set_yes HM.out p hpn).mono ?_
        rintro e w5 ⟨rfl, H5, E5⟩
        have HP5 : Hid (Al w w5 g gw gi (gi + 1) n m (setW ws p)) := Lib.hid ⟨H5, E5.lies HF.out (by omega) (by omega), E5.lies (HH.out.ibx.far (by simp) _) (by omega) (by omega), E5.lies (HH.out.sbx.far (by simp; omega) _) (by omega) (by omega), E5.lies (HH.out.mbx.far (by simp; omega) _) (by omega) (by omega), (HH.out.old.setCell (by simp; omega) _).trans (HM.out.low E5 (by omega) (by omega))⟩
        clear H5 E5 HM HF HH c0 x3 x9 f0
        go_wp2
        exact ⟨⟨j + 1, k + 1, _, by omega, by go_num, by go_num, by omega, HK1.out, HP5.out⟩, by simp [intOf]; omega⟩
      | true =>
        have hk1 : span (bit (setW ws p)) 0 n = k := HSs.out
        have HK1 := Lib.hid hk1
        clear hk1
        go_wp2_with fail
        refine (set_yes HM.out p hpn).mono ?_
        rintro e w5 ⟨rfl, H5, E5⟩
        have HP5 : Hid (Al w w5 g gw gi (gi + 1) n m (setW ws p)) := Lib.hid ⟨H5, E5.lies HF.out (by omega) (by omega), E5.lies (HH.out.ibx.far (by simp) _) (by omega) (by omega), E5.lies (HH.out.sbx.far (by simp; omega) _) (by omega) (by omega), E5.lies (HH.out.mbx.far (by simp; omega) _) (by omega) (by omega), (HH.out.old.setCell (by simp; omega) _).trans (HM.out.low E5 (by omega) (by omega))⟩
        clear H5 E5 HM HF HH c0 x3 x9 f0
        go_wp2
        exact ⟨⟨j + 1, k, _, by omega, by go_num, rfl, by omega, HK1.out, HP5.out⟩, by simp [intOf]; omega⟩
    · have hj' : j = zs.length := by omega
      subst hj'
      go_wp2_with fail
      refine (all_any (wr.heap.size + 1 + 1 + 1) (by simp)).mono ?_
      rintro e w6 ⟨rfl, rfl⟩
      obtain ⟨S, hS⟩ : ∃ S, wr.heap.size = S := ⟨_, rfl⟩
      have a1 := HH.out.map.own.lt
      have a2 := HH.out.map.words.lt
      have a3 := HH.out.ibx.lt
      have a4 := HH.out.flg.lt
      have a5 := HH.out.mbx.lt
      have hls : sets ws 0 (64 * ws.length) = sets ws 0 n := sets_all HH.out.map 0 (by omega)
      have hlk : (sets ws 0 n).length = k := (sets_count ws n).trans HSp.out
      have hJ0 : Gone wr g wr.heap.size wr.heap.size (wr.heap.size + 1) (wr.heap.size + 1 + 1) (wr.heap.size + 1 + 1 + 1) (wr.heap.size + 1 + 1 + 1 + 1) [] (((((wr.alloc (.cells #[.int .i64 (-1)] 3)).alloc (.cells #[.int .i64 0] 3)).alloc (.cells #[.bool true] 4)).alloc (.cells #[.pointer (some ⟨g, 0, none⟩)] 25)).alloc (.cells #[.int .i64 ((0 : Nat) : Int)] 3)) := by
        refine ⟨(((((Below.refl _ wr).alloc (Nat.le_refl _) _).alloc (by simp) _).alloc (by simp; omega) _).alloc (by simp; omega) _).alloc (by simp; omega) _, ?_, ?_, ?_, ?_, ?_⟩
        · exact ((((Lies.new wr 3 [.int .i64 (-1)]).alloc _).alloc _).alloc _).alloc _
        · have := (((Lies.new (wr.alloc (.cells #[.int .i64 (-1)] 3)) 3 [.int .i64 0]).alloc (.cells #[.bool true] 4)).alloc (.cells #[.pointer (some ⟨g, 0, none⟩)] 25)).alloc (.cells #[.int .i64 ((0 : Nat) : Int)] 3)
          rw [World.size_alloc] at this; exact this
        · have := ((Lies.new ((wr.alloc (.cells #[.int .i64 (-1)] 3)).alloc (.cells #[.int .i64 0] 3)) 4 [.bool true]).alloc (.cells #[.pointer (some ⟨g, 0, none⟩)] 25)).alloc (.cells #[.int .i64 ((0 : Nat) : Int)] 3)
          rw [World.size_alloc, World.size_alloc] at this; exact this
        · have := (Lies.new (((wr.alloc (.cells #[.int .i64 (-1)] 3)).alloc (.cells #[.int .i64 0] 3)).alloc (.cells #[.bool true] 4)) 25 [.pointer (some ⟨g, 0, none⟩)]).alloc (.cells #[.int .i64 ((0 : Nat) : Int)] 3)
          rw [World.size_alloc, World.size_alloc, World.size_alloc] at this; exact this
        · have := Lies.new ((((wr.alloc (.cells #[.int .i64 (-1)] 3)).alloc (.cells #[.int .i64 0] 3)).alloc (.cells #[.bool true] 4)).alloc (.cells #[.pointer (some ⟨g, 0, none⟩)] 25)) 3 [.int .i64 ((0 : Nat) : Int)]
          rw [World.size_alloc, World.size_alloc, World.size_alloc, World.size_alloc] at this; exact this
      have HTr := Lib.hid (HT.out.kept HH.out.old)
      have HJ0 := Lib.hid hJ0
      have HLs := Lib.hid hls
      have HLk := Lib.hid hlk
      clear hJ0 hls hlk x3 x9
      obtain ⟨W6, hW6⟩ : ∃ W6, ((((wr.alloc (.cells #[.int .i64 (-1)] 3)).alloc (.cells #[.int .i64 0] 3)).alloc (.cells #[.bool true] 4)).alloc (.cells #[.pointer (some ⟨g, 0, none⟩)] 25)).alloc (.cells #[.int .i64 ((0 : Nat) : Int)] 3) = W6 := ⟨_, rfl⟩
      rw [hW6] at HJ0 ⊢
      rw [hS] at HJ0 a1 a2 a3 a4 a5 ⊢
      have HS := Lib.hid hS
      clear hW6 hS
      go_wp2_with fail
      refine (from1 14 #[.pointer (some ⟨S + 1, 0, none⟩), .pointer (some ⟨S + 1 + 1, 0, none⟩), .pointer (some ⟨S, 0, none⟩), .pointer (some ⟨w.heap.size, 0, none⟩), .pointer (some ⟨gi + 1, 0, none⟩), .pointer (some ⟨w.heap.size + 1, 0, none⟩)] g gw n (S + 1 + 1 + 1 + 1) (S + 1 + 1 + 1) 0 ws (sets ws 0 n) HLs.out (by omega)
        (fun pre W => Gone wr g S S (S + 1) (S + 1 + 1) (S + 1 + 1 + 1) (S + 1 + 1 + 1 + 1) pre W ∧ pre.length < max m 1) (fun pre W => Gone wr g S S (S + 1) (S + 1 + 1) (S + 1 + 1 + 1) (S + 1 + 1 + 1 + 1) pre W ∧ pre.length = max m 1)
        (fun pre W hJ => ⟨HH.out.map.low' hJ.1.low a1 a2, hJ.1.mb, hJ.1.fb, HTr.out.below hJ.1.low (by omega)⟩) (fun pre p W hpre hJ => ?_) enterA1 W6 ⟨HJ0.out, by simp; omega⟩).mono ?_
      · obtain ⟨hG, hlen⟩ := hJ
        obtain ⟨la0, la1⟩ := last_lt ws 0 n pre p hpre
        obtain ⟨⟨_, hpn⟩, hbit⟩ := pre_in ws 0 n pre p hpre
        have hlen2 := hpre.length_le
        rw [HLk.out] at hlen2
        simp at hlen2
        have hf : W.cell? ⟨gi, p, none⟩ = some (.bool true) := (hG.low.cell (p := ⟨gi, p, none⟩) a4).trans (by rw [HH.out.flg.cell p, flags_at ws n p hpn, hbit])
        refine (alls1_any W (S + 1) (S + 1 + 1) S w.heap.size (gi + 1) (w.heap.size + 1) gi n m pre.length p (lastOf pre) la0 la1 hpn h2 h3 (by omega) (decide (pre.length + 1 < m)) rfl hG.n hG.ok hG.last (HH.out.sbx.below hG.low (by omega)) (HH.out.ibx.below hG.low a3) (HH.out.mbx.below hG.low a5) hf (by omega) (by omega)).mono ?_
        rintro e W' ⟨rfl, rfl⟩
        have hG2 : Gone wr g S S (S + 1) (S + 1 + 1) (S + 1 + 1 + 1) (S + 1 + 1 + 1 + 1) (pre ++ [p]) (((W.setCell ⟨S + 1, 0, none⟩ (.int .i64 ((pre.length + 1 : Nat) : Int))).setCell ⟨S + 1 + 1, 0, none⟩ (.bool true)).setCell ⟨S, 0, none⟩ (.int .i64 (p : Nat))) := by
          refine ⟨((hG.low.setCell (p := ⟨S + 1, 0, none⟩) (by simp) _).setCell (p := ⟨S + 1 + 1, 0, none⟩) (by simp; omega) _).setCell (p := ⟨S, 0, none⟩) (by simp) _, ?_, ?_, ?_, ?_, ?_⟩
          · rw [lastOf_add]
            exact ((hG.last.far (p := ⟨S + 1, 0, none⟩) (by simp) _).far (p := ⟨S + 1 + 1, 0, none⟩) (by simp; omega) _).set 0 _
          · rw [List.length_append]
            exact ((hG.n.set 0 _).far (p := ⟨S + 1 + 1, 0, none⟩) (by simp) _).far (p := ⟨S, 0, none⟩) (by simp) _
          · exact ((hG.ok.far (p := ⟨S + 1, 0, none⟩) (by simp) _).set 0 _).far (p := ⟨S, 0, none⟩) (by simp; omega) _
          · exact ((hG.mb.far (p := ⟨S + 1, 0, none⟩) (by simp; omega) _).far (p := ⟨S + 1 + 1, 0, none⟩) (by simp) _).far (p := ⟨S, 0, none⟩) (by simp; omega) _
          · exact ((hG.fb.far (p := ⟨S + 1, 0, none⟩) (by simp; omega) _).far (p := ⟨S + 1 + 1, 0, none⟩) (by simp; omega) _).far (p := ⟨S, 0, none⟩) (by simp; omega) _
        by_cases hlt : pre.length + 1 < m
        · exact Or.inl ⟨by rw [decide_eq_true hlt], hG2, by simp; omega⟩
        · exact Or.inr ⟨by rw [decide_eq_false hlt], hG2, by simp; omega⟩
      · rintro e w7 ⟨rfl, hJ7⟩
        have hfin : ∃ (N : Nat) (pre : List Nat), pre.length = N ∧ Gone wr g S S (S + 1) (S + 1 + 1) (S + 1 + 1 + 1) (S + 1 + 1 + 1 + 1) pre w7 ∧ ((N = k ∧ k < max m 1) ∨ (N = max m 1 ∧ N ≤ k)) := by
          rcases hJ7 with ⟨hG, hlt⟩ | ⟨pre, p, hpre, hG, hle⟩
          · exact ⟨k, _, HLk.out, hG, Or.inl ⟨rfl, by rw [HLk.out] at hlt; exact hlt⟩⟩
          · have hlen2 := hpre.length_le
            rw [HLk.out] at hlen2
            exact ⟨_, _, rfl, hG, Or.inr ⟨hle, hlen2⟩⟩
        obtain ⟨N, pre, hpre, hG, hN⟩ := hfin
        have HG := Lib.hid hG
        have y0 : w7.cell? ⟨S + 1 + 1, 0, none⟩ = some (.bool true) := hG.ok.cell 0
        have y1 : w7.cell? ⟨S + 1, 0, none⟩ = some (.int .i64 (N : Nat)) := by rw [← hpre]; exact hG.n.cell 0
        have y2 : w7.cell? ⟨w.heap.size + 1, 0, none⟩ = some (.int .u8 (m : Nat)) := (HH.out.mbx.below hG.low a5).cell 0
        have HM7 := Lib.hid (HH.out.map.low' hG.low a1 a2)
        have HS7 := Lib.hid (HH.out.sbx.below hG.low (by omega))
        have HB7 := Lib.hid (HH.out.old.trans (hG.low.mono (by have := HH.out.old.size; rw [HS.out] at this; exact this)))
        clear hG hJ7 hpre HJ0 HH HTr HG
        have hcase := ends_cases k m N hN
        clear hN
        rcases hcase with ⟨rfl, rfl, rfl⟩ | ⟨rfl, rfl, rfl⟩ | ⟨rfl, rfl, hm⟩ | ⟨rfl, rfl, rfl⟩ | ⟨rfl, hk, rfl⟩ | ⟨rfl, rfl, rfl⟩ | ⟨rfl, hk, rfl⟩ | ⟨hm, hk0, hk, rfl⟩ | ⟨hm, rfl, rfl⟩ | ⟨hm, hk, rfl⟩
        all_goals
          go_wp2_with fail
          refine (clear_any HM7.out).mono ?_
          rintro e w8 ⟨rfl, H8, E8⟩
          have y3 : w8.cell? ⟨w.heap.size, 0, none⟩ = some (.int .u8 (n : Nat)) := (E8.lies HS7.out (by omega) (by omega)).cell 0
          have HB8 := Lib.hid (HB7.out.trans (HM7.out.low E8 (by omega) (by omega)))
          have HH8 := Lib.hid H8
          have HT8 := Lib.hid (HT.out.kept HB8.out)
          clear H8 E8 y0 y1 y2 HM7 HS7 HB7
          go_wp2_with fail
          refine (count_int HH8.out _ _ 0 n 0 rfl rfl (by omega) (by omega) (span_new _ _)).mono ?_
          rintro e w9 ⟨rfl, rfl⟩
          go_wp2_with fail
          refine (next_none HH8.out HT8.out _ 0 rfl (by omega) (sets_none _ _ _ (fun p _ _ => bit_new _ p))).mono ?_
          rintro e w10 ⟨rfl, B10⟩
          have HB10 := Lib.hid (on HB8.out HB8.out.size B10)
          clear B10 HB8 HH8 HT8 y3
          go_wp2
          go_ret
          exact ⟨rfl, HB10.out⟩

theorem alls_walk (s m : Int) (hs : 0 ≤ s ∧ s ≤ 255) (hm : 0 ≤ m ∧ m ≤ 255) (A : Option Addr) (l c : Nat) (w : World) (T : Tab w) (hr : ∃ zs, Came .u8 w A l zs) :
    Calls Tryd.prog 4 #[.int .u8 s, .slice A l c, .int .u8 m] w fun e w' => e = .returned (.bool true) ∧ Below w.heap.size w w' := by
  obtain ⟨zs, rfl, h1, h2⟩ := hr
  by_cases h : 100 < zs.length ∨ s = 0
  · exact alls_far s m A c _ w hs h
  · obtain ⟨n, rfl⟩ := Int.eq_ofNat_of_zero_le hs.1
    obtain ⟨m, rfl⟩ := Int.eq_ofNat_of_zero_le hm.1
    exact alls_near n m A c zs w T (by omega) (by omega) (by omega) (by omega) h1 h2
end Go.Proofs.YtiomiaciaefbaaaDoor
