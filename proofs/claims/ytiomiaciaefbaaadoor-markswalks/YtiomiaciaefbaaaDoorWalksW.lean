/- MarksWalks. -/
import Derived.Test.YtiomiaciaefbaaaDoorFlags
import Derived.Maps.AppendAt
import Derived.RangeFuncBox
namespace Go.Proofs.YtiomiaciaefbaaaDoor
open Go.RowKit
set_option linter.unusedVariables false
set_option linter.unusedSimpArgs false

set_option maxRecDepth 100000 in
set_option maxHeartbeats 1000000 in
theorem walks_far (s : Int) (A : Option Addr) (c l : Nat) (w : World) (hs : 0 ≤ s ∧ s ≤ 255) (hl : 100 < l ∨ s = 0) : Calls Tryd.prog 5 #[.int .u8 s, .slice A l c] w fun e w' => e = .returned (.bool true) ∧ Below w.heap.size w w' := by
  obtain ⟨s0, s1⟩ := hs
  by_cases h1 : 100 < l
  · have d1 : decide ((100 : Int) < (l : Int)) = true := by simp; omega
    go_enter Tryd.func5, Tryd.ntmps5
    go_wp2_with fail
    refine (awake_any _).mono ?_
    rintro e w1 ⟨rfl, B1⟩
    go_wp2_with fail
    refine (awake_any _).mono ?_
    rintro e w2 ⟨rfl, B2⟩
    have HB := Lib.hid (on B1 B1.size B2)
    clear B1 B2
    go_wp2
    go_ret
    exact ⟨rfl, HB.out⟩
  · have d1 : decide ((100 : Int) < (l : Int)) = false := by simp; omega
    obtain rfl : s = 0 := by omega
    go_enter Tryd.func5, Tryd.ntmps5
    go_wp2_with fail
    refine (awake_any _).mono ?_
    rintro e w1 ⟨rfl, B1⟩
    go_wp2_with fail
    refine (awake_any _).mono ?_
    rintro e w2 ⟨rfl, B2⟩
    have HB := Lib.hid (on B1 B1.size B2)
    clear B1 B2
    go_wp2
    go_ret
    exact ⟨rfl, HB.out⟩

theorem At.low' {w w' : World} {g gw n B : Nat} {ws : List Nat} (h : At w g gw n ws) (hb : Below B w w') (h1 : g < B) (h2 : gw < B) : At w' g gw n ws := h.of_blocks (hb.block g h1) (hb.block gw h2)

/-- A place that is the first one. -/
theorem sets_head (ws : List Nat) (q n x : Nat) (l : List Nat) (h : sets ws q n = x :: l) : q ≤ x ∧ x < n ∧ bit ws x = true ∧ ∀ p, q ≤ p → p < x → bit ws p = false := by
  have hx : x ∈ sets ws q n := by rw [h]; simp
  obtain ⟨⟨h1, h2⟩, h3⟩ := (sets_mem ws q n x).1 hx
  refine ⟨h1, h2, h3, fun p hp1 hp2 => ?_⟩
  have e : sets ws q x = [] := by
    have e := sets_add ws q x n h1 (by omega)
    rw [h] at e
    cases hs : sets ws q x with
    | nil => rfl
    | cons y m =>
      rw [hs] at e
      injection e with e1 _
      have := (sets_mem ws q x y).1 (by rw [hs]; simp)
      omega
  cases hb : bit ws p with
  | false => rfl
  | true =>
    have := (sets_mem ws q x p).2 ⟨⟨hp1, hp2⟩, hb⟩
    rw [e] at this
    simp at this
theorem sets_more (ws : List Nat) (q n x : Nat) (l : List Nat) (h : sets ws q n = x :: l) : sets ws 0 (x + 1) = sets ws 0 q ++ [x] := by
  obtain ⟨h1, _, h3, h4⟩ := sets_head ws q n x l h
  exact sets_next ws 0 q x (by omega) h1 h4 h3

def ints (l : List Nat) : List Value := l.map fun x => .int .i64 (x : Nat)
theorem ints_add (l : List Nat) (x : Nat) : ints (l ++ [x]) = ints l ++ [.int .i64 (x : Nat)] := by simp [ints]

/-- While the list grows: what lay ahead of its box is as it was; the box; the list. -/
structure Wk (W0 wr : World) (gl : Nat) (A : Option Addr) (cap : Nat) (ls : List Nat) : Prop where
  low : Below gl W0 wr
  box : Lies wr gl 22 [.slice A ls.length cap]
  row : wr.ownsRow (gl + 1) 3 1 (.slice A ls.length cap) ls.length (ints ls)
theorem owns_kept {w w' : World} {base n : Nat} {v : Value} {xs : List Value} (h : w.ownsRow base 3 1 v n xs) (hb : Below w.heap.size w w') : w'.ownsRow base 3 1 v n xs := by
  refine ⟨h.1, h.2.imp id ?_⟩
  rintro ⟨g, cap, cur, h1, h2, h3, h4⟩
  exact ⟨g, cap, cur, h1, h2, (hb.block g (Array.getElem?_eq_some_iff.1 h3).1).trans h3, h4⟩
theorem below_own {w W W' : World} {C base : Nat} {v : Value} {n : Nat} {xs : List Value} (h : Below C w W) (hC : C ≤ base) (hB : C ≤ W.heap.size) (ho : W.ownsRow base 3 1 v n xs) (hg : W.grownBy W' v.ownBlock) : Below C w W' :=
  h.grown hg hB (fun k e => by
    obtain ⟨_, ⟨rfl, _⟩ | ⟨g, cap, cur, rfl, h2, _⟩⟩ := ho
    · simp [Value.ownBlock] at e
    · simp [Value.ownBlock] at e; omega)
theorem Wk.kept {W0 wr w' : World} {gl : Nat} {A : Option Addr} {cap : Nat} {ls : List Nat} (h : Wk W0 wr gl A cap ls) (hb : Below wr.heap.size wr w') : Wk W0 w' gl A cap ls :=
  ⟨h.low.trans (hb.mono (Nat.le_of_lt h.box.lt)), h.box.kept hb, owns_kept h.row hb⟩
theorem lies_grown {W W' : World} {k : Nat} {t : TypeId} {cs : List Value} {row : Option Nat} (h : Lies W k t cs) (hg : W.grownBy W' row) (hr : row ≠ some k) : Lies W' k t cs :=
  h.of_block (hg.block k h.lt (fun e => hr e.symm))
theorem Wk.app {W0 w5 w6 : World} {gl : Nat} {A : Option Addr} {cap x q cap' : Nat} {ls : List Nat} (h : Wk W0 w5 gl A cap ls)
    (ho : w6.ownsRow (gl + 1) 3 1 (.slice (some ⟨q, 0, none⟩) (ls.length + 1) cap') (ls.length + 1) (ints ls ++ [.int .i64 (x : Nat)])) (hg : (w5.alloc (.cells #[.int .i64 (x : Nat)] 3)).grownBy w6 (Value.slice A ls.length cap).ownBlock) :
    Lies w6 gl 22 [.slice A ls.length cap] ∧ Wk W0 (w6.setCell ⟨gl, 0, none⟩ (.slice (some ⟨q, 0, none⟩) (ls.length + 1) cap')) gl (some ⟨q, 0, none⟩) cap' (ls ++ [x]) := by
  have h5 := h.kept (below_one w5 (.cells #[.int .i64 (x : Nat)] 3))
  have hb := below_own h5.low (Nat.le_succ _) (Nat.le_of_lt h5.box.lt) h5.row hg
  have hbox := lies_grown h5.box hg (fun e => by
    obtain ⟨_, ⟨h1, _⟩ | ⟨k, cp, cur, h1, h2, _⟩⟩ := h5.row
    · injection h1 with h1; subst h1; simp [Value.ownBlock] at e
    · injection h1 with h1; subst h1; simp [Value.ownBlock] at e; omega)
  refine ⟨hbox, hb.setCell (Nat.le_refl _) _, ?_, ?_⟩
  · have := hbox.set 0 (.slice (some ⟨q, 0, none⟩) (ls.length + 1) cap')
    rw [List.length_append]
    exact this
  · obtain ⟨h1, ⟨h2, _⟩ | ⟨k, cp, cur, h2, h3, h4, h6⟩⟩ := ho
    · cases h2
    · injection h2 with h2 _ h2'
      injection h2 with h2
      injection h2 with h2
      subst h2 h2'
      refine ⟨by simp [ints], Or.inr ⟨q, cap', cur, by simp, h3, ?_, ?_⟩⟩
      · rw [Below.heap_setCell _ _ _ q (by simp; omega)]; exact h4
      · simpa [ints] using h6

/-- The list, once it stays. -/
def Held (W : World) (A : Option Addr) (ls : List Nat) (no : Nat) : Prop :=
  ls = [] ∨ ∃ q, q < no ∧ A = some ⟨q, 0, none⟩ ∧ ∀ i (h : i < ls.length), W.cell? ⟨q, i, none⟩ = some (.int .i64 (ls[i] : Nat))
theorem Wk.held {W0 wr : World} {gl : Nat} {A : Option Addr} {cap : Nat} {ls : List Nat} (h : Wk W0 wr gl A cap ls) : Held wr A ls wr.heap.size := by
  obtain ⟨_, ⟨_, h2⟩ | ⟨k, cp, cur, h2, h3, h4, h5, h6, h7, h8⟩⟩ := h.row
  · exact Or.inl (List.length_eq_zero_iff.1 h2)
  · injection h2 with h2
    refine Or.inr ⟨k, (Array.getElem?_eq_some_iff.1 h4).1, h2, fun i hi => ?_⟩
    have e : (ints ls)[i]? = some (.int .i64 (ls[i] : Nat)) := by simp [ints, hi]
    rw [← h8, List.getElem?_take, if_pos (by omega)] at e
    simp only [World.cell?, h4]
    simpa using e
theorem Held.below {W W' : World} {A : Option Addr} {ls : List Nat} {no : Nat} (h : Held W A ls no) (hb : Below no W W') : Held W' A ls no := by
  rcases h with h | ⟨q, h1, h2, h3⟩
  · exact Or.inl h
  · exact Or.inr ⟨q, h1, h2, fun i hi => (hb.cell (p := ⟨q, i, none⟩) h1).trans (h3 i hi)⟩
theorem Held.at_ {W : World} {A : Option Addr} {ls : List Nat} {no : Nat} (h : Held W A ls no) (i : Nat) (hi : i < ls.length) : ∃ q, A = some ⟨q, 0, none⟩ ∧ W.cell? ⟨q, i, none⟩ = some (.int .i64 (ls[i] : Nat)) := by
  rcases h with h | ⟨q, h1, h2, h3⟩
  · subst h; simp at hi
  · exact ⟨q, h2, h3 i hi⟩

theorem enterW1 (args : Array Value) (W : World) : (callFunc 16 args).run Tryd.prog W = .ok (.enter 16 args) W := by
  simp [callFunc, go_sem, Tryd.func16]
  kernel_rfl

set_option maxRecDepth 100000 in
set_option maxHeartbeats 1000000 in
theorem walks1_any (W : World) (bo bi gl no : Nat) (A : Option Addr) (cap : Nat) (ls : List Nat) (i p : Nat) (hi : i < ls.length) (hp : ls[i] = p) (hll : ls.length ≤ 256) (hne : bo ≠ bi)
    (ho : Lies W bo 4 [.bool true]) (hb : Lies W bi 3 [.int .i64 (i : Nat)]) (hl : Lies W gl 22 [.slice A ls.length cap]) (hh : Held W A ls no) (g1 : gl ≠ bo) (g2 : gl ≠ bi) (n1 : no ≤ bo) (n2 : no ≤ bi) :
    Calls Tryd.prog 16 #[.int .i64 (p : Nat), .pointer (some ⟨bo, 0, none⟩), .pointer (some ⟨bi, 0, none⟩), .pointer (some ⟨gl, 0, none⟩)] W fun e W' =>
      e = .returned (.bool true) ∧ W' = (W.setCell ⟨bo, 0, none⟩ (.bool true)).setCell ⟨bi, 0, none⟩ (.int .i64 ((i + 1 : Nat) : Int)) := by
  obtain ⟨q, rfl, hq⟩ := hh.at_ i hi
  have x0 : W.cell? ⟨bo, 0, none⟩ = some (.bool true) := ho.cell 0
  have x1 : W.cell? ⟨bi, 0, none⟩ = some (.int .i64 (i : Nat)) := hb.cell 0
  have x2 : W.cell? ⟨gl, 0, none⟩ = some (.slice (some ⟨q, 0, none⟩) ls.length cap) := hl.cell 0
  have f0 := ho.frozen 0
  have f1 := hb.frozen 0
  rw [hp] at hq
  obtain ⟨Z, hZ⟩ : ∃ Z, ls.length = Z := ⟨_, rfl⟩
  rw [hZ] at hi hll x2
  clear hh hl hb ho hp hZ
  have j1 : (i : Int) < (Z : Int) := by omega
  go_enter Tryd.func16, Tryd.ntmps16
  go_wp2
  go_ret
  exact ⟨rfl, by simp⟩

/-- While the iterator goes through the list. -/
structure Wl (W0 : World) (g gl no bo bi bm bf : Nat) (pre : List Nat) (W : World) : Prop where
  low : Below no W0 W
  ok : Lies W bo 4 [.bool true]
  at_ : Lies W bi 3 [.int .i64 (pre.length : Nat)]
  mb : Lies W bm 25 [.pointer (some ⟨g, 0, none⟩)]
  fb : Lies W bf 3 [.int .i64 ((0 : Nat) : Int)]

set_option maxRecDepth 100000 in
set_option maxHeartbeats 2000000 in
theorem walks_near (n : Nat) (A : Option Addr) (c : Nat) (zs : List Int) (w : World) (T : Tab w) (h1 : 1 ≤ n) (h2 : n ≤ 255) (hl : zs.length ≤ 100) (hr : Row .u8 w A zs) (hz : ∀ z ∈ zs, 0 ≤ z ∧ z ≤ 255) :
    Calls Tryd.prog 5 #[.int .u8 (n : Int), .slice A zs.length c] w fun e w' => e = .returned (.bool true) ∧ Below w.heap.size w w' := by
  have d1 : decide ((100 : Int) < (zs.length : Int)) = false := by simp; omega
  have d2 : ((n : Int) == 0) = false := by simp; omega
  obtain ⟨i0, hi0, hz0, hz1, hz2⟩ : ∃ i, Tryd.prog.info? 3 = some i ∧ i.zero = some (.int .i64 0) ∧ i.size = 1 ∧ i.bytes = 8 := ⟨_, rfl, rfl, rfl, rfl⟩
  have HI := Lib.hid (And.intro hi0 (And.intro hz0 (And.intro hz1 hz2)))
  have HT := Lib.hid T
  have HR := Lib.hid hr
  have HZ := Lib.hid hz
  clear hr hz T hi0 hz0 hz1 hz2
  go_enter Tryd.func5, Tryd.ntmps5
  go_wp2_with fail
  refine (awake_any _).mono ?_
  rintro e w1 ⟨rfl, B1⟩
  have HB1 := Lib.hid B1
  clear B1
  go_wp2_with fail
  refine (new_yes _ n rfl w1 (by omega) (by omega)).mono ?_
  rintro e w2 ⟨g, gw, rfl, B2, q1, q2, H2⟩
  have q3 := HB1.out.size
  have B3 := Lib.hid (on HB1.out HB1.out.size B2)
  have HH3 := Lib.hid H2
  clear B2 H2 HB1
  go_wp2
  go_loopw [41] (fun i wr => ∃ (j : Nat) (ws : List Nat), j ≤ zs.length ∧ i = .int .i64 j ∧ At wr g gw n ws ∧ Below w.heap.size w wr) (fun i _ => zs.length - (intOf i).toNat)
  case atStart => exact ⟨0, _, Nat.zero_le _, rfl, HH3.out, B3.out⟩
  case round =>
    obtain ⟨j, ws, hj, rfl, H, B⟩ := hrel
    have HH := Lib.hid H
    have HB := Lib.hid B
    clear H B HH3 B3
    by_cases hjl : j < zs.length
    · obtain ⟨ad, rfl, c0⟩ := (HR.out.kept HB.out).at_ hjl
      have hb := HZ.out zs[j] (List.getElem_mem hjl)
      generalize zs[j] = z at c0 hb
      obtain ⟨hb0, hb1⟩ := hb
      obtain ⟨p, hzp, hpn⟩ := rem_place z n hb0 h1
      go_wp2_with fail
      refine (set_yes HH.out p hpn).mono ?_
      rintro e w5 ⟨rfl, H5, E5⟩
      have B5 := Lib.hid (HB.out.trans (HH.out.low E5 (by omega) (by omega)))
      have HH5 := Lib.hid H5
      clear H5 E5 c0 HH HB
      go_wp2
      exact ⟨⟨j + 1, _, by omega, by go_num, HH5.out, B5.out⟩, by simp [intOf]; omega⟩
    · have hj' : j = zs.length := by omega
      subst hj'
      have r1 := HH.out.own.lt
      have r2 := HH.out.words.lt
      have r3 := HB.out.size
      have HW0 : Hid (Wk (wr.alloc (.cells #[.slice none 0 0] 22)) (wr.alloc (.cells #[.slice none 0 0] 22)) wr.heap.size none 0 []) := Lib.hid ⟨Below.refl _ _, Lies.new wr 22 [.slice none 0 0], World.ownsRow_nil _ _ _ _⟩
      have HA0 := Lib.hid (HH.out.alloc (.cells #[.slice none 0 0] 22))
      have HBd := Lib.hid (on HB.out HB.out.size (below_one wr (.cells #[.slice none 0 0] 22)))
      clear HH HB
      go_wp2
      obtain ⟨gl, hgl⟩ : ∃ gl, wr.heap.size = gl := ⟨_, rfl⟩
      rw [hgl] at HW0 r1 r2 r3 ⊢
      obtain ⟨W0, hW0⟩ : ∃ W0, wr.alloc (.cells #[.slice none 0 0] 22) = W0 := ⟨_, rfl⟩
      rw [hW0] at HW0 HA0 HBd ⊢
      clear hgl hW0
      have HT0 := Lib.hid (HT.out.kept HBd.out)
      go_loopw [10] (fun s10 wr => ∃ (q : Nat) (A : Option Addr) (cap : Nat), q ≤ n ∧ s10 = .int .i64 q ∧ Wk W0 wr gl A cap (sets ws 0 q)) (fun s _ => n + 1 - (intOf s).toNat)
      case atStart => exact ⟨0, none, 0, Nat.zero_le _, rfl, by rw [sets_self]; exact HW0.out⟩
      case round =>
        obtain ⟨q, A', cap, hq, rfl, HK0⟩ := hrel
        have HK := Lib.hid HK0
        have hKl := sets_len ws 0 q
        have x9 : wr.cell? ⟨gl, 0, none⟩ = some (.slice A' (sets ws 0 q).length cap) := HK0.box.cell 0
        have HA := Lib.hid (HA0.out.low' HK0.low (by omega) (by omega))
        have HTr := Lib.hid (HT0.out.below HK0.low (by omega))
        clear HK0 HW0
        obtain ⟨K, hK⟩ : ∃ K, (sets ws 0 q).length = K := ⟨_, rfl⟩
        have HKK := Lib.hid hK
        rw [hK] at x9 hKl
        clear hK
        have t1 : K ≤ n := by omega
        cases hs : sets ws q n with
        | nil =>
          have HSs := Lib.hid hs
          clear hs
          go_wp2_with fail
          refine (next_yes HA.out HTr.out _ q rfl hq [] ((sets_all HA.out q hq).trans HSs.out)).mono ?_
          rintro e w5 ⟨rfl, B5⟩
          have e1 : nextA [] = 0 := rfl
          have e2 : nextE [] = 13 := rfl
          rw [e1, e2]
          have HK5 := Lib.hid (HK.out.kept B5)
          have HA5 := Lib.hid (HA.out.kept B5)
          have HT5 := Lib.hid (HTr.out.kept B5)
          clear B5 HK HA HTr x9 e1 e2
          go_wp2_with fail
          refine (all_any (w5.heap.size + 1 + 1) (by simp)).mono ?_
          rintro e w6 ⟨rfl, rfl⟩
          have a1 := HA5.out.own.lt
          have a2 := HA5.out.words.lt
          have a3 := HK5.out.box.lt
          have hls : sets ws 0 (64 * ws.length) = sets ws 0 q := by rw [sets_all HA5.out 0 (by omega), sets_add ws 0 q n (by omega) hq, HSs.out, List.append_nil]
          have HLs := Lib.hid hls
          have hJ0 : Wl w5 g gl w5.heap.size (w5.heap.size + 1) w5.heap.size (w5.heap.size + 1 + 1) (w5.heap.size + 1 + 1 + 1) [] ((((w5.alloc (.cells #[.int .i64 0] 3)).alloc (.cells #[.bool true] 4)).alloc (.cells #[.pointer (some ⟨g, 0, none⟩)] 25)).alloc (.cells #[.int .i64 ((0 : Nat) : Int)] 3)) := by
            refine ⟨((((Below.refl _ w5).alloc (Nat.le_refl _) _).alloc (by simp) _).alloc (by simp; omega) _).alloc (by simp; omega) _, ?_, ?_, ?_, ?_⟩
            · have := ((Lies.new (w5.alloc (.cells #[.int .i64 0] 3)) 4 [.bool true]).alloc (.cells #[.pointer (some ⟨g, 0, none⟩)] 25)).alloc (.cells #[.int .i64 ((0 : Nat) : Int)] 3)
              rw [World.size_alloc] at this; exact this
            · exact (((Lies.new w5 3 [.int .i64 0]).alloc _).alloc _).alloc _
            · have := (Lies.new ((w5.alloc (.cells #[.int .i64 0] 3)).alloc (.cells #[.bool true] 4)) 25 [.pointer (some ⟨g, 0, none⟩)]).alloc (.cells #[.int .i64 ((0 : Nat) : Int)] 3)
              rw [World.size_alloc, World.size_alloc] at this; exact this
            · have := Lies.new (((w5.alloc (.cells #[.int .i64 0] 3)).alloc (.cells #[.bool true] 4)).alloc (.cells #[.pointer (some ⟨g, 0, none⟩)] 25)) 3 [.int .i64 ((0 : Nat) : Int)]
              rw [World.size_alloc, World.size_alloc, World.size_alloc] at this; exact this
          have HJ0 := Lib.hid hJ0
          clear hls hJ0
          obtain ⟨W6, hW6⟩ : ∃ W6, (((w5.alloc (.cells #[.int .i64 0] 3)).alloc (.cells #[.bool true] 4)).alloc (.cells #[.pointer (some ⟨g, 0, none⟩)] 25)).alloc (.cells #[.int .i64 ((0 : Nat) : Int)] 3) = W6 := ⟨_, rfl⟩
          rw [hW6] at HJ0 ⊢
          clear hW6
          go_wp2_with fail
          refine (from1 16 #[.pointer (some ⟨w5.heap.size + 1, 0, none⟩), .pointer (some ⟨w5.heap.size, 0, none⟩), .pointer (some ⟨gl, 0, none⟩)] g gw n (w5.heap.size + 1 + 1 + 1) (w5.heap.size + 1 + 1) 0 ws (sets ws 0 q) HLs.out (by omega)
            (Wl w5 g gl w5.heap.size (w5.heap.size + 1) w5.heap.size (w5.heap.size + 1 + 1) (w5.heap.size + 1 + 1 + 1)) (fun _ _ => False)
            (fun pre W hJ => ⟨HA5.out.low' hJ.low a1 a2, hJ.mb, hJ.fb, HT5.out.below hJ.low (by omega)⟩) (fun pre p W hpre hJ => ?_) enterW1 W6 HJ0.out).mono ?_
          · obtain ⟨rest, hrest⟩ := hpre
            have hi : pre.length < (sets ws 0 q).length := by rw [← hrest]; simp
            have hp : (sets ws 0 q)[pre.length] = p := by simp [← hrest]
            have := HKK.out
            refine (walks1_any W (w5.heap.size + 1) w5.heap.size gl w5.heap.size A' cap (sets ws 0 q) pre.length p hi hp (by omega) (by omega) hJ.ok hJ.at_ (HK5.out.box.below hJ.low a3) (HK5.out.held.below hJ.low) (by omega) (by omega) (by omega) (by omega)).mono ?_
            rintro e W' ⟨rfl, rfl⟩
            refine Or.inl ⟨rfl, (hJ.low.setCell (p := ⟨w5.heap.size + 1, 0, none⟩) (by simp) _).setCell (p := ⟨w5.heap.size, 0, none⟩) (by simp) _, ?_, ?_, ?_, ?_⟩
            · exact (hJ.ok.set 0 _).far (p := ⟨w5.heap.size, 0, none⟩) (by simp) _
            · rw [List.length_append]
              exact (hJ.at_.far (p := ⟨w5.heap.size + 1, 0, none⟩) (by simp) _).set 0 _
            · exact (hJ.mb.far (p := ⟨w5.heap.size + 1, 0, none⟩) (by simp) _).far (p := ⟨w5.heap.size, 0, none⟩) (by simp; omega) _
            · exact (hJ.fb.far (p := ⟨w5.heap.size + 1, 0, none⟩) (by simp; omega) _).far (p := ⟨w5.heap.size, 0, none⟩) (by simp; omega) _
          · rintro e w7 ⟨rfl, hJ7 | ⟨_, _, _, hx⟩⟩
            · have y0 : w7.cell? ⟨w5.heap.size + 1, 0, none⟩ = some (.bool true) := hJ7.ok.cell 0
              have y1 : w7.cell? ⟨w5.heap.size, 0, none⟩ = some (.int .i64 (K : Nat)) := by rw [← HKK.out]; exact hJ7.at_.cell 0
              have y2 : w7.cell? ⟨gl, 0, none⟩ = some (.slice A' K cap) := by rw [← HKK.out]; exact (HK5.out.box.below hJ7.low a3).cell 0
              have HB7 := Lib.hid (HBd.out.trans ((HK5.out.low.mono r3).trans (hJ7.low.mono (by omega))))
              clear hJ7
              go_wp2
              go_ret
              exact ⟨ret_bool (by simp), HB7.out⟩
            · exact hx.elim
        | cons x l =>
          have HSs := Lib.hid hs
          have hxn := sets_head ws q n x l hs
          have hx1 := hxn.1
          have hx2 := hxn.2.1
          clear hs hxn
          go_wp2_with fail
          refine (next_yes HA.out HTr.out _ q rfl hq (x :: l) ((sets_all HA.out q hq).trans HSs.out)).mono ?_
          rintro e w5 ⟨rfl, B5⟩
          have e1 : nextA (x :: l) = x := rfl
          have e2 : nextE (x :: l) = 0 := rfl
          rw [e1, e2]
          have HK5 := Lib.hid (HK.out.kept B5)
          have x9 : w5.cell? ⟨gl, 0, none⟩ = some (.slice A' K cap) := by rw [← HKK.out]; exact HK5.out.box.cell 0
          have HRw : Hid ((w5.alloc (.cells #[.int .i64 (x : Nat)] 3)).ownsRow (gl + 1) 3 1 (.slice A' K cap) K (ints (sets ws 0 q))) := Lib.hid (by rw [← HKK.out]; exact (HK5.out.kept (below_one _ _)).row)
          have r5 := HK5.out.box.lt
          clear B5 HK HA HTr e1 e2
          go_wp2_with (at_builtin; refine wpList_append_own _ rfl (.tmp 68) (.tmp 70) 22 rfl (gl + 1) 3 i0 (.int .i64 0) 1 8 Tryd.underlying22 HI.out.1 HI.out.2.1 HI.out.2.2.1 HI.out.2.2.2 rfl (by decide) (.slice A' K cap) K (ints (sets ws 0 q)) rfl HRw.out ⟨w5.heap.size, 0, none⟩ 1 1 [.int .i64 (x : Nat)] rfl rfl (cell_one_new _ _ _) (by simp [Value.oneCell']) (by unfold maxLen; omega) (by omega) (by simp; omega) ?_; intro v6 w6 O6 G6 _; obtain ⟨q6, cap6, rfl⟩ := ownsRow_succ O6; have HW6 := Lib.hid (HK5.out.app (by rw [HKK.out]; exact O6) (by rw [HKK.out]; exact G6)); clear O6 G6; have x6 : w6.cell? ⟨gl, 0, none⟩ = some (.slice A' K cap) := (by rw [← HKK.out]; exact HW6.out.1.cell 0); have f6 := HW6.out.1.frozen 0)
          refine ⟨⟨x + 1, some ⟨q6, 0, none⟩, cap6, by omega, by go_num, ?_⟩, by simp [intOf]; omega⟩
          have hw := HW6.out.2
          rw [HKK.out] at hw
          rw [sets_more ws q n x l HSs.out]
          exact hw

theorem walks_walk (s : Int) (hs : 0 ≤ s ∧ s ≤ 255) (A : Option Addr) (l c : Nat) (w : World) (T : Tab w) (hr : ∃ zs, Came .u8 w A l zs) :
    Calls Tryd.prog 5 #[.int .u8 s, .slice A l c] w fun e w' => e = .returned (.bool true) ∧ Below w.heap.size w w' := by
  obtain ⟨zs, rfl, h1, h2⟩ := hr
  by_cases h : 100 < zs.length ∨ s = 0
  · exact walks_far s A c _ w hs h
  · obtain ⟨n, rfl⟩ := Int.eq_ofNat_of_zero_le hs.1
    exact walks_near n A c zs w T (by omega) (by omega) (by omega) h1 h2
end Go.Proofs.YtiomiaciaefbaaaDoor
