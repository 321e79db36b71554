/- The walk of HeapStays. -/
import Derived.Test.YtccojidhghgikaaSteps
namespace Go.Proofs.Ytccojidhghgikaa
open Go.RowKit
set_option linter.unusedVariables false
set_option linter.unusedSimpArgs false

/-- What is done: its seven numbers. -/
structure Deed where
  kind : Int
  k : Int
  l : Int
  p : Int
  at_ : Int
  field : Int
  word : Int

def Deed.cells (d : Deed) : List Value := [.int .u8 d.kind, .int .i64 d.k, .int .i64 d.l, .int .i64 d.p, .int .i64 d.at_, .int .i64 d.field, .int .i64 d.word]

/-- A slice of deeds reads as a list. -/
def Deeds (w : World) (A : Option Addr) (ds : List Deed) : Prop :=
  ∀ i d, ds[i]? = some d → ∃ ad, A = some ad ∧ ad.block < w.heap.size ∧ ∀ j v, d.cells[j]? = some v → w.cell? (ad.add (i * 7 + j)) = some v

theorem Deeds.kept {w w' : World} {A : Option Addr} {ds : List Deed} (h : Deeds w A ds) (hb : Below w.heap.size w w') : Deeds w' A ds := fun i d hd => by
  obtain ⟨ad, e, hl, hc⟩ := h i d hd
  exact ⟨ad, e, Nat.lt_of_lt_of_le hl hb.size, fun j v hv => (hb.cell (by rw [block_add]; exact hl)).trans (hc j v hv)⟩

theorem add_next (a : Addr) (n j : Nat) (hj : 0 < j) : a.add (n + j) = ⟨(a.add n).block, (a.add n).off + j, none⟩ := by
  unfold Addr.add
  rw [if_neg (by omega)]
  split <;> simp_all [Nat.add_assoc]

theorem Deeds.at_ {w : World} {A : Option Addr} {ds : List Deed} (h : Deeds w A ds) {i : Nat} (hi : i < ds.length) (wr : World) (hb : Below w.heap.size w wr) :
    ∃ ad, A = some ad ∧ wr.cell? (ad.add (i * 7)) = some (.int .u8 ds[i].kind) ∧ wr.cell? ⟨(ad.add (i * 7)).block, (ad.add (i * 7)).off + 1, none⟩ = some (.int .i64 ds[i].k) ∧
      wr.cell? ⟨(ad.add (i * 7)).block, (ad.add (i * 7)).off + 2, none⟩ = some (.int .i64 ds[i].l) ∧ wr.cell? ⟨(ad.add (i * 7)).block, (ad.add (i * 7)).off + 3, none⟩ = some (.int .i64 ds[i].p) ∧
      wr.cell? ⟨(ad.add (i * 7)).block, (ad.add (i * 7)).off + 4, none⟩ = some (.int .i64 ds[i].at_) ∧ wr.cell? ⟨(ad.add (i * 7)).block, (ad.add (i * 7)).off + 5, none⟩ = some (.int .i64 ds[i].field) ∧
      wr.cell? ⟨(ad.add (i * 7)).block, (ad.add (i * 7)).off + 6, none⟩ = some (.int .i64 ds[i].word) := by
  obtain ⟨ad, e, hl, hc⟩ := (h.kept hb) i ds[i] (List.getElem?_eq_getElem hi)
  refine ⟨ad, e, hc 0 _ rfl, ?_, ?_, ?_, ?_, ?_, ?_⟩
  all_goals rw [← add_next _ _ _ (by omega)]
  · exact hc 1 _ rfl
  · exact hc 2 _ rfl
  · exact hc 3 _ rfl
  · exact hc 4 _ rfl
  · exact hc 5 _ rfl
  · exact hc 6 _ rfl

/-- Each number fits. -/
def Deed.fit (d : Deed) : Prop := (0 ≤ d.kind ∧ d.kind ≤ 255) ∧ (-9223372036854775808 ≤ d.word ∧ d.word ≤ 9223372036854775807)

theorem split_keep {obs : List Ob} {a k l p : Int} (h : (splitF obs a k l p).2.1 ≠ 0) : (splitF obs a k l p).2.2 = obs := by
  unfold splitF at h ⊢
  cases hl : look obs a with
  | none => rfl
  | some x =>
    rw [hl] at h
    simp only at h ⊢
    by_cases h1 : x.2.1.1 % 16 ≠ 15
    · rw [if_pos h1]
    · rw [if_neg h1] at h ⊢
      by_cases h2 : goodB k l p = false
      · rw [if_pos h2]
      · rw [if_neg h2] at h ⊢
        by_cases h3 : x.2.1.1 / 65536 < l
        · rw [if_pos h3]
        · rw [if_neg h3] at h ⊢
          by_cases h4 : x.2.1.1 / 65536 = l
          · rw [if_pos h4] at h; exact absurd rfl h
          · rw [if_neg h4] at h; exact absurd rfl h
theorem split_len {obs : List Ob} {a k l p : Int} (hf : Fine obs) : (flat (splitF obs a k l p).2.2).length = (flat obs).length := by
  unfold splitF
  cases hl : look obs a with
  | none => rfl
  | some x =>
    obtain ⟨pre, o, post⟩ := x
    obtain ⟨rfl, _⟩ := look_some _ _ _ hl
    have hlen := hf.right.head.2
    simp only
    split
    · rfl
    · split
      · rfl
      · next hg =>
        have hg' : goodB k l p = true := by simpa using hg
        have l0 := ((good_iff k l p).1 hg').2.2.1
        split
        · rfl
        · split
          · next h1 h2 => simp [flat_append, flat_cons, zeros, hlen, lenOf, h2]
          · next h1 h2 =>
            simp [flat_append, flat_cons, zeros, hlen, lenOf]
            omega
theorem write_keep {obs : List Ob} {a f v : Int} (h : (writeF obs a f v).1 ≠ 0) : (writeF obs a f v).2 = obs := by
  unfold writeF at h ⊢
  cases hl : look obs a with
  | none => rfl
  | some x =>
    rw [hl] at h
    simp only at h ⊢
    split
    · rfl
    · next h1 =>
      rw [if_neg h1] at h
      split
      · rfl
      · next h2 => rw [if_neg h2] at h; exact absurd rfl h
theorem write_len {obs : List Ob} {a f v : Int} : (flat (writeF obs a f v).2).length = (flat obs).length := by
  unfold writeF
  cases hl : look obs a with
  | none => rfl
  | some x =>
    obtain ⟨pre, o, post⟩ := x
    obtain ⟨rfl, _⟩ := look_some _ _ _ hl
    simp only
    split
    · rfl
    · split
      · rfl
      · simp [flat_append, flat_cons]
theorem place_nil {obs : List Ob} {k l p : Int} : ((placeF obs [] k l p).2.1 = 1 ∨ (placeF obs [] k l p).2.1 = 6) ∧ (placeF obs [] k l p).2.2.1 = obs ∧ (placeF obs [] k l p).2.2.2 = [] := by
  unfold placeF
  split
  · exact ⟨.inl rfl, rfl, rfl⟩
  · rw [if_pos (by simp; omega)]
    exact ⟨.inr rfl, rfl, rfl⟩

theorem words_n {w : World} {g gw gb : Nat} {obs : List Ob} (S : St w g gw gb obs []) (N : Nat) (hN : (flat obs).length = N) :
    Calls Try.prog 31 #[.pointer (some ⟨g, 0, none⟩)] w fun e w' => e = .returned (.slice (some ⟨w.heap.size, 0, none⟩) N N) ∧ Lies w' w.heap.size 3 ((flat obs).map (Value.int .i64)) ∧ Below w.heap.size w w' := by
  subst hN
  have := words_any S.lies
  simpa using this
theorem top_n {w : World} {g gw gb : Nat} {obs : List Ob} {tail : List Int} (S : St w g gw gb obs tail) (N : Nat) (hN : (flat obs).length = N) :
    Calls Try.prog 37 #[.pointer (some ⟨g, 0, none⟩)] w fun e w' => e = .returned (.int .i64 (N : Int)) ∧ w = w' := by
  subst hN
  exact top_any S.lies
theorem ints_n (A B : Option Addr) (c d n m : Nat) (xs ys : List Int) (w : World) (hx : Row w A xs) (hy : Row w B ys) (hn : xs.length = n) (hm : ys.length = m) (h1 : n ≤ 65536) (h2 : m ≤ 65536) (b : Bool) (hb : decide (xs = ys) = b) :
    Calls Try.prog 39 #[.slice A n c, .slice B m d] w fun e w' => e = .returned (.bool b) ∧ Below w.heap.size w w' := by
  subst hn hm hb
  exact ints_any A B c d xs ys w hx hy h1 h2

set_option maxHeartbeats 1000000 in
theorem stays_out (A B : Option Addr) (n c m c' : Nat) (w : World) (hn : 100 < n ∨ 30 < m) :
    Calls Try.prog 10 #[.slice A n c, .slice B m c'] w fun e w' => e = .returned (.bool true) ∧ Below w.heap.size w w' := by
  by_cases h1 : 100 < n
  · have d1 : decide ((100 : Int) < (n : Int)) = true := by simp; omega
    go_enter Try.func10, Try.ntmps10
    go_wp2_with fail
    refine (awake_any _).mono ?_
    rintro e w1 ⟨rfl, hb1⟩
    go_wp2_with fail
    refine (awake_any _).mono ?_
    rintro e w2 ⟨rfl, hb2⟩
    go_wp2
    go_ret
    exact ⟨rfl, on hb1 hb1.size hb2⟩
  · have d1 : decide ((100 : Int) < (n : Int)) = false := by simp; omega
    have d2 : decide ((30 : Int) < (m : Int)) = true := by simp; omega
    go_enter Try.func10, Try.ntmps10
    go_wp2_with fail
    refine (awake_any _).mono ?_
    rintro e w1 ⟨rfl, hb1⟩
    go_wp2_with fail
    refine (awake_any _).mono ?_
    rintro e w2 ⟨rfl, hb2⟩
    go_wp2
    go_ret
    exact ⟨rfl, on hb1 hb1.size hb2⟩

set_option maxHeartbeats 1000000 in
theorem stays_no (A B : Option Addr) (c m c' : Nat) (zs : List Int) (w : World) (hr : Row w A zs) (hwf : ∀ i, zs.getD i 0 < 9223372036854775808) (h1 : zs.length ≤ 100) (h2 : m ≤ 30) (hp : zs.length = 0 ∨ ¬ Parses zs) :
    Calls Try.prog 10 #[.slice A zs.length c, .slice B m c'] w fun e w' => e = .returned (.bool true) ∧ Below w.heap.size w w' := by
  have d1 : decide ((100 : Int) < (zs.length : Int)) = false := by simp; omega
  have d2 : decide ((30 : Int) < (m : Int)) = false := by simp; omega
  have hnil := nil_eq
  have HP := Lib.hid hp
  have HW := Lib.hid hwf
  have HR := Lib.hid hr
  clear hp hwf hr
  by_cases h0 : zs.length = 0
  · have h0' : zs.length ≤ 0 := by omega
    clear h0
    go_enter Try.func10, Try.ntmps10
    go_wp2_with fail
    refine (awake_any _).mono ?_
    rintro e w1 ⟨rfl, hb1⟩
    go_wp2_with fail
    refine (of_range A zs.length c _ w1 (by omega)).mono ?_
    rintro e w2 ⟨rfl, hb2⟩
    go_wp2
    go_ret
    exact ⟨rfl, on hb1 hb1.size hb2⟩
  · go_enter Try.func10, Try.ntmps10
    go_wp2_with fail
    refine (awake_any _).mono ?_
    rintro e w1 ⟨rfl, hb1⟩
    have R1 : Row w1 A zs := HR.out.kept hb1
    go_wp2_with fail
    refine (of_no A c zs.length zs w1 R1 (by omega) (by omega) (Nat.le_refl _) HW.out (by rw [List.take_of_length_le (Nat.le_refl _)]; exact HP.out.resolve_left h0)).mono ?_
    rintro e w2 ⟨rfl, hb2⟩
    go_wp2
    go_ret
    exact ⟨rfl, on hb1 hb1.size hb2⟩

set_option maxRecDepth 100000 in
set_option maxHeartbeats 8000000 in
theorem stays_yes (A B : Option Addr) (c c' : Nat) (zs : List Int) (ds : List Deed) (w : World) (hr : Row w A zs) (h0 : 1 ≤ zs.length) (h1 : zs.length ≤ 100) (h2 : ds.length ≤ 30) (hp : Parses zs) (hd : Deeds w B ds) (hfit : ∀ d ∈ ds, d.fit) :
    Calls Try.prog 10 #[.slice A zs.length c, .slice B ds.length c'] w fun e w' => e = .returned (.bool true) ∧ Below w.heap.size w w' := by
  have d1 : decide ((100 : Int) < (zs.length : Int)) = false := by simp; omega
  have d2 : decide ((30 : Int) < (ds.length : Int)) = false := by simp; omega
  have HP := Lib.hid hp
  have HR := Lib.hid hr
  have HD := Lib.hid hd
  have HF := Lib.hid hfit
  clear hp hr hd hfit
  go_enter Try.func10, Try.ntmps10
  go_wp2_with fail
  refine (awake_any _).mono ?_
  rintro e w1 ⟨rfl, hb1⟩
  have R1 : Row w1 A zs := HR.out.kept hb1
  go_wp2_with fail
  refine (of_yes A c zs.length zs w1 R1 h0 (by omega) (Nat.le_refl _) (by rw [List.take_of_length_le (Nat.le_refl _)]; exact HP.out)).mono ?_
  rintro e w2 ⟨g, gw, gb, obs, rfl, hb2, g1, g2, g3, hfine, hflat, H2⟩
  have B2 : Below w.heap.size w w2 := on hb1 hb1.size hb2
  have q1 : w.heap.size ≤ g := by have := hb1.size; omega
  have q2 : w.heap.size ≤ gw := by have := hb1.size; omega
  have q3 : w.heap.size ≤ gb := by have := hb1.size; omega
  have S2 : St w2 g gw gb obs [] := by
    rw [List.take_of_length_le (Nat.le_refl _)] at hflat
    rw [← hflat, Nat.sub_self] at H2
    exact ⟨hfine, by simpa using H2⟩
  have HFl := Lib.hid hflat
  clear hb1 hb2 g1 g2 g3 hflat R1 H2 hfine
  go_wp2
  go_loopw [42, 8, 9, 10] (fun i _ _ _ wr => ∃ (j : Nat) (obs' : List Ob), j ≤ ds.length ∧ i = .int .i64 j ∧ St wr g gw gb obs' [] ∧ Below w.heap.size w wr) (fun i _ _ _ _ => ds.length - (intOf i).toNat)
  case atStart => exact ⟨0, obs, Nat.zero_le _, rfl, S2, B2⟩
  case round =>
    obtain ⟨j, obs', hj, rfl, S, BB⟩ := hrel
    by_cases hjl : j < ds.length
    · obtain ⟨ad, rfl, c0, c1, c2, c3, c4, c5, c6⟩ := HD.out.at_ hjl wr BB
      have hft := HF.out ds[j] (List.getElem_mem hjl)
      generalize ds[j] = d at c0 c1 c2 c3 c4 c5 c6 hft
      obtain ⟨kd, k, l, p, a, f, v⟩ := d
      obtain ⟨_, hv0, hv1⟩ := hft
      simp only at c0 c1 c2 c3 c4 c5 c6 hv0 hv1
      have j0 : (0 : Int) ≤ (j : Int) := by omega
      have j1 : (j : Int) < (ds.length : Int) := by omega
      have l0 := S.lies.most
      rw [List.append_nil] at l0
      have ng : wr.heap.size ≠ g ∧ wr.heap.size ≠ gw ∧ wr.heap.size ≠ gb := by have h1 := S.lies.own.lt; have h2 := S.lies.words.lt; have h3 := S.lies.begins.lt; omega
      have ng' : wr.heap.size + 1 ≠ g ∧ wr.heap.size + 1 ≠ gw ∧ wr.heap.size + 1 ≠ gb := by have h1 := S.lies.own.lt; have h2 := S.lies.words.lt; have h3 := S.lies.begins.lt; omega
      obtain ⟨N, hN⟩ : ∃ N, (flat obs').length = N := ⟨_, rfl⟩
      rw [hN] at l0
      have HN := Lib.hid hN
      have hkeep := split_keep (obs := obs') (a := a) (k := k) (l := l) (p := p)
      have hlen := split_len (a := a) (k := k) (l := l) (p := p) S.fine
      have HK := Lib.hid hkeep
      have HLn := Lib.hid hlen
      clear hN hkeep hlen
      have S0 : St (wr.alloc (.cells #[.int .u8 kd, .int .i64 k, .int .i64 l, .int .i64 p, .int .i64 a, .int .i64 f, .int .i64 v] 43)) g gw gb obs' [] := ⟨S.fine, S.lies.alloc _⟩
      go_wp2_with fail
      refine (words_n S0 N HN.out).mono ?_
      rintro e w3 ⟨rfl, hL3, hb3⟩
      have S3 := S0.kept hb3
      have box3 := (Lies.new wr 43 [.int .u8 kd, .int .i64 k, .int .i64 l, .int .i64 p, .int .i64 a, .int .i64 f, .int .i64 v]).below hb3 (by simp)
      have B3 : Below w.heap.size w w3 := on (BB.alloc BB.size _) (by have := BB.size; simp; omega) hb3
      rw [World.size_alloc] at hL3 ⊢
      have zb := box3.lt
      clear c0 c1 c2 c3 c4 c5 c6 S0 hb3
      go_wp2_with fail
      refine (top_n S3 N HN.out).mono ?_
      rintro e w3' ⟨rfl, rfl⟩
      have x1 : w3.cell? ⟨wr.heap.size, 1, none⟩ = some (.int .i64 k) := box3.cell 1
      have x2 : w3.cell? ⟨wr.heap.size, 2, none⟩ = some (.int .i64 l) := box3.cell 2
      have x3 : w3.cell? ⟨wr.heap.size, 3, none⟩ = some (.int .i64 p) := box3.cell 3
      have x4 : w3.cell? ⟨wr.heap.size, 4, none⟩ = some (.int .i64 a) := box3.cell 4
      go_wp2_with fail
      refine (split_st S3 a k l p).mono ?_
      rintro e w4 ⟨rfl, S4, E4⟩
      generalize splitF obs' a k l p = R at *
      obtain ⟨r1, e1, obs2⟩ := R
      simp only at S4 ⊢
      have HN2 : Hid ((flat obs2).length = N) := HLn.out.trans HN.out
      have box4 := E4.lies box3 ng.1 ng.2.1 ng.2.2
      have hL4 := E4.lies hL3 ng'.1 ng'.2.1 ng'.2.2
      have B4 : Below w.heap.size w w4 := B3.trans (E4.below B3.size q1 q2 q3)
      clear x1 x2 x3 x4 S3 box3 hL3 B3 E4 zb HLn
      by_cases he : e1 = 0
      focus
        obtain ⟨w6, rfl⟩ : ∃ w6 : World, w6 = w4 := ⟨_, rfl⟩
        have S6 := S4
        have box6 := box4
        have B6 := B4
        have he' : (e1 != 0) = false := by simp [he]
        clear S4 box4 hL4 B4 he HK
        go_wp2_with fail
      rotate_left
      focus
        have he' : (e1 != 0) = true := by simp [he]
        have ho : obs2 = obs' := HK.out he
        subst ho
        go_wp2_with fail
        refine (words_n S4 N HN2.out).mono ?_
        rintro e w5 ⟨rfl, hL5, hb5⟩
        have S5 := S4.kept hb5
        go_wp2_with fail
        refine (ints_n _ _ _ _ N N (flat obs2) (flat obs2) w5 (Row.of_lies hL5) (Row.of_lies (hL4.below hb5 hL4.lt)) HN2.out HN2.out l0 l0 true (decide_eq_true rfl)).mono ?_
        rintro e w6 ⟨rfl, hb6⟩
        have S6 := S5.kept hb6
        go_wp2_with fail
        refine (top_n S6 N HN2.out).mono ?_
        rintro e w6' ⟨rfl, rfl⟩
        have box6 := (box4.below hb5 box4.lt).below hb6 (by have := box4.lt; have := hb5.size; omega)
        have B6 : Below w.heap.size w w6 := on (on B4 B4.size hb5) (by have := B4.size; have := hb5.size; omega) hb6
        clear S4 box4 hL4 B4 hb5 hb6 hL5 S5 he HK
        go_wp2_with fail
      all_goals
        refine (words_n S6 N HN2.out).mono ?_
        rintro e w7 ⟨rfl, hL7, hb7⟩
        have S7 := S6.kept hb7
        have box7 := box6.below hb7 box6.lt
        have B7 : Below w.heap.size w w7 := on B6 B6.size hb7
        have ng7 : w6.heap.size ≠ g ∧ w6.heap.size ≠ gw ∧ w6.heap.size ≠ gb := by have h1 := S6.lies.own.lt; have h2 := S6.lies.words.lt; have h3 := S6.lies.begins.lt; omega
        have x4 : w7.cell? ⟨wr.heap.size, 4, none⟩ = some (.int .i64 a) := box7.cell 4
        have x5 : w7.cell? ⟨wr.heap.size, 5, none⟩ = some (.int .i64 f) := box7.cell 5
        have x6 : w7.cell? ⟨wr.heap.size, 6, none⟩ = some (.int .i64 v) := box7.cell 6
        clear S6 box6 B6 hb7 he'
        have hkeep := write_keep (obs := obs2) (a := a) (f := f) (v := v)
        have hlen := write_len (obs := obs2) (a := a) (f := f) (v := v)
        have HK := Lib.hid hkeep
        have HLn := Lib.hid hlen
        clear hkeep hlen
        go_wp2_with fail
        refine (write_st S7 a f v hv0 hv1).mono ?_
        rintro e w8 ⟨rfl, S8, E8⟩
        generalize writeF obs2 a f v = R at *
        obtain ⟨e2, obs3⟩ := R
        simp only at S8 ⊢
        have HN3 : Hid ((flat obs3).length = N) := HLn.out.trans HN2.out
        have box8 := E8.lies box7 ng.1 ng.2.1 ng.2.2
        have hL8 := E8.lies hL7 ng7.1 ng7.2.1 ng7.2.2
        have B8 : Below w.heap.size w w8 := B7.trans (E8.below B7.size q1 q2 q3)
        clear x4 x5 x6 S7 box7 hL7 B7 E8 HLn ng7
        by_cases he : e2 = 0
        focus
          obtain ⟨w10, rfl⟩ : ∃ w10 : World, w10 = w8 := ⟨_, rfl⟩
          have S10 := S8
          have box10 := box8
          have B10 := B8
          have he' : (e2 != 0) = false := by simp [he]
          have x1 : w10.cell? ⟨wr.heap.size, 1, none⟩ = some (.int .i64 k) := box10.cell 1
          have x2 : w10.cell? ⟨wr.heap.size, 2, none⟩ = some (.int .i64 l) := box10.cell 2
          have x3 : w10.cell? ⟨wr.heap.size, 3, none⟩ = some (.int .i64 p) := box10.cell 3
          clear S8 box8 hL8 B8 he HK
          go_wp2_with fail
        rotate_left
        focus
          have he' : (e2 != 0) = true := by simp [he]
          have ho : obs3 = obs2 := HK.out he
          subst ho
          go_wp2_with fail
          refine (words_n S8 N HN3.out).mono ?_
          rintro e w9 ⟨rfl, hL9, hb9⟩
          have S9 := S8.kept hb9
          go_wp2_with fail
          refine (ints_n _ _ _ _ N N (flat obs3) (flat obs3) w9 (Row.of_lies hL9) (Row.of_lies (hL8.below hb9 hL8.lt)) HN3.out HN3.out l0 l0 true (decide_eq_true rfl)).mono ?_
          rintro e w10 ⟨rfl, hb10⟩
          have S10 := S9.kept hb10
          have box10 := (box8.below hb9 box8.lt).below hb10 (by have := box8.lt; have := hb9.size; omega)
          have B10 : Below w.heap.size w w10 := on (on B8 B8.size hb9) (by have := B8.size; have := hb9.size; omega) hb10
          have x1 : w10.cell? ⟨wr.heap.size, 1, none⟩ = some (.int .i64 k) := box10.cell 1
          have x2 : w10.cell? ⟨wr.heap.size, 2, none⟩ = some (.int .i64 l) := box10.cell 2
          have x3 : w10.cell? ⟨wr.heap.size, 3, none⟩ = some (.int .i64 p) := box10.cell 3
          clear S8 box8 hL8 B8 hb9 hb10 hL9 S9 he HK
          go_wp2_with fail
        all_goals
          have hpl := place_nil (obs := obs3) (k := k) (l := l) (p := p)
          refine (place_st S10 k l p).mono ?_
          rintro e w11 ⟨rfl, S11, E11⟩
          generalize placeF obs3 [] k l p = R at *
          obtain ⟨r3, e3, obs4, t4⟩ := R
          simp only at S11 hpl ⊢
          obtain ⟨he3, rfl, rfl⟩ := hpl
          have B11 : Below w.heap.size w w11 := B10.trans (E11.below B10.size q1 q2 q3)
          clear x1 x2 x3 S10 box10 B10 E11 he'
          rcases he3 with rfl | rfl
          all_goals
            go_wp2_with fail
            refine (top_n S11 N HN3.out).mono ?_
            rintro e w12 ⟨rfl, rfl⟩
            go_wp2
            exact ⟨⟨j + 1, _, by omega, by go_num, S11, B11⟩, by simp [intOf]; omega⟩
    · go_wp2
      go_ret
      exact ⟨rfl, BB⟩

theorem stays_walk (A B : Option Addr) (n c m c' : Nat) (zs : List Int) (ds : List Deed) (w : World) (hz : zs.length = n) (hr : Row w A zs) (hwf : ∀ i, -9223372036854775808 ≤ zs.getD i 0 ∧ zs.getD i 0 ≤ 9223372036854775807) (hm : ds.length = m) (hd : Deeds w B ds) (hfit : ∀ d ∈ ds, d.fit) :
    Calls Try.prog 10 #[.slice A n c, .slice B m c'] w fun e w' => e = .returned (.bool true) ∧ Below w.heap.size w w' := by
  subst hz hm
  by_cases h1 : 100 < zs.length ∨ 30 < ds.length
  · exact stays_out A B _ c _ c' w h1
  · by_cases hp : zs.length = 0 ∨ ¬ Parses zs
    · exact stays_no A B c _ c' zs w hr (fun i => by have := (hwf i).2; omega) (by omega) (by omega) hp
    · have h0 : zs.length ≠ 0 := fun h => hp (.inl h)
      have h2 : Parses zs := Classical.byContradiction fun h => hp (.inr h)
      exact stays_yes A B c c' zs ds w hr (by omega) (by omega) (by omega) h2 hd hfit
end Go.Proofs.Ytccojidhghgikaa
