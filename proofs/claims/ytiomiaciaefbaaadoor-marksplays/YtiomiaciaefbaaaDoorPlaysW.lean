/- MarksPlays. -/
import Derived.Test.YtiomiaciaefbaaaDoorFlags
namespace Go.Proofs.YtiomiaciaefbaaaDoor
open Go.RowKit
set_option linter.unusedVariables false
set_option linter.unusedSimpArgs false

set_option maxRecDepth 100000 in
set_option maxHeartbeats 1000000 in
theorem plays_far (s : Int) (A : Option Addr) (c l : Nat) (z0 z1 : Int) (w : World) (hs : 0 ≤ s ∧ s ≤ 255) (hl : 100 < l) : Calls Tryd.prog 3 #[.int .u8 s, .slice A l c, .agg #[.int .i64 z0, .int .i64 z1]] w fun e w' => e = .returned (.bool true) ∧ Below w.heap.size w w' := by
  obtain ⟨s0, s1⟩ := hs
  have d1 : decide ((100 : Int) < (l : Int)) = true := by simp; omega
  go_enter Tryd.func3, Tryd.ntmps3
  go_wp2_with fail
  refine (awake_any _).mono ?_
  rintro e w1 ⟨rfl, B1⟩
  go_wp2_with fail
  refine (awake_any _).mono ?_
  rintro e w2 ⟨rfl, B2⟩
  have HB := Lib.hid (on (on (below_one _ _) (by simp) B1) (by have := B1.size; simp at this; omega) B2)
  clear B1 B2
  go_wp2
  go_ret
  exact ⟨rfl, HB.out⟩

set_option maxRecDepth 100000 in
set_option maxHeartbeats 1000000 in
theorem plays_zero (A : Option Addr) (c l : Nat) (z0 z1 : Int) (w : World) (hl : l ≤ 100) : Calls Tryd.prog 3 #[.int .u8 0, .slice A l c, .agg #[.int .i64 z0, .int .i64 z1]] w fun e w' => e = .returned (.bool true) ∧ Below w.heap.size w w' := by
  have d1 : decide ((100 : Int) < (l : Int)) = false := by simp; omega
  go_enter Tryd.func3, Tryd.ntmps3
  go_wp2_with fail
  refine (awake_any _).mono ?_
  rintro e w1 ⟨rfl, B1⟩
  have HB := Lib.hid (on (below_one _ _) (by simp) B1)
  clear B1
  go_wp2_with fail
  refine (new_no _ _ (by omega)).mono ?_
  rintro e w2 ⟨rfl, rfl⟩
  go_wp2
  go_ret
  exact ⟨rfl, HB.out⟩

/-- What stands while places are set, and behind. -/
structure Pl (w wr : World) (g gw gi n : Nat) (ws : List Nat) (z0 z1 : Int) : Prop where
  map : At wr g gw n ws
  flg : Lies wr gi 4 (flags ws n)
  box : Lies wr w.heap.size 23 [.int .i64 z0, .int .i64 z1]
  old : Below w.heap.size w wr
theorem Pl.kept {w wr w' : World} {g gw gi n : Nat} {ws : List Nat} {z0 z1 : Int} (h : Pl w wr g gw gi n ws z0 z1) (hb : Below wr.heap.size wr w') : Pl w w' g gw gi n ws z0 z1 :=
  ⟨h.map.kept hb, h.flg.kept hb, h.box.kept hb, on h.old h.old.size hb⟩

theorem count_int {w : World} {g gw n : Nat} {ws : List Nat} (h : At w g gw n ws) (x y : Int) (a b r : Nat) (hx : x = a) (hy : y = b) (hab : a ≤ b) (hb : b ≤ n) (hr : span (bit ws) a b = r) :
    Calls Tryd.prog 11 #[.pointer (some ⟨g, 0, none⟩), .int .i64 x, .int .i64 y] w fun e w' => e = .returned (.tuple #[.int .i64 r, .int .i64 0]) ∧ w = w' := by
  subst hx hy hr
  exact count_yes h a b hab hb
theorem Pl.x0 {w wr : World} {g gw gi n : Nat} {ws : List Nat} {z0 z1 : Int} (h : Pl w wr g gw gi n ws z0 z1) : wr.cell? ⟨w.heap.size, 0, none⟩ = some (.int .i64 z0) := h.box.cell 0
theorem Pl.drewN {w wr : World} {g gw gi n : Nat} {ws : List Nat} {z0 z1 : Int} (h : Pl w wr g gw gi n ws z0 z1) (k : Nat) : Pl w (wr.drewN k) g gw gi n ws z0 z1 := h.kept (below_drewN wr k)
theorem next_none {w : World} {g gw n : Nat} {ws : List Nat} (H : At w g gw n ws) (T : Tab w) (z : Int) (a : Nat) (hz : z = a) (ha : a ≤ n) (hL : sets ws a n = []) :
    Calls Tryd.prog 12 #[.pointer (some ⟨g, 0, none⟩), .int .i64 z] w fun e w' => e = .returned (.tuple #[.int .i64 0, .int .i64 13]) ∧ Below w.heap.size w w' :=
  next_yes H T z a hz ha [] ((sets_all H a ha).trans hL)
theorem next_some {w : World} {g gw n : Nat} {ws : List Nat} (H : At w g gw n ws) (T : Tab w) (z : Int) (a : Nat) (hz : z = a) (ha : a ≤ n) (x : Nat) (l : List Nat) (hL : sets ws a n = x :: l) :
    Calls Tryd.prog 12 #[.pointer (some ⟨g, 0, none⟩), .int .i64 z] w fun e w' => e = .returned (.tuple #[.int .i64 x, .int .i64 0]) ∧ Below w.heap.size w w' :=
  next_yes H T z a hz ha (x :: l) ((sets_all H a ha).trans hL)

/-- What is known of the first ones. -/
structure Seen (ws : List Nat) (z0 z1 : Int) (j c : Nat) (nx : Int) : Prop where
  many : cnt (btw ws z0 z1) j = c
  first : ∀ a : Nat, z0 = a → nextOf (sets ws a j) = nx
  le : c ≤ j
  lo : -1 ≤ nx
  hi : nx < 256
theorem Seen.zero (ws : List Nat) (z0 z1 : Int) : Seen ws z0 z1 0 0 (-1) := ⟨rfl, fun a _ => by rw [sets_early ws a 0 (by omega)]; rfl, by omega, by omega, by omega⟩
theorem Seen.next {ws : List Nat} {z0 z1 : Int} {j c : Nat} {nx : Int} (h : Seen ws z0 z1 j c nx) (hj : j < 255) (c' : Nat) (nx' : Int) (hc : c' = c + (btw ws z0 z1 j).toNat) (hn : nx' = if bit ws j = true ∧ z0 ≤ j ∧ nx < 0 then (j : Int) else nx) : Seen ws z0 z1 (j + 1) c' nx' := by
  have h0 := h.le
  have h1 := h.lo
  have h2 := h.hi
  refine ⟨by rw [cnt_succ, h.many, hc], fun a ha => ?_, ?_, ?_, ?_⟩
  · rw [nextOf_step, h.first a ha, hn]
    have e : (bit ws j = true ∧ a ≤ j ∧ nx < 0) ↔ (bit ws j = true ∧ z0 ≤ j ∧ nx < 0) := by rw [ha]; simp
    by_cases hh : bit ws j = true ∧ a ≤ j ∧ nx < 0
    · rw [if_pos hh, if_pos (e.1 hh)]
    · rw [if_neg hh, if_neg (fun k => hh (e.2 k))]
  · rw [hc]; cases btw ws z0 z1 j <;> simp <;> omega
  · rw [hn]; split <;> omega
  · rw [hn]; split <;> omega

set_option maxRecDepth 100000 in
set_option maxHeartbeats 4000000 in
theorem plays_near (n : Nat) (A : Option Addr) (c : Nat) (zs : List Int) (z0 z1 : Int) (w : World) (T : Tab w) (h1 : 1 ≤ n) (h2 : n ≤ 255) (hl : zs.length ≤ 100) (hr : Row .i64 w A zs) (hz : ∀ z ∈ zs, -9223372036854775808 ≤ z ∧ z ≤ 9223372036854775807)
    (b0 : -9223372036854775808 ≤ z0 ∧ z0 ≤ 9223372036854775807) (b1 : -9223372036854775808 ≤ z1 ∧ z1 ≤ 9223372036854775807) :
    Calls Tryd.prog 3 #[.int .u8 (n : Int), .slice A zs.length c, .agg #[.int .i64 z0, .int .i64 z1]] w fun e w' => e = .returned (.bool true) ∧ Below w.heap.size w w' := by
  have d1 : decide ((100 : Int) < (zs.length : Int)) = false := by simp; omega
  have d2 : ((n : Int) == 0) = false := by simp; omega
  have hmk := makeB .i64 n h2
  have HT := Lib.hid T
  have HR := Lib.hid hr
  have HZ := Lib.hid hz
  have HB0 := Lib.hid b0
  have HB1 := Lib.hid b1
  clear hr hz T b0 b1
  go_enter Tryd.func3, Tryd.ntmps3
  go_wp2_with fail
  refine (awake_any _).mono ?_
  rintro e w1 ⟨rfl, B1⟩
  have HX1 := Lib.hid ((Lies.new w 23 [.int .i64 z0, .int .i64 z1]).kept B1)
  have HBe1 := Lib.hid (on (below_one w (.cells [.int .i64 z0, .int .i64 z1].toArray 23)) (by simp) B1)
  clear B1
  have q0 := HX1.out.lt
  go_wp2_with fail
  refine (new_yes _ n rfl w1 (by omega) (by omega)).mono ?_
  rintro e w2 ⟨g, gw, rfl, B2, q1, q2, H2⟩
  have HX2 := Lib.hid (HX1.out.kept B2)
  have B3 := Lib.hid (on HBe1.out HBe1.out.size B2)
  have HH3 := Lib.hid H2
  clear B2 H2 HBe1 HX1
  go_wp2_with fail
  refine (size_any HH3.out).mono ?_
  rintro e w3 ⟨rfl, rfl⟩
  obtain ⟨X, hX⟩ : ∃ X : Obj, X = .cells (List.replicate n (Value.bool false)).toArray 4 := ⟨_, rfl⟩
  have HP : Hid (Pl w (w2.alloc X) g gw w2.heap.size n (List.replicate ((n + 63) / 64) 0) z0 z1) := Lib.hid ⟨HH3.out.alloc _, by rw [hX, flags_new]; exact Lies.new w2 4 _, HX2.out.alloc _, on B3.out B3.out.size (below_one _ _)⟩
  have q5 := HX2.out.lt
  have q6 := HH3.out.own.lt
  have q7 := HH3.out.words.lt
  rw [← hX] at hmk
  clear hX HH3 HX2 B3
  go_wp2
  obtain ⟨gi, hgi⟩ : ∃ gi, w2.heap.size = gi := ⟨_, rfl⟩
  rw [hgi] at HP q5 q6 q7 ⊢
  obtain ⟨W3, hW3⟩ : ∃ W3, w2.alloc X = W3 := ⟨_, rfl⟩
  rw [hW3] at HP ⊢
  clear hmk hgi hW3
  go_loopw [62] (fun i wr => ∃ (j : Nat) (ws : List Nat), j ≤ zs.length ∧ i = .int .i64 j ∧ Pl w wr g gw gi n ws z0 z1) (fun i _ => zs.length - (intOf i).toNat)
  case atStart => exact ⟨0, _, Nat.zero_le _, rfl, HP.out⟩
  case round =>
    obtain ⟨j, ws, hj, rfl, H⟩ := hrel
    have HH := Lib.hid H
    clear H HP
    by_cases hjl : j < zs.length
    · obtain ⟨ad, rfl, c0⟩ := (HR.out.kept HH.out.old).at_ hjl
      have hb := HZ.out zs[j] (List.getElem_mem hjl)
      generalize zs[j] = z at c0 hb
      obtain ⟨hb0, hb1⟩ := hb
      by_cases hin : 0 ≤ z ∧ z < n
      · obtain ⟨hi0, hi1⟩ := hin
        obtain ⟨p, rfl⟩ := Int.eq_ofNat_of_zero_le hi0
        have hpn : p < n := by omega
        obtain ⟨b, hbit⟩ : ∃ b, bit ws p = b := ⟨_, rfl⟩
        have HBit := Lib.hid hbit
        have HPL := Lib.hid (HH.out.map.place hpn)
        clear hbit
        go_wp2_with fail
        refine (set_yes HH.out.map p hpn).mono ?_
        rintro e w5 ⟨rfl, H5, E5⟩
        rw [HBit.out]
        have F5 := E5.lies HH.out.flg (by omega) (by omega)
        have f0 : w5.cell? ⟨gi, p, none⟩ = some (.bool b) := by rw [F5.cell p, flags_at ws n p hpn, HBit.out]
        have f1 := F5.frozen p
        have HP5 : Hid (Pl w (w5.setCell ⟨gi, p, none⟩ (.bool true)) g gw gi n (setW ws p) z0 z1) := Lib.hid (by
          refine ⟨H5.of_blocks (Below.heap_setCell _ _ _ _ (by simp; omega)) (Below.heap_setCell _ _ _ _ (by simp; omega)), ?_, (E5.lies HH.out.box (by omega) (by omega)).far (by simp; omega) _, (HH.out.old.trans (HH.out.map.low E5 (by omega) (by omega))).setCell (by simp; omega) _⟩
          have := F5.set p (.bool true)
          rw [flags_set ws n p HPL.out] at this
          exact this)
        clear H5 E5 F5 c0 HH HBit
        have t1 : ¬ (p : Int) < 0 := by omega
        have t2 : ¬ (n : Int) ≤ (p : Int) := by omega
        cases b <;>
        · go_wp2
          exact ⟨⟨j + 1, _, by omega, by go_num, HP5.out⟩, by simp [intOf]; omega⟩
      · go_wp2_with fail
        refine (set_no HH.out.map z (by omega)).mono ?_
        rintro e w5 ⟨rfl, rfl⟩
        have HH' := Lib.hid HH.out
        clear HH c0
        by_cases t1 : z < 0
        · go_wp2
          exact ⟨⟨j + 1, _, by omega, by go_num, HH'.out⟩, by simp [intOf]; omega⟩
        · have t2 : (n : Int) ≤ z := by omega
          go_wp2
          exact ⟨⟨j + 1, _, by omega, by go_num, HH'.out⟩, by simp [intOf]; omega⟩
    · have hj' : j = zs.length := by omega
      subst hj'
      have y0 : wr.cell? ⟨w.heap.size, 0, none⟩ = some (.int .i64 z0) := HH.out.box.cell 0
      clear y0
      go_wp2
      go_loopw [15, 16, 100] (fun cc nn i wr => ∃ (j c : Nat) (nx : Int), j ≤ n ∧ i = .int .i64 j ∧ cc = .int .i64 c ∧ nn = .int .i64 nx ∧ Seen ws z0 z1 j c nx ∧ Pl w wr g gw gi n ws z0 z1) (fun _ _ i _ => n - (intOf i).toNat)
      case atStart => exact ⟨0, 0, -1, Nat.zero_le _, rfl, rfl, rfl, Seen.zero ws z0 z1, HH.out⟩
      case round =>
        obtain ⟨j, c, nx, hj, rfl, rfl, rfl, hseen, H⟩ := hrel
        have HS := Lib.hid hseen
        have HQ := Lib.hid H
        have u0 := hseen.le
        have u1 := hseen.lo
        have u2 := hseen.hi
        have y0 : wr.cell? ⟨w.heap.size, 0, none⟩ = some (.int .i64 z0) := H.box.cell 0
        have y1 : wr.cell? ⟨w.heap.size, 1, none⟩ = some (.int .i64 z1) := H.box.cell 1
        obtain ⟨b00, b01⟩ := HB0.out
        obtain ⟨b10, b11⟩ := HB1.out
        clear hseen HH
        by_cases hjl : j < n
        · have f0 : wr.cell? ⟨gi, j, none⟩ = some (.bool (bit ws j)) := by rw [H.flg.cell j, flags_at ws n j hjl]
          clear H
          obtain ⟨b, hbit⟩ : ∃ b, bit ws j = b := ⟨_, rfl⟩
          rw [hbit] at f0
          have HBit := Lib.hid hbit
          clear hbit
          go_wp2_with fail
          refine (has_yes HQ.out.map j hjl).mono ?_
          rintro e w5 ⟨rfl, m5, rfl⟩
          rw [HBit.out]
          have HQ5 := Lib.hid (HQ.out.drewN m5)
          clear HQ f0 y0 y1
          generalize wr.drewN m5 = w5 at HQ5 ⊢
          have y0 : w5.cell? ⟨w.heap.size, 0, none⟩ = some (.int .i64 z0) := HQ5.out.box.cell 0
          have y1 : w5.cell? ⟨w.heap.size, 1, none⟩ = some (.int .i64 z1) := HQ5.out.box.cell 1
          cases b with
          | false =>
            have HS2 := Lib.hid (HS.out.next (by omega) c nx (by simp [btw, HBit.out]) (by simp [HBit.out]))
            go_wp2
            exact ⟨⟨j + 1, c, nx, by omega, by go_num, rfl, rfl, HS2.out, HQ5.out⟩, by simp [intOf]; omega⟩
          | true =>
            by_cases hu : z0 ≤ (j : Int)
            · by_cases hv : (j : Int) < z1
              · by_cases hs : nx < 0
                · have HS2 := Lib.hid (HS.out.next (by omega) (c + 1) (j : Int) (by simp [btw, HBit.out, hu, hv]) (by simp [HBit.out, hu, hs]))
                  go_wp2
                  exact ⟨⟨j + 1, c + 1, (j : Int), by omega, by go_num, by go_num, rfl, HS2.out, HQ5.out⟩, by simp [intOf]; omega⟩
                · have HS2 := Lib.hid (HS.out.next (by omega) (c + 1) nx (by simp [btw, HBit.out, hu, hv]) (by simp [hs]))
                  go_wp2
                  exact ⟨⟨j + 1, c + 1, nx, by omega, by go_num, by go_num, rfl, HS2.out, HQ5.out⟩, by simp [intOf]; omega⟩
              · by_cases hs : nx < 0
                · have HS2 := Lib.hid (HS.out.next (by omega) c (j : Int) (by simp [btw, hv]) (by simp [HBit.out, hu, hs]))
                  go_wp2
                  exact ⟨⟨j + 1, c, (j : Int), by omega, by go_num, rfl, rfl, HS2.out, HQ5.out⟩, by simp [intOf]; omega⟩
                · have HS2 := Lib.hid (HS.out.next (by omega) c nx (by simp [btw, hv]) (by simp [hs]))
                  go_wp2
                  exact ⟨⟨j + 1, c, nx, by omega, by go_num, rfl, rfl, HS2.out, HQ5.out⟩, by simp [intOf]; omega⟩
            · have HS2 := Lib.hid (HS.out.next (by omega) c nx (by simp [btw, hu]) (by simp [hu]))
              go_wp2
              exact ⟨⟨j + 1, c, nx, by omega, by go_num, rfl, rfl, HS2.out, HQ5.out⟩, by simp [intOf]; omega⟩
        · have hjn : j = n := by omega
          subst hjn
          clear H
          have HTr := Lib.hid (HT.out.kept HQ.out.old)
          by_cases a0 : z0 < 0
          · go_wp2_with fail
            refine (count_no HQ.out.map z0 z1 (Or.inl a0)).mono ?_
            rintro e w6 ⟨rfl, rfl⟩
            go_wp2_with fail
            refine (next_no HQ.out.map z0 (Or.inl a0)).mono ?_
            rintro e w7 ⟨rfl, B7⟩
            have HQ7 := Lib.hid (HQ.out.kept B7)
            have y2 := HQ7.out.x0
            clear B7 HQ y0 y1
            go_wp2
            go_ret
            exact ⟨rfl, HQ7.out.old⟩
          obtain ⟨a, rfl⟩ := Int.eq_ofNat_of_zero_le (show 0 ≤ z0 by omega)
          by_cases a1 : j < a
          · have a1' : (j : Int) < (a : Int) := by omega
            by_cases a2 : z1 < (a : Int)
            · go_wp2_with fail
              refine (count_no HQ.out.map _ z1 (Or.inr (Or.inl a2))).mono ?_
              rintro e w6 ⟨rfl, rfl⟩
              go_wp2_with fail
              refine (next_no HQ.out.map _ (Or.inr a1')).mono ?_
              rintro e w7 ⟨rfl, B7⟩
              have HQ7 := Lib.hid (HQ.out.kept B7)
              have y2 := HQ7.out.x0
              clear B7 HQ y0 y1
              go_wp2
              go_ret
              exact ⟨rfl, HQ7.out.old⟩
            · have a3 : (j : Int) < z1 := by omega
              go_wp2_with fail
              refine (count_no HQ.out.map _ z1 (Or.inr (Or.inr a3))).mono ?_
              rintro e w6 ⟨rfl, rfl⟩
              go_wp2_with fail
              refine (next_no HQ.out.map _ (Or.inr a1')).mono ?_
              rintro e w7 ⟨rfl, B7⟩
              have HQ7 := Lib.hid (HQ.out.kept B7)
              have y2 := HQ7.out.x0
              clear B7 HQ y0 y1
              go_wp2
              go_ret
              exact ⟨rfl, HQ7.out.old⟩
          have a1' : ¬ (j : Int) < (a : Int) := by omega
          by_cases a2 : z1 < (a : Int)
          · cases hs : sets ws a j with
            | nil =>
              have hnx : nx = -1 := by rw [← HS.out.first a rfl, hs]; rfl
              subst hnx
              have HSs := Lib.hid hs
              clear hs
              go_wp2_with fail
              refine (count_no HQ.out.map _ z1 (Or.inr (Or.inl a2))).mono ?_
              rintro e w6 ⟨rfl, rfl⟩
              go_wp2_with fail
              refine (next_none HQ.out.map HTr.out _ a rfl (by omega) HSs.out).mono ?_
              rintro e w7 ⟨rfl, B7⟩
              have HQ7 := Lib.hid (HQ.out.kept B7)
              have y2 := HQ7.out.x0
              clear B7 HQ y0 y1
              go_wp2
              go_ret
              exact ⟨rfl, HQ7.out.old⟩
            | cons x l =>
              have hnx : nx = (x : Int) := by rw [← HS.out.first a rfl, hs]; rfl
              subst hnx
              have HSs := Lib.hid hs
              clear hs
              go_wp2_with fail
              refine (count_no HQ.out.map _ z1 (Or.inr (Or.inl a2))).mono ?_
              rintro e w6 ⟨rfl, rfl⟩
              go_wp2_with fail
              refine (next_some HQ.out.map HTr.out _ a rfl (by omega) x l HSs.out).mono ?_
              rintro e w7 ⟨rfl, B7⟩
              have HQ7 := Lib.hid (HQ.out.kept B7)
              have y2 := HQ7.out.x0
              clear B7 HQ y0 y1
              go_wp2_with fail
              refine (has_no HQ7.out.map (-1) (by omega)).mono ?_
              rintro e w8 ⟨rfl, m8, rfl⟩
              have HQ8 := Lib.hid (HQ7.out.drewN m8)
              clear HQ7 y2
              generalize w7.drewN m8 = w8 at HQ8 ⊢
              go_wp2_with fail
              refine (has_no HQ8.out.map (j : Int) (by omega)).mono ?_
              rintro e w9 ⟨rfl, m9, rfl⟩
              have HQ9 := Lib.hid (HQ8.out.drewN m9)
              clear HQ8
              generalize w8.drewN m9 = w9 at HQ9 ⊢
              go_wp2
              go_ret
              exact ⟨rfl, HQ9.out.old⟩
          by_cases a3 : (j : Int) < z1
          · cases hs : sets ws a j with
            | nil =>
              have hnx : nx = -1 := by rw [← HS.out.first a rfl, hs]; rfl
              subst hnx
              have HSs := Lib.hid hs
              clear hs
              go_wp2_with fail
              refine (count_no HQ.out.map _ z1 (Or.inr (Or.inr a3))).mono ?_
              rintro e w6 ⟨rfl, rfl⟩
              go_wp2_with fail
              refine (next_none HQ.out.map HTr.out _ a rfl (by omega) HSs.out).mono ?_
              rintro e w7 ⟨rfl, B7⟩
              have HQ7 := Lib.hid (HQ.out.kept B7)
              have y2 := HQ7.out.x0
              clear B7 HQ y0 y1
              go_wp2
              go_ret
              exact ⟨rfl, HQ7.out.old⟩
            | cons x l =>
              have hnx : nx = (x : Int) := by rw [← HS.out.first a rfl, hs]; rfl
              subst hnx
              have HSs := Lib.hid hs
              clear hs
              go_wp2_with fail
              refine (count_no HQ.out.map _ z1 (Or.inr (Or.inr a3))).mono ?_
              rintro e w6 ⟨rfl, rfl⟩
              go_wp2_with fail
              refine (next_some HQ.out.map HTr.out _ a rfl (by omega) x l HSs.out).mono ?_
              rintro e w7 ⟨rfl, B7⟩
              have HQ7 := Lib.hid (HQ.out.kept B7)
              have y2 := HQ7.out.x0
              clear B7 HQ y0 y1
              go_wp2_with fail
              refine (has_no HQ7.out.map (-1) (by omega)).mono ?_
              rintro e w8 ⟨rfl, m8, rfl⟩
              have HQ8 := Lib.hid (HQ7.out.drewN m8)
              clear HQ7 y2
              generalize w7.drewN m8 = w8 at HQ8 ⊢
              go_wp2_with fail
              refine (has_no HQ8.out.map (j : Int) (by omega)).mono ?_
              rintro e w9 ⟨rfl, m9, rfl⟩
              have HQ9 := Lib.hid (HQ8.out.drewN m9)
              clear HQ8
              generalize w8.drewN m9 = w9 at HQ9 ⊢
              go_wp2
              go_ret
              exact ⟨rfl, HQ9.out.old⟩
          obtain ⟨b, rfl⟩ := Int.eq_ofNat_of_zero_le (show 0 ≤ z1 by omega)
          have hcs : span (bit ws) a b = c := by rw [← HS.out.many]; exact (btw_span ws a b (by omega) j (by omega)).symm
          have HCs := Lib.hid hcs
          clear hcs
          cases hs : sets ws a j with
          | nil =>
            have hnx : nx = -1 := by rw [← HS.out.first a rfl, hs]; rfl
            subst hnx
            have HSs := Lib.hid hs
            clear hs
            go_wp2_with fail
            refine (count_int HQ.out.map _ _ a b c rfl rfl (by omega) (by omega) HCs.out).mono ?_
            rintro e w6 ⟨rfl, rfl⟩
            go_wp2_with fail
            refine (next_none HQ.out.map HTr.out _ a rfl (by omega) HSs.out).mono ?_
            rintro e w7 ⟨rfl, B7⟩
            have HQ7 := Lib.hid (HQ.out.kept B7)
            have y2 := HQ7.out.x0
            clear B7 HQ y0 y1
            go_wp2
            go_ret
            exact ⟨rfl, HQ7.out.old⟩
          | cons x l =>
            have hnx : nx = (x : Int) := by rw [← HS.out.first a rfl, hs]; rfl
            subst hnx
            have HSs := Lib.hid hs
            clear hs
            go_wp2_with fail
            refine (count_int HQ.out.map _ _ a b c rfl rfl (by omega) (by omega) HCs.out).mono ?_
            rintro e w6 ⟨rfl, rfl⟩
            go_wp2_with fail
            refine (next_some HQ.out.map HTr.out _ a rfl (by omega) x l HSs.out).mono ?_
            rintro e w7 ⟨rfl, B7⟩
            have HQ7 := Lib.hid (HQ.out.kept B7)
            have y2 := HQ7.out.x0
            clear B7 HQ y0 y1
            go_wp2_with fail
            refine (has_no HQ7.out.map (-1) (by omega)).mono ?_
            rintro e w8 ⟨rfl, m8, rfl⟩
            have HQ8 := Lib.hid (HQ7.out.drewN m8)
            clear HQ7 y2
            generalize w7.drewN m8 = w8 at HQ8 ⊢
            go_wp2_with fail
            refine (has_no HQ8.out.map (j : Int) (by omega)).mono ?_
            rintro e w9 ⟨rfl, m9, rfl⟩
            have HQ9 := Lib.hid (HQ8.out.drewN m9)
            clear HQ8
            generalize w8.drewN m9 = w9 at HQ9 ⊢
            go_wp2
            go_ret
            exact ⟨rfl, HQ9.out.old⟩

theorem plays_walk (s : Int) (hs : 0 ≤ s ∧ s ≤ 255) (A : Option Addr) (l c : Nat) (z0 z1 : Int) (hb : (-9223372036854775808 ≤ z0 ∧ z0 ≤ 9223372036854775807) ∧ (-9223372036854775808 ≤ z1 ∧ z1 ≤ 9223372036854775807)) (w : World) (T : Tab w) (hr : ∃ zs, Came .i64 w A l zs) :
    Calls Tryd.prog 3 #[.int .u8 s, .slice A l c, .agg #[.int .i64 z0, .int .i64 z1]] w fun e w' => e = .returned (.bool true) ∧ Below w.heap.size w w' := by
  obtain ⟨zs, rfl, h1, h2⟩ := hr
  by_cases h : 100 < zs.length
  · exact plays_far s A c _ z0 z1 w hs h
  · obtain ⟨n, rfl⟩ := Int.eq_ofNat_of_zero_le hs.1
    by_cases hn : n = 0
    · subst hn
      exact plays_zero A c _ z0 z1 w (by omega)
    · exact plays_near n A c zs z0 z1 w T (by omega) (by omega) (by omega) h1 h2 hb.1 hb.2
end Go.Proofs.YtiomiaciaefbaaaDoor
