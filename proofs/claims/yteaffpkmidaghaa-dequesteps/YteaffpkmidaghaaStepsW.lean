/- DequeSteps. -/
import Derived.Test.YteaffpkmidaghaaSq
import Derived.Deep.CutBlock
namespace Go.Proofs.Yteaffpkmidaghaa
open Go.RowKit
set_option linter.unusedVariables false
set_option linter.unusedSimpArgs false

section
variable {zs : List Int} {n t tag : Nat} {row : List Int}
/-- What is left of a call: so many steps. -/
def Left (m : Nat) (zs : List Int) (c : Cl) (zs' : List Int) (c' : Cl) : Prop := (m = 0 ∧ zs = zs' ∧ c = c' ∧ c.nx = 0) ∨ Runs m zs c zs' c'
theorem Runs.nx {m : Nat} {zs zs' : List Int} {c c' : Cl} (r : Runs m zs c zs' c') : c.nx ≠ 0 := by
  have := r.fit.known
  omega
/-- Whatever call is begun, it ends, and nobody has a call then. -/
def Ends (most : Nat) (zs : List Int) (cl : Cl) (n tag : Nat) : Prop := ∃ m zs' cl' t' tag' row', m ≤ most ∧ Runs m zs cl zs' cl' ∧ Q zs' n t' tag' row' ∧ tag' ≤ tag + 1
theorem push_ends (q : Q zs n t tag row) (x : Int) : Ends 3 zs ⟨0, 25, 0, 0, x, 0⟩ n tag := by
  by_cases h : t + row.length < n
  · obtain ⟨zs', cl', r, _, q'⟩ := push_ok q h x
    exact ⟨3, zs', cl', t, tag, _, by omega, r, q', by omega⟩
  · obtain ⟨cl', r, _⟩ := push_full q (by have := q.fits; omega) x
    exact ⟨1, zs, cl', t, tag, _, by omega, r, q, by omega⟩
theorem pop_ends (q : Q zs n t tag row) (hg : tag < 100000) : Ends 7 zs ⟨0, 26, 0, 0, 0, 0⟩ n tag := by
  rcases List.eq_nil_or_concat row with rfl | ⟨r, y, rfl⟩
  · by_cases h0 : t = 0
    · subst h0
      obtain ⟨cl', r, _⟩ := pop_zero q
      exact ⟨1, zs, cl', 0, tag, _, by omega, r, q, by omega⟩
    · obtain ⟨zs', cl', r, _, _, q'⟩ := pop_none q (by omega) hg
      exact ⟨6, zs', cl', 0, tag + 1, _, by omega, r, q', by omega⟩
  · rw [List.concat_eq_append] at q
    by_cases h0 : r = []
    · subst h0
      obtain ⟨zs', cl', r, _, _, q'⟩ := pop_last (y := y) (by simpa using q) hg
      exact ⟨6, zs', cl', 0, tag + 1, _, by omega, r, q', by omega⟩
    · obtain ⟨zs', cl', r, _, _, q'⟩ := pop_one q (by have := List.length_pos_iff.2 h0; omega)
      exact ⟨4, zs', cl', t, tag, _, by omega, r, q', by omega⟩
theorem steal_ends (q : Q zs n t tag row) (k : Int) (hk : 0 ≤ k ∧ k < 64) : Ends 4 zs ⟨k, 27, 0, 0, 0, 0⟩ n tag := by
  cases row with
  | nil =>
    obtain ⟨cl', r, _⟩ := steal_none q k hk
    exact ⟨2, zs, cl', t, tag, _, by omega, r, q, by omega⟩
  | cons y r =>
    obtain ⟨zs', cl', r, _, _, q'⟩ := steal_one q k hk
    exact ⟨4, zs', cl', t + 1, tag, _, by omega, r, q', by omega⟩
end

/-- A call that goes on: what is left of it, and how many touches there are. -/
def Going (w0 w : World) (gd g gw gc : Nat) (zs' : List Int) (cl' : Cl) (m k : Nat) (over : Bool) : Prop :=
  ∃ A c zs ts cl, Dq w w0.heap.size gd g gw zs A c ts ∧ Lies w gc 58 (cl.cells g) ∧ Left m zs cl zs' cl' ∧ ts.length = k ∧ Below w0.heap.size w0 w ∧ w0.heap.size ≤ gc ∧ gd ≠ gc ∧ over = decide (cl.nx = 0)

section
variable {w0 w w' : World} {gd g gw gc m k : Nat} {zs' : List Int} {cl' : Cl} {over : Bool}
theorem Going.kept (h : Going w0 w gd g gw gc zs' cl' m k over) (b : Below w.heap.size w w') : Going w0 w' gd g gw gc zs' cl' m k over := by
  obtain ⟨A, c, zs, ts, cl, H, L, l, hk, B, lo, ne, ho⟩ := h
  exact ⟨A, c, zs, ts, cl, H.kept b, L.kept b, l, hk, on B B.size b, lo, ne, ho⟩
theorem Going.own (h : Going w0 w gd g gw gc zs' cl' m k over) : Lies w gd 55 [.pointer (some ⟨g, 0, none⟩)] := by
  obtain ⟨A, c, zs, ts, cl, H, L, l, hk, B, lo, ne, ho⟩ := h
  exact H.own
theorem going_log (h : Going w0 w gd g gw gc zs' cl' m k over) (hk : k ≤ 1000) : Calls Try.prog 23 #[.pointer (some ⟨g, 0, none⟩)] w fun e w' => ∃ q, e = .returned (.slice (some ⟨q, 0, none⟩) k k) ∧ Going w0 w' gd g gw gc zs' cl' m k over := by
  have h' := h
  obtain ⟨A, c, zs, ts, cl, H, L, l, rfl, B, lo, ne, ho⟩ := h'
  exact (log_q H.at_ hk).mono fun e w' ⟨q, he, _, _, b⟩ => ⟨q, he, h.kept b⟩
theorem going_done (h : Going w0 w gd g gw gc zs' cl' m k over) : Calls Try.prog 22 #[.pointer (some ⟨gc, 0, none⟩)] w fun e w' => e = .returned (.bool over) ∧ w = w' := by
  obtain ⟨A, c, zs, ts, cl, H, L, l, hk, B, lo, ne, ho⟩ := h
  rw [ho]
  exact done_any L
theorem going_step (h : Going w0 w gd g gw gc zs' cl' m k false) (hk : k ≤ 1000) : Calls Try.prog 19 #[.pointer (some ⟨gc, 0, none⟩)] w fun e w' => ∃ b m', e = .returned (.bool b) ∧ m = m' + 1 ∧ Going w0 w' gd g gw gc zs' cl' m' (k + 1) b := by
  obtain ⟨A, c, zs, ts, cl, H, L, l, rfl, B, lo, ne, ho⟩ := h
  have hnx : cl.nx ≠ 0 := by simpa using ho
  rcases l with ⟨_, _, _, h0⟩ | r
  · exact absurd h0 hnx
  · refine (step_any H.at_ L hk r.fit).mono ?_
    rintro e w' ⟨rfl, t, D⟩
    have hlow := D.low H.at_ lo
    have ho' := D.lies58 H.at_ H.own ne (by decide) (by decide) (by decide)
    obtain ⟨A', c', H', L', _⟩ := D
    rcases r.two with ⟨rfl, hz, rfl, rfl⟩ | ⟨m', rfl, hz, r2⟩
    · exact ⟨_, 0, rfl, rfl, A', c', _, _, _, ⟨H', ho', H.lo⟩, L', Or.inl ⟨rfl, rfl, rfl, hz⟩, by simp, B.trans hlow, lo, ne, rfl⟩
    · exact ⟨_, m', rfl, rfl, A', c', _, _, _, ⟨H', ho', H.lo⟩, L', Or.inr r2, by simp, B.trans hlow, lo, ne, rfl⟩
theorem going_over (h : Going w0 w gd g gw gc zs' cl' m k true) : Calls Try.prog 19 #[.pointer (some ⟨gc, 0, none⟩)] w fun e w' => e = .returned (.bool true) ∧ w = w' := by
  obtain ⟨A, c, zs, ts, cl, H, L, l, hk, B, lo, ne, ho⟩ := h
  exact step_over L (by simpa using ho)
theorem going_end {n t tag : Nat} {row : List Int} (h : Going w0 w gd g gw gc zs' cl' m k true) (q : Q zs' n t tag row) : Sq w0 w gd g gw n t tag row k := by
  obtain ⟨A, c, zs, ts, cl, H, L, l, hk, B, lo, ne, ho⟩ := h
  have hnx : cl.nx = 0 := by simpa using ho
  rcases l with ⟨_, rfl, _, _⟩ | r
  · exact ⟨A, c, zs, ts, H, q, by omega, B⟩
  · exact absurd hnx r.nx
theorem Begun.going {n t tag : Nat} {row : List Int} {cl : Cl} {most : Nat} (b : Begun w0 w gd g gw gc n t tag row k cl) (e : ∀ zs, Q zs n t tag row → Ends most zs cl n tag) :
    ∃ zs' cl' m k' t' tag' row', Going w0 w gd g gw gc zs' cl' m k' false ∧ m ≤ most ∧ k' ≤ k ∧ Q zs' n t' tag' row' ∧ tag' ≤ tag + 1 := by
  obtain ⟨A, c, zs, ts, H, q, hk, B, L, lo, ne⟩ := b
  obtain ⟨m, zs', cl', t', tag', row', hm, r, q', ht⟩ := e zs q
  exact ⟨zs', cl', m, ts.length, t', tag', row', ⟨A, c, zs, ts, cl, H, L, Or.inr r, rfl, B, lo, ne, by simp [r.nx]⟩, hm, hk, q', ht⟩
end

set_option maxHeartbeats 1000000 in
theorem steps_far (A : Option Addr) (c : Nat) (l : Nat) (w : World) (hl : 80 < l) : Calls Try.prog 6 #[.slice A l c] w fun e w' => e = .returned (.bool true) ∧ Below w.heap.size w w' := by
  have d1 : decide ((80 : Int) < (l : Int)) = true := by simp; omega
  go_enter Try.func6, Try.ntmps6
  go_wp2_with fail
  refine (awake_any _).mono ?_
  rintro e w1 ⟨rfl, B1⟩
  go_wp2_with fail
  refine (awake_any _).mono ?_
  rintro e w2 ⟨rfl, B2⟩
  have HB := Lib.hid (on B1 B1.size B2)
  clear B1 B2
  go_wp2
  go_ret
  exact ⟨rfl, HB.out⟩

set_option maxRecDepth 100000 in
set_option maxHeartbeats 8000000 in
theorem steps_near (A : Option Addr) (c : Nat) (xs : List Int) (w : World) (hl : xs.length ≤ 80) (hr : Row .u8 w A xs) (hz : ∀ z ∈ xs, 0 ≤ z ∧ z ≤ 255) :
    Calls Try.prog 6 #[.slice A xs.length c] w fun e w' => e = .returned (.bool true) ∧ Below w.heap.size w w' := by
  have d1 : decide ((80 : Int) < (xs.length : Int)) = false := by simp; omega
  have n1 := nil31
  have n2 := nil24
  have HR := Lib.hid hr
  have HZ := Lib.hid hz
  clear hr hz
  go_enter Try.func6, Try.ntmps6
  go_wp2_with fail
  refine (awake_any _).mono ?_
  rintro e w1 ⟨rfl, B1⟩
  have HB1 := Lib.hid B1
  clear B1
  go_wp2_with fail
  refine (sq_new 5 5 rfl w w1 HB1.out (by omega) (by omega)).mono ?_
  rintro e w2 ⟨gd, g, gw, rfl, S2⟩
  have HS2 := Lib.hid S2
  clear S2
  go_wp2_with fail
  go_loopw [33] (fun i wr => ∃ (j t tag : Nat) (row : List Int), j ≤ xs.length ∧ i = .int .i64 j ∧ tag ≤ j ∧ Sq w wr gd g gw 5 t tag row (7 * j)) (fun i _ => xs.length - (intOf i).toNat)
  case atStart => exact ⟨0, 0, 0, [], Nat.zero_le _, rfl, by omega, HS2.out⟩
  case round =>
    obtain ⟨j, t, tag, row, hj, rfl, htag, S⟩ := hrel
    have HS := Lib.hid S
    clear S HS2
    by_cases hjl : j < xs.length
    · obtain ⟨ad, rfl, c0⟩ := (HR.out.kept HS.out.below).at_ hjl
      have hb := HZ.out xs[j] (List.getElem_mem hjl)
      generalize xs[j] = a at c0 hb
      obtain ⟨hb0, hb1⟩ := hb
      have j0 : (0 : Int) ≤ (j : Int) := by omega
      have j1 : (j : Int) < (xs.length : Int) := by omega
      go_upto_block 2 with fail
      go_cut [7, 8] from 34 to 104 (fun v7 v8 wx => ∃ (gc most m k' t' tag' : Nat) (zs' row' : List Int) (cl' : Cl), v7 = .pointer (some ⟨gc, 0, none⟩) ∧ v8 = .int .i64 most ∧ most ≤ 7 ∧ m ≤ most ∧ k' ≤ 7 * j ∧ Going w wx gd g gw gc zs' cl' m k' false ∧ Q zs' 5 t' tag' row' ∧ tag' ≤ tag + 1)
      case first =>
        have hcase : a % 3 = 0 ∨ a % 3 = 1 ∨ a % 3 = 2 := by omega
        rcases hcase with h3 | h3 | h3
        · go_wp2_with fail
          refine (sq_push HS.out _).mono ?_
          rintro e w3 ⟨gc, rfl, b3⟩
          obtain ⟨zs', cl', m, k', t', tag', row', G, hm, hk, q, ht⟩ := b3.going (most := 3) (fun zs q => push_ends q _)
          have HG := Lib.hid G
          clear b3 G
          go_wp2
          all_goals go_meet
          all_goals exact ⟨gc, 3, m, k', t', tag', zs', row', cl', rfl, rfl, by omega, hm, hk, HG.out, q, ht⟩
        · go_wp2_with fail
          refine (sq_pop HS.out).mono ?_
          rintro e w3 ⟨gc, rfl, b3⟩
          obtain ⟨zs', cl', m, k', t', tag', row', G, hm, hk, q, ht⟩ := b3.going (most := 7) (fun zs q => pop_ends q (by omega))
          have HG := Lib.hid G
          clear b3 G
          go_wp2
          all_goals go_meet
          all_goals exact ⟨gc, 7, m, k', t', tag', zs', row', cl', rfl, rfl, by omega, hm, hk, HG.out, q, ht⟩
        · go_wp2_with fail
          refine (sq_steal HS.out (1 + a % 63) (by omega) (by omega)).mono ?_
          rintro e w3 ⟨gc, rfl, b3⟩
          obtain ⟨zs', cl', m, k', t', tag', row', G, hm, hk, q, ht⟩ := b3.going (most := 4) (fun zs q => steal_ends q _ (by omega))
          have HG := Lib.hid G
          clear b3 G
          go_wp2
          all_goals go_meet
          all_goals exact ⟨gc, 4, m, k', t', tag', zs', row', cl', rfl, rfl, by omega, hm, hk, HG.out, q, ht⟩
      case rest =>
        obtain ⟨gc, most, m, k', t', tag', zs', row', cl', rfl, rfl, hmost, hm, hk', G, q', htag'⟩ := hcut
        have HG := Lib.hid G
        have HQ := Lib.hid q'
        clear G q'
        go_wp2_with fail
        go_loopw [9] (fun v9 wi => ∃ (i m' : Nat) (over : Bool), v9 = .int .i64 i ∧ i + m' = m ∧ Going w wi gd g gw gc zs' cl' m' (k' + i) over) (fun v9 _ => 8 - (intOf v9).toNat)
        case atStart => exact ⟨0, m, false, rfl, by omega, HG.out⟩
        case round =>
          obtain ⟨i, m', over, rfl, hi, G⟩ := hrel
          have HGi := Lib.hid G
          clear G HG
          go_wp2_with fail
          refine (going_done HGi.out).mono ?_
          rintro e w4 ⟨rfl, rfl⟩
          cases over with
          | false =>
            go_wp2_with fail
            refine (cells_any HGi.out.own).mono ?_
            rintro e w5 ⟨rfl, rfl⟩
            go_wp2_with fail
            refine (going_log HGi.out (by omega)).mono ?_
            rintro e w5 ⟨q5, rfl, G5⟩
            have HG5 := Lib.hid G5
            clear G5
            go_wp2_with fail
            refine (going_step HG5.out (by omega)).mono ?_
            rintro e w6 ⟨b6, m6, rfl, hm6, G6⟩
            have HG6 := Lib.hid G6
            clear G6
            go_wp2_with fail
            refine (cells_any HG6.out.own).mono ?_
            rintro e w7 ⟨rfl, rfl⟩
            go_wp2_with fail
            refine (going_log HG6.out (by omega)).mono ?_
            rintro e w7 ⟨q7, rfl, G7⟩
            have HG7 := Lib.hid G7
            clear G7
            have e7 : ((k' + i + 1 : Nat) : Int) = ((k' + i : Nat) : Int) + 1 := by omega
            go_wp2_with fail
            refine (going_done HG7.out).mono ?_
            rintro e w8 ⟨rfl, rfl⟩
            have d8 : decide ((most : Int) < (i : Int) + 1) = false := by simp; omega
            cases b6 with
            | false =>
              go_wp2
              exact ⟨⟨i + 1, m6, false, by go_num, by omega, HG7.out⟩, by simp [intOf]; omega⟩
            | true =>
              go_wp2
              exact ⟨⟨i + 1, m6, true, by go_num, by omega, HG7.out⟩, by simp [intOf]; omega⟩
          | true =>
            go_wp2_with fail
            refine (cells_any HGi.out.own).mono ?_
            rintro e w5 ⟨rfl, rfl⟩
            go_wp2_with fail
            refine (going_log HGi.out (by omega)).mono ?_
            rintro e w5 ⟨q5, rfl, G5⟩
            have HG5 := Lib.hid G5
            clear G5
            go_wp2_with fail
            refine (going_over HG5.out).mono ?_
            rintro e w6 ⟨rfl, rfl⟩
            go_wp2_with fail
            refine (cells_any HG5.out.own).mono ?_
            rintro e w7 ⟨rfl, rfl⟩
            go_wp2_with fail
            refine (going_log HG5.out (by omega)).mono ?_
            rintro e w7 ⟨q7, rfl, G7⟩
            have HG7 := Lib.hid G7
            clear G7
            go_wp2
            exact ⟨⟨j + 1, t', tag', row', by omega, by go_num, by omega, (going_end HG7.out HQ.out).more (by omega)⟩, by simp [intOf]; omega⟩
    · have hj' : j = xs.length := by omega
      subst hj'
      go_wp2
      go_ret
      exact ⟨rfl, HS.out.below⟩

theorem steps_walk (A : Option Addr) (len cap : Nat) (w : World) (h : ∃ xs, Came .u8 w A len xs) : Calls Try.prog 6 #[.slice A len cap] w fun e w' => e = .returned (.bool true) ∧ Below w.heap.size w w' := by
  obtain ⟨xs, rfl, hr, hz⟩ := h
  by_cases hl : 80 < xs.length
  · exact steps_far A cap _ w hl
  · exact steps_near A cap xs w (by omega) hr hz
end Go.Proofs.Yteaffpkmidaghaa
