/- DequeShared: a step, and what it leaves; how many steps are left of a call. -/
import Derived.Test.YteaffpkmidaghaaThM
import Derived.Maps.RangeWalk
import Derived.Maps.OwnOps
namespace Go.Proofs.Yteaffpkmidaghaa
open Go.RowKit Go.Maps
set_option linter.unusedVariables false
set_option linter.unusedSimpArgs false

/-- At most so many steps are left. -/
def ranks : List (Nat × Nat) := [(25, 3), (33, 2), (38, 1), (26, 7), (34, 6), (39, 5), (45, 4), (49, 3), (54, 2), (53, 1), (27, 4), (35, 3), (40, 2), (46, 1)]
def rank (n : Nat) : Nat := match ranks.find? (fun p => p.1 == n) with
  | some p => p.2
  | none => 0
theorem rank_le (n : Nat) : rank n ≤ 7 := by
  unfold rank
  split
  · next p hp =>
    have : ∀ p ∈ ranks, p.2 ≤ 7 := by decide
    exact this p (List.mem_of_find?_eq_some hp)
  · omega
theorem rank_two {a : Cl} {b : Nat} (x y : Nat) (h1 : a.nx = x) (h2 : b = y) (h : rank x < rank y) : rank a.nx < rank b := by rw [h1, h2]; exact h
set_option maxHeartbeats 1000000 in
theorem rank_step {zs : List Int} {c : Cl} (f : Fit zs c) : rank (stepF zs c).1.nx < rank c.nx := by
  rcases f.known with e | e | e | e | e | e | e | e | e | e | e | e | e | e
  · by_cases hc : (zs.length : Int) - 2 ≤ zs.getD 0 0
    · exact rank_two 0 25 (by simp only [stepF, e, if_pos hc]; rfl) e (by decide)
    · exact rank_two 33 25 (by simp only [stepF, e, if_neg hc]; rfl) e (by decide)
  · exact rank_two 38 33 (by simp only [stepF, e]; rfl) e (by decide)
  · exact rank_two 0 38 (by simp only [stepF, e]; rfl) e (by decide)
  · by_cases hc : zs.getD 0 0 = 0
    · exact rank_two 0 26 (by simp only [stepF, e, if_pos hc]; rfl) e (by decide)
    · exact rank_two 34 26 (by simp only [stepF, e, if_neg hc]; rfl) e (by decide)
  · exact rank_two 39 34 (by simp only [stepF, e]; rfl) e (by decide)
  · exact rank_two 45 39 (by simp only [stepF, e]; rfl) e (by decide)
  · by_cases hc : zs.getD 1 0 % 4096 < c.place
    · exact rank_two 0 45 (by simp only [stepF, e, if_pos hc]; rfl) e (by decide)
    · exact rank_two 49 45 (by simp only [stepF, e, if_neg hc]; rfl) e (by decide)
  · by_cases hc : c.place = c.top % 4096
    · exact rank_two 54 49 (by simp only [stepF, e, if_pos hc]; rfl) e (by decide)
    · exact rank_two 53 49 (by simp only [stepF, e, if_neg hc]; rfl) e (by decide)
  · by_cases hc : zs.getD 1 0 = c.top
    · exact rank_two 0 54 (by simp only [stepF, e, if_pos hc]; rfl) e (by decide)
    · exact rank_two 53 54 (by simp only [stepF, e, if_neg hc]; rfl) e (by decide)
  · exact rank_two 0 53 (by simp only [stepF, e]; rfl) e (by decide)
  · exact rank_two 35 27 (by simp only [stepF, e]; rfl) e (by decide)
  · by_cases hc : zs.getD 0 0 ≤ c.place
    · exact rank_two 0 35 (by simp only [stepF, e, if_pos hc]; rfl) e (by decide)
    · exact rank_two 40 35 (by simp only [stepF, e, if_neg hc]; rfl) e (by decide)
  · exact rank_two 46 40 (by simp only [stepF, e]; rfl) e (by decide)
  · by_cases hc : zs.getD 1 0 = c.top
    · exact rank_two 0 46 (by simp only [stepF, e, if_pos hc]; rfl) e (by decide)
    · exact rank_two 0 46 (by simp only [stepF, e, if_neg hc]; rfl) e (by decide)
theorem rank_pos {zs : List Int} {c : Cl} (f : Fit zs c) : 0 < rank c.nx := by
  have := rank_step f; omega

/-- What a step of a call leaves, block by block. -/
def KeptB (w w' : World) (gc g gw : Nat) : Prop := w.heap.size ≤ w'.heap.size ∧ ∀ k, k < w.heap.size → k ≠ gc → k ≠ g → k ≠ gw → (∀ cs, ¬ Lies w k 70 cs) → w'.heap[k]? = w.heap[k]?

section
variable {w0 w w' : World} {gd g gw ba : Nat} {ty : TypeId} {own n t tag hi : Nat} {row : List Int} {oc : Option Cl} {cs : List (Option (Nat × Cl))} {k : Nat} {i gc : Nat} {cl : Cl}
theorem Dn.keptB {base : Nat} {A : Option Addr} {c : Nat} {zs zs' : List Int} {ts ts' : List Tc} (h : At w base g gw zs A c ts) (d : Dn w w' base gc g gw A zs' ts' cl) : KeptB w w' gc g gw := by
  obtain ⟨_, _, _, _, e, _⟩ := d
  refine ⟨e.size, fun k hk h0 h1 h2 h3 => e.block k hk h0 h1 h2 (fun e' => ?_)⟩
  obtain ⟨cs, hl⟩ := h.row_lies e'.symm
  exact h3 cs hl

theorem thief_anyb (h : Conc w0 w gd g gw ba ty own n t tag hi row oc cs k) (hc : cs[i]? = some (some (gc, cl))) (ho : own ≤ i) (hn : cl.nx ≠ 0) (hk : k ≤ 1000) :
    Calls Try.prog 19 #[.pointer (some ⟨gc, 0, none⟩)] w fun e w' => ∃ cl' t' row', e = .returned (.bool (decide (cl'.nx = 0))) ∧ Conc w0 w' gd g gw ba ty own n t' tag hi row' oc (cs.set i (some (gc, cl'))) (k + 1) ∧ ThOut cl' row row' ∧ KeptB w w' gc g gw ∧ rank cl'.nx < rank cl.nx := by
  obtain ⟨zs, A, c, ts, H, hts⟩ := h
  have hth := H.th i gc cl ho hc
  have L := H.call i gc cl hc
  obtain ⟨t', row', s', ht', hd', hout⟩ := thief_step H.sh hth hn
  refine (step_any H.dq.at_ L.1 (by omega) (th_fit H.sh hth hn)).mono ?_
  rintro e w' ⟨rfl, tc, D⟩
  exact ⟨_, t', row', rfl, conc_after H hc D s' (fun _ => ht') hd' (by simp; omega), hout, D.keptB H.dq.at_, rank_step (th_fit H.sh hth hn)⟩
theorem owner_anyb (h : Conc w0 w gd g gw ba ty own n t tag hi row (some cl) cs k) (hc : cs[i]? = some (some (gc, cl))) (ho : i < own) (hg : tag < 100000) (hk : k ≤ 1000) :
    Calls Try.prog 19 #[.pointer (some ⟨gc, 0, none⟩)] w fun e w' => ∃ cl' t' tag' hi' row', e = .returned (.bool (decide (cl'.nx = 0))) ∧ Conc w0 w' gd g gw ba ty own n t' tag' hi' row' (still cl') (cs.set i (some (gc, cl'))) (k + 1) ∧ tag' ≤ tag + 1 ∧ OwnOut cl cl' row row' ∧ KeptB w w' gc g gw ∧ rank cl'.nx < rank cl.nx := by
  obtain ⟨zs, A, c, ts, H, hts⟩ := h
  have L := H.call i gc cl hc
  obtain ⟨t', tag', hi', row', s', htag, hd', hout⟩ := owner_step H.sh hg
  refine (step_any H.dq.at_ L.1 (by omega) (own_fit H.sh)).mono ?_
  rintro e w' ⟨rfl, tc, D⟩
  exact ⟨_, t', tag', hi', row', rfl, conc_after H hc D s' (fun h => by omega) hd' (by simp; omega), htag, hout, D.keptB H.dq.at_, rank_step (own_fit H.sh)⟩
theorem Conc.rank_pos_th (h : Conc w0 w gd g gw ba ty own n t tag hi row oc cs k) (hc : cs[i]? = some (some (gc, cl))) (ho : own ≤ i) (hn : cl.nx ≠ 0) : 0 < rank cl.nx := by
  obtain ⟨zs, A, c, ts, H, hts⟩ := h
  exact rank_pos (th_fit H.sh (H.th i gc cl ho hc) hn)
theorem Conc.rank_pos_own (h : Conc w0 w gd g gw ba ty own n t tag hi row (some cl) cs k) : 0 < rank cl.nx := by
  obtain ⟨zs, A, c, ts, H, hts⟩ := h
  exact rank_pos (own_fit H.sh)
theorem Conc.not_cells (h : Conc w0 w gd g gw ba ty own n t tag hi row oc cs k) {b : Nat} (hb : ∀ t cs, ¬ Lies w b t cs) : b ≠ gd ∧ b ≠ g ∧ b ≠ gw ∧ b ≠ ba := by
  obtain ⟨zs, A, c, ts, H, hts⟩ := h
  exact ⟨fun e => hb _ _ (e ▸ H.dq.own), fun e => hb _ _ (e ▸ H.dq.at_.own), fun e => hb _ _ (e ▸ H.dq.at_.words), fun e => hb _ _ (e ▸ H.arr)⟩
/-- A block that isn't of the deque's, or of its calls', may turn. -/
theorem Conc.only (h : Conc w0 w gd g gw ba ty own n t tag hi row oc cs k) {b : Nat} (O : Only b w w') (h1 : b ≠ gd) (h2 : b ≠ g) (h3 : b ≠ gw) (h4 : b ≠ ba) (h5 : ∀ cs, ¬ Lies w b 70 cs) (h6 : ∀ cs, ¬ Lies w b 58 cs) (lo : w0.heap.size ≤ b) : Conc w0 w' gd g gw ba ty own n t tag hi row oc cs k := by
  obtain ⟨zs, A, c, ts, H, hk⟩ := h
  have hrow : some b ≠ blk A := fun e => by obtain ⟨cs, hl⟩ := H.dq.at_.row_lies e.symm; exact h5 cs hl
  refine ⟨zs, A, c, ts, ⟨⟨H.dq.at_.only O h2 h3 hrow, O.lies H.dq.own h1.symm, H.dq.lo⟩, H.sh, O.lies H.arr h4.symm, fun i gc cl e => ?_, H.apart, H.th, ?_, H.lo, H.ty_⟩, hk⟩
  · have := H.call i gc cl e
    exact ⟨O.lies this.1 (fun e' => h6 _ (e' ▸ this.1)), this.2⟩
  · exact H.below.trans ⟨O.os, O.tape, O.output, O.size, fun i hi => O.block i (Nat.lt_of_lt_of_le hi H.below.size) (by omega)⟩
end

/-- What a map tells. -/
def Tells (D : DataW Unit) (f : Int → Int) : Prop := IsMap D ∧ ∀ x : Int, D.atKey (.int .i64 x) (.lit (.int .i64 0)) = .lit (.int .i64 (f x))
theorem Tells.empty : Tells (.map []) (fun _ => 0) := ⟨isMap_empty, fun x => rfl⟩
theorem Tells.put {D : DataW Unit} {f : Int → Int} (h : Tells D f) (x v : Int) : Tells (D.put (.int .i64 x) (.lit (.int .i64 v))) (fun y => if y = x then v else f y) := by
  refine ⟨h.1.put _ _, fun y => ?_⟩
  by_cases e : y = x
  · subst e
    show _ = DataW.lit (Lit.int .i64 (if y = y then v else f y))
    rw [if_pos rfl]; exact atKey_put_same (k := .int .i64 y) h.1 (by trivial) _ _
  · show _ = DataW.lit (Lit.int .i64 (if y = x then v else f y))
    rw [if_neg e]
    rw [atKey_put_other (fun e' => e (by injection e')) _ _]
    exact h.2 y
theorem law3 : Keyed Try.prog 3 := int_keyed Try.underlying3
theorem zero3 (w : World) : (zeroValue 3).run Try.prog w = .ok (.int .i64 0) w := by kernel_rfl
theorem key3 (x : Int) (h : -9223372036854775808 ≤ x ∧ x ≤ 9223372036854775807) : keyOf Try.prog 3 (.int .i64 x) = some (.int .i64 x) := keyOf_int_mk Try.underlying3 (by have := h.1; have := h.2; simp [Lit.wf]; exact h)
end Go.Proofs.Yteaffpkmidaghaa
