/- The small calls on regions, on a heap, on a map. What stays in a region, of a list of objects: plain facts. -/
import Derived.Test.YtklhdilbmpndkaaGreatJc
namespace Go.Proofs.YtklhdilbmpndkaaGreat
set_option maxRecDepth 20000
open Go.RowKit
set_option linter.unusedVariables false
set_option linter.unusedSimpArgs false

theorem has_any {w : World} {g gw n : Nat} {ws : List Nat} (h : Mk.At w g gw n ws) (p : Nat) : Calls Tryz.prog 46 #[.pointer (some ⟨g, 0, none⟩), .int .i64 (p : Nat)] w fun e w' => e = .returned (.bool (Mk.bit ws p)) ∧ ∃ k, w' = w.drewN k := by
  by_cases hp : p < n
  · exact Mk.has_yes h p hp
  · have e : Mk.bit ws p = false := by
      cases hb : Mk.bit ws p with
      | false => rfl
      | true => exact absurd (h.in_ p hb) hp
    rw [e]
    exact Mk.has_no h (p : Int) (.inr (by omega))

/-- Regions, as a value. -/
def rv (Wd : Nat) (q K T : Nat) : Value := .agg #[.int .i64 (Wd : Nat), .slice (some ⟨q, 0, none⟩) K K, .int .i64 (T : Nat)]

theorem len_any (w : World) (Wd q K T : Nat) : Calls Tryz.prog 50 #[rv Wd q K T] w fun e w' => e = .returned (.int .i64 (K : Nat)) ∧ Below w.heap.size w w' := by
  unfold rv
  have B := below_one w (.cells #[.int .i64 (Wd : Nat), .slice (some ⟨q, 0, none⟩) K K, .int .i64 (T : Nat)] 105)
  go_enter Tryz.func50, Tryz.ntmps50
  go_wp2
  go_ret
  exact ⟨rfl, B⟩
theorem total_any (w : World) (Wd q K T : Nat) : Calls Tryz.prog 66 #[rv Wd q K T] w fun e w' => e = .returned (.int .i64 (T : Nat)) ∧ Below w.heap.size w w' := by
  unfold rv
  have B := below_one w (.cells #[.int .i64 (Wd : Nat), .slice (some ⟨q, 0, none⟩) K K, .int .i64 (T : Nat)] 105)
  go_enter Tryz.func66, Tryz.ntmps66
  go_wp2
  go_ret
  exact ⟨rfl, B⟩
set_option maxRecDepth 100000 in
set_option maxHeartbeats 1000000 in
theorem at_any (w : World) (Wd q K T a : Nat) (h1 : 1 ≤ Wd) (h2 : Wd ≤ 65536) (ha : a ≤ 65536) : Calls Tryz.prog 59 #[rv Wd q K T, .int .i64 (a : Nat)] w fun e w' => e = .returned (.int .i64 ((a / Wd : Nat) : Int)) ∧ Below w.heap.size w w' := by
  unfold rv
  have B := below_one w (.cells #[.int .i64 (Wd : Nat), .slice (some ⟨q, 0, none⟩) K K, .int .i64 (T : Nat)] 105)
  have nz : ¬ (Wd : Int) = 0 := by omega
  have nz2 : ¬ Wd = 0 := by omega
  have d1 : ¬ ((Wd : Int) < 1) := by omega
  have hb : a / Wd ≤ a := Nat.div_le_self _ _
  obtain ⟨x, hx⟩ : ∃ x, a / Wd = x := ⟨_, rfl⟩
  have hdiv : (a : Int) / (Wd : Int) = (x : Int) := by rw [← hx]; norm_cast
  rw [hx] at hb ⊢
  clear hx
  go_enter Tryz.func59, Tryz.ntmps59
  go_wp2
  go_ret
  exact ⟨rfl, B⟩

set_option maxRecDepth 100000 in
set_option maxHeartbeats 1000000 in
theorem one_any {w : World} {base q : Nat} {l : List Reg} (h : Rg w base q l) (Wd K T k : Nat) (hK : l.length = K) (hK2 : K ≤ 65536) (x : Reg) (hx : l[k]? = some x) :
    Calls Tryz.prog 93 #[rv Wd q K T, .int .i64 (k : Nat)] w fun e w' => e = .returned (.agg #[.slice x.B x.row.length x.cap, .int .i64 (x.live : Nat), .int .i64 (x.first : Nat)]) ∧ Below w.heap.size w w' := by
  unfold rv
  have hkl : k < K := by rw [← hK]; exact (List.getElem?_eq_some_iff.1 hx).1
  have d0 : decide ((k : Int) < 0) = false := by simp
  have d1 : decide ((K : Int) ≤ (k : Int)) = false := by simp; omega
  have k0 : (0 : Int) ≤ (k : Int) := by omega
  have k1 : (k : Int) < (K : Int) := by omega
  have B1 := below_one w (.cells #[.int .i64 (Wd : Nat), .slice (some ⟨q, 0, none⟩) K K, .int .i64 (T : Nat)] 105)
  have B2 := on B1 B1.size (below_one _ (.cells #[.slice none 0 0, .int .i64 0, .int .i64 0] 138))
  obtain ⟨c0, c1, c2⟩ := (h.kept B2).cells hx
  have ea : (⟨q, 0, none⟩ : Addr).add (k * 3) = ⟨q, k * 3, none⟩ := add_at q (k * 3)
  have LR : Lies ((w.alloc (.cells #[.int .i64 (Wd : Nat), .slice (some ⟨q, 0, none⟩) K K, .int .i64 (T : Nat)] 105)).alloc (.cells #[.slice none 0 0, .int .i64 0, .int .i64 0] 138)) (w.heap.size + 1) 138 [.slice none 0 0, .int .i64 0, .int .i64 0] := by
    have := Lies.new (w.alloc (.cells #[.int .i64 (Wd : Nat), .slice (some ⟨q, 0, none⟩) K K, .int .i64 (T : Nat)] 105)) 138 [.slice none 0 0, .int .i64 0, .int .i64 0]
    rw [World.size_alloc] at this; exact this
  have hql := h.own.lt
  obtain ⟨B, hB⟩ : ∃ B, x.B = B := ⟨_, rfl⟩
  obtain ⟨cap, hcap⟩ : ∃ cap, x.cap = cap := ⟨_, rfl⟩
  obtain ⟨rl, hrl⟩ : ∃ rl, x.row.length = rl := ⟨_, rfl⟩
  obtain ⟨lv, hlv⟩ : ∃ lv, x.live = lv := ⟨_, rfl⟩
  obtain ⟨fi, hfi⟩ : ∃ fi, x.first = fi := ⟨_, rfl⟩
  rw [hB, hcap, hrl] at c0
  rw [hlv] at c1
  rw [hfi] at c2
  rw [hB, hcap, hrl, hlv, hfi]
  have HB := Lib.hid B2
  have r0 := LR.cell 0
  have r1 := LR.cell 1
  have r2 := LR.cell 2
  have f0 := LR.frozen 0
  have f1 := LR.frozen 1
  have f2 := LR.frozen 2
  have lt := LR.lt
  have hne : ¬ w.heap.size + 1 = q := by omega
  clear h hx hK hB hcap hrl hlv hfi LR B1 B2
  go_enter Tryz.func93, Tryz.ntmps93
  go_wp2
  refine bodyPost_ret (v := .agg #[.slice B rl cap, .int .i64 (lv : Nat), .int .i64 (fi : Nat)]) (by simp [results, Tryz.results93, go_sem, lt]) rfl ?_
  exact ⟨rfl, on (below_one w _) (below_one w _).size (below_one _ _)⟩
theorem field_live (a b c : Value) (W : World) : (Instr.field 138 (.agg #[a, b, c]) 1).run Tryz.prog W = .ok b W := by kernel_rfl
theorem field_first (a b c : Value) (W : World) : (Instr.field 138 (.agg #[a, b, c]) 2).run Tryz.prog W = .ok c W := by kernel_rfl
theorem field_stays (a b c : Value) (W : World) : (Instr.field 138 (.agg #[a, b, c]) 0).run Tryz.prog W = .ok a W := by kernel_rfl
set_option maxRecDepth 100000 in
set_option maxHeartbeats 1000000 in
theorem first_any {w : World} {base q : Nat} {l : List Reg} (h : Rg w base q l) (Wd K T k : Nat) (hK : l.length = K) (hK2 : K ≤ 65536) (x : Reg) (hx : l[k]? = some x) :
    Calls Tryz.prog 84 #[rv Wd q K T, .int .i64 (k : Nat)] w fun e w' => e = .returned (.int .i64 (x.first : Nat)) ∧ Below w.heap.size w w' := by
  have B := below_one w (.cells #[.int .i64 (Wd : Nat), .slice (some ⟨q, 0, none⟩) K K, .int .i64 (T : Nat)] 105)
  have HC := Lib.hid (one_any (h.kept B) Wd K T k hK hK2 x hx)
  have HB := Lib.hid B
  clear h hx hK B
  have hfl := fun (a b c : Value) (W : World) => field_first a b c W
  unfold rv at *
  go_enter Tryz.func84, Tryz.ntmps84
  go_wp2_with fail
  refine HC.out.mono ?_
  rintro e w2 ⟨rfl, hb⟩
  have HB2 := Lib.hid (on HB.out HB.out.size hb)
  clear hb HC
  go_wp2
  go_ret
  exact ⟨rfl, HB2.out⟩

theorem rv_of_owns {w : World} {base n : Nat} {v : Value} {row : List Int} (h : w.ownsRow base 3 1 v n (row.map (Value.int .i64))) (hn : row.length = n) : ∃ B cap, v = .slice B n cap ∧ Rv w base B cap row := by
  rcases h.2 with ⟨e, h0⟩ | ⟨g, cap, cur, e, hg, hh, h1, h2, h3, h4⟩
  · refine ⟨none, 0, by rw [e, h0], Or.inl ⟨rfl, rfl, List.eq_nil_of_length_eq_zero (by omega)⟩⟩
  · refine ⟨_, cap, e, Or.inr ⟨g, cur.toList, rfl, hg, by unfold Lies; simpa using hh, by simp [h3], by omega, fun i hi => ?_⟩⟩
    have : (cur.toList.take (n * 1))[i]? = some (.int .i64 (row.getD i 0)) := by rw [h4]; simp [hi, List.getD]
    rw [List.getElem?_take] at this
    split at this
    · exact this
    · cases this
theorem slice_nil (W : World) : (binOp .eql 30 (.slice none 0 0) (.slice none 0 0)).run Tryz.prog W = .ok (.bool true) W := by kernel_rfl
theorem slice_some (a : Addr) (n c : Nat) (W : World) : (binOp .eql 30 (.slice (some a) n c) (.slice none 0 0)).run Tryz.prog W = .ok (.bool false) W := by kernel_rfl

set_option maxRecDepth 100000 in
set_option maxHeartbeats 1000000 in
theorem clone_any {w : World} {base : Nat} {B : Option Addr} {cap : Nat} {row : List Int} (h : Rv w base B cap row) (hl : row.length ≤ 65536) (n : Nat) (hn : row.length = n) :
    Calls Tryz.prog 92 #[.slice B n cap] w fun e w' => ∃ B2 cap2, e = .returned (.slice B2 n cap2) ∧ Rv w' w.heap.size B2 cap2 row ∧ Below w.heap.size w w' := by
  rcases h with ⟨rfl, rfl, rfl⟩ | ⟨q, cs, rfl, h2, h3, h4, h5, h6⟩
  · obtain rfl : n = 0 := by simpa using hn.symm
    have hnil := fun W => slice_nil W
    go_enter Tryz.func92, Tryz.ntmps92
    go_wp2
    go_ret
    exact ⟨none, 0, rfl, Rv.nil _ _, Below.refl _ _⟩
  · have hsome := fun (a : Addr) (n c : Nat) (W : World) => slice_some a n c W
    have HN := Lib.hid hn
    have ON := Lib.hid (own_new (B := w.heap.size) w (Nat.le_refl _))
    have CC := Lib.hid (show ∀ j u, (row.map (Value.int .i64))[j]? = some u → (w.alloc (.cells #[] 3)).cell? ((⟨q, 0, none⟩ : Addr).add j) = some u from fun j u hu => by
      have hj : j < row.length := by have := (List.getElem?_eq_some_iff.1 hu).1; simpa using this
      rw [add_at, (h3.alloc _).cell, h6 j hj, ← hu]
      simp [hj, List.getD])
    obtain ⟨i0, z0, hi, hz, hs, hby, hzc, hzc2⟩ := info_3v
    have hln : n ≤ 65536 := by omega
    clear h2 h3 h4 h5 h6 hn hl
    go_enter Tryz.func92, Tryz.ntmps92
    go_wp2_with (at_builtin; refine wpList_append_own _ rfl (.tmp 5) (.tmp 6) 30 rfl w.heap.size 3 i0 z0 1 8 Tryz.underlying30 hi hz hs hby hzc (by decide) _ 0 [] rfl ON.out ⟨q, 0, none⟩ n cap (row.map (Value.int .i64)) rfl (by simp [HN.out]) CC.out (ints_oneCell _ _) (by unfold maxLen; omega) (by omega) (by simp) ?_; intro v6 w6 O6 G6 N6; rw [Nat.zero_add, List.nil_append] at O6; obtain ⟨B6, cap6, e6, R6⟩ := rv_of_owns O6 HN.out; subst e6; have HR6 := Lib.hid R6; have HB6 := Lib.hid ((below_one w (.cells #[] 3)).grown G6 (by simp) (fun k e => by injection e with e; exact Nat.le_of_eq e)); clear O6 G6 N6 R6)
    go_ret
    exact ⟨B6, cap6, rfl, HR6.out, HB6.out⟩

set_option maxRecDepth 100000 in
set_option maxHeartbeats 1000000 in
theorem stays_any {w : World} {base q : Nat} {l : List Reg} (h : Rg w base q l) (Wd K T k : Nat) (hK : l.length = K) (hK2 : K ≤ 65536) (x : Reg) (hx : l[k]? = some x) (n : Nat) (hn : x.row.length = n) (hn2 : n ≤ 65536) :
    Calls Tryz.prog 62 #[rv Wd q K T, .int .i64 (k : Nat)] w fun e w' => ∃ B2 cap2, e = .returned (.slice B2 n cap2) ∧ Rv w' w.heap.size B2 cap2 x.row ∧ Below w.heap.size w w' := by
  have B := below_one w (.cells #[.int .i64 (Wd : Nat), .slice (some ⟨q, 0, none⟩) K K, .int .i64 (T : Nat)] 105)
  have HC := Lib.hid (one_any (h.kept B) Wd K T k hK hK2 x hx)
  have HB := Lib.hid B
  have HR := Lib.hid (h.rows x (List.mem_of_getElem? hx))
  have HN := Lib.hid hn
  have hfl := fun (a b c : Value) (W : World) => field_stays a b c W
  clear h hx hK B hn
  unfold rv at *
  go_enter Tryz.func62, Tryz.ntmps62
  go_wp2_with fail
  refine HC.out.mono ?_
  rintro e w2 ⟨rfl, hb⟩
  have HB2 := Lib.hid (on HB.out HB.out.size hb)
  clear hb HC
  rw [HN.out]
  go_wp2_with fail
  refine (clone_any (HR.out.below HB2.out) (by rw [HN.out]; exact hn2) n HN.out).mono ?_
  rintro e w3 ⟨B2, cap2, rfl, R3, hb3⟩
  have HB3 := Lib.hid (on HB2.out HB2.out.size hb3)
  have HR3 := Lib.hid (R3.wider HB2.out.size)
  clear R3 hb3
  go_wp2
  go_ret
  exact ⟨B2, cap2, rfl, HR3.out, HB3.out⟩
end Go.Proofs.YtklhdilbmpndkaaGreat

namespace Go.Proofs.YtklhdilbmpndkaaGreat
set_option maxRecDepth 20000
open Go.RowKit
set_option linter.unusedVariables false
set_option linter.unusedSimpArgs false

/-- Does it stay? -/
def keepB (f : Nat → Bool) (x : Nat × Ob) : Bool := decide (x.2.1 % 16 ≠ 15) && f x.1
/-- Those that stay and begin in a region. -/
def inR (f : Nat → Bool) (n k : Nat) (L : List (Nat × Ob)) : List (Nat × Ob) := L.filter fun x => keepB f x && decide (x.1 / n = k)
def stayR (f : Nat → Bool) (n k : Nat) (L : List (Nat × Ob)) : List Int := (inR f n k L).map fun x => (x.1 : Int)
def sumL (L : List (Nat × Ob)) : Nat := (L.map fun x => 1 + x.2.2.length).sum
def liveR (f : Nat → Bool) (n k : Nat) (L : List (Nat × Ob)) : Nat := sumL (inR f n k L)
theorem inR_more (f : Nat → Bool) (n k : Nat) (L : List (Nat × Ob)) (x : Nat × Ob) : inR f n k (L ++ [x]) = inR f n k L ++ (if keepB f x && decide (x.1 / n = k) then [x] else []) := by
  unfold inR
  rw [List.filter_append]
  congr 1
  simp [List.filter_cons]
theorem sumL_append (L M : List (Nat × Ob)) : sumL (L ++ M) = sumL L + sumL M := by simp [sumL]
theorem sumL_one (x : Nat × Ob) : sumL [x] = 1 + x.2.2.length := by simp [sumL]
theorem sumL_filter (p : Nat × Ob → Bool) : ∀ L : List (Nat × Ob), sumL (L.filter p) ≤ sumL L
  | [] => Nat.le_refl _
  | x :: L => by
    have ih := sumL_filter p L
    rw [List.filter_cons]
    split
    · show 1 + x.2.2.length + sumL (L.filter p) ≤ 1 + x.2.2.length + sumL L
      omega
    · show sumL (L.filter p) ≤ 1 + x.2.2.length + sumL L
      omega
theorem sumL_adr : ∀ (a : Nat) (obs : List Ob), sumL (adr a obs) = (flat obs).length
  | _, [] => rfl
  | a, o :: l => by
    rw [adr, flat_cons]
    show 1 + o.2.length + sumL (adr _ l) = _
    rw [sumL_adr]; simp; omega
/-- The regions, of the objects that were gone through. -/
def regsOf (l : List Reg) (f : Nat → Bool) (n K : Nat) (L : List (Nat × Ob)) : Prop := l.length = K ∧ ∀ k, k < K → ∃ x, l[k]? = some x ∧ x.row = stayR f n k L ∧ x.live = liveR f n k L ∧ x.first = 0
theorem regs_skip {l : List Reg} {f : Nat → Bool} {n K : Nat} {L : List (Nat × Ob)} {x : Nat × Ob} (h : regsOf l f n K L) (hx : keepB f x = false) : regsOf l f n K (L ++ [x]) := by
  refine ⟨h.1, fun k hk => ?_⟩
  obtain ⟨r, h1, h2, h3, h4⟩ := h.2 k hk
  have e : inR f n k (L ++ [x]) = inR f n k L := by rw [inR_more, hx]; simp
  exact ⟨r, h1, by unfold stayR; rw [e]; exact h2, by unfold liveR; rw [e]; exact h3, h4⟩
theorem regs_add {l : List Reg} {f : Nat → Bool} {n K : Nat} {L : List (Nat × Ob)} {x : Nat × Ob} (h : regsOf l f n K L) (hx : keepB f x = true) {r : Reg} (hr : l[x.1 / n]? = some r) (B : Option Addr) (cap : Nat) :
    regsOf (l.set (x.1 / n) ⟨B, cap, r.row ++ [(x.1 : Int)], r.live + (1 + x.2.2.length), r.first⟩) f n K (L ++ [x]) := by
  have hk0 : x.1 / n < l.length := (List.getElem?_eq_some_iff.1 hr).1
  refine ⟨by simpa using h.1, fun k hk => ?_⟩
  obtain ⟨y, h1, h2, h3, h4⟩ := h.2 k hk
  by_cases hkk : x.1 / n = k
  · subst hkk
    rw [hr] at h1
    injection h1 with h1
    subst h1
    have e : inR f n (x.1 / n) (L ++ [x]) = inR f n (x.1 / n) L ++ [x] := by rw [inR_more, hx]; simp
    refine ⟨_, List.getElem?_set_self hk0, ?_, ?_, h4⟩
    · show r.row ++ [(x.1 : Int)] = _
      unfold stayR
      rw [e, List.map_append, h2]; rfl
    · show r.live + (1 + x.2.2.length) = _
      unfold liveR
      rw [e, sumL_append, sumL_one, h3]; rfl
  · have e : inR f n k (L ++ [x]) = inR f n k L := by rw [inR_more, hx]; simp [hkk]
    refine ⟨y, by rw [List.getElem?_set_ne hkk]; exact h1, by unfold stayR; rw [e]; exact h2, by unfold liveR; rw [e]; exact h3, h4⟩
theorem regs_nil (K : Nat) (f : Nat → Bool) (n : Nat) : regsOf (List.replicate K ⟨none, 0, [], 0, 0⟩) f n K [] := by
  refine ⟨by simp, fun k hk => ⟨⟨none, 0, [], 0, 0⟩, by simp [hk], rfl, rfl, rfl⟩⟩
theorem stay_len (f : Nat → Bool) (n k : Nat) (L : List (Nat × Ob)) : (stayR f n k L).length ≤ L.length := by
  unfold stayR inR
  rw [List.length_map]
  exact List.length_filter_le _ _
theorem sum_bound {L : List (Nat × Ob)} (h : ∀ x ∈ L, x.2.2.length ≤ 4095) : sumL L ≤ L.length * 4096 := by
  induction L with
  | nil => simp [sumL]
  | cons x l ih =>
    have h1 := h x (by simp)
    have h2 := ih (fun y hy => h y (by simp [hy]))
    show 1 + x.2.2.length + sumL l ≤ _
    simp; omega
/-- Where a region goes. -/
def firstR (f : Nat → Bool) (n : Nat) (L : List (Nat × Ob)) : Nat → Nat
  | 0 => 0
  | k + 1 => firstR f n L k + liveR f n k L
/-- The regions, once all is reckoned for the first j of them. -/
def regsAll (l : List Reg) (f : Nat → Bool) (n K j : Nat) (L : List (Nat × Ob)) : Prop := l.length = K ∧ ∀ k, k < K → ∃ x, l[k]? = some x ∧ x.row = stayR f n k L ∧ x.live = liveR f n k L ∧ x.first = if k < j then firstR f n L k else 0
theorem regs_zero {l : List Reg} {f : Nat → Bool} {n K : Nat} {L : List (Nat × Ob)} (h : regsOf l f n K L) : regsAll l f n K 0 L :=
  ⟨h.1, fun k hk => by obtain ⟨x, h1, h2, h3, h4⟩ := h.2 k hk; exact ⟨x, h1, h2, h3, by simpa using h4⟩⟩
theorem regs_step {l : List Reg} {f : Nat → Bool} {n K j : Nat} {L : List (Nat × Ob)} (h : regsAll l f n K j L) {r : Reg} (hr : l[j]? = some r) : regsAll (l.set j { r with live := r.live, first := firstR f n L j }) f n K (j + 1) L := by
  have hj := (List.getElem?_eq_some_iff.1 hr).1
  refine ⟨by simpa using h.1, fun k hk => ?_⟩
  obtain ⟨x, h1, h2, h3, h4⟩ := h.2 k hk
  by_cases hkj : j = k
  · subst hkj
    rw [hr] at h1
    injection h1 with h1
    subst h1
    exact ⟨_, List.getElem?_set_self hj, h2, h3, by simp⟩
  · refine ⟨x, by rw [List.getElem?_set_ne hkj]; exact h1, h2, h3, ?_⟩
    rw [h4]
    by_cases hlt : k < j
    · rw [if_pos hlt, if_pos (by omega)]
    · rw [if_neg hlt, if_neg (by omega)]
/-- All that stays, whose region is ahead of one. -/
theorem first_sum (f : Nat → Bool) (n : Nat) (L : List (Nat × Ob)) : ∀ k, firstR f n L k = sumL (L.filter fun x => keepB f x && decide (x.1 / n < k))
  | 0 => by
    have : (L.filter fun x => keepB f x && decide (x.1 / n < 0)) = [] := by
      rw [List.filter_eq_nil_iff]; intro x _; simp
    rw [this]; rfl
  | k + 1 => by
    rw [firstR, first_sum f n L k]
    unfold liveR inR
    induction L with
    | nil => rfl
    | cons x l ih =>
      simp only [List.filter_cons]
      by_cases h1 : keepB f x = true
      · simp only [h1, Bool.true_and, decide_eq_true_eq]
        by_cases h2 : x.1 / n < k
        · rw [if_pos h2, if_neg (by omega), if_pos (by omega)]
          simp only [sumL, List.map_cons, List.sum_cons] at ih ⊢; omega
        · by_cases h3 : x.1 / n = k
          · rw [if_neg h2, if_pos h3, if_pos (by omega)]
            simp only [sumL, List.map_cons, List.sum_cons] at ih ⊢; omega
          · rw [if_neg h2, if_neg h3, if_neg (by omega)]
            exact ih
      · simp only [h1, Bool.false_and, Bool.false_eq_true, if_false]
        exact ih
theorem first_le (f : Nat → Bool) (n : Nat) (L : List (Nat × Ob)) (k : Nat) : firstR f n L k ≤ sumL L := by
  rw [first_sum]; exact sumL_filter _ _
end Go.Proofs.YtklhdilbmpndkaaGreat
