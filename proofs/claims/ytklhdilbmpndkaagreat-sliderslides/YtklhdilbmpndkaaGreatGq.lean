/- Sliding: plain facts on where regions go, what waits for what, where regions begin. sort.Search; the calls of a Forward that a sliding makes. awaiting: the regions that an object stands in the way of. -/
import Derived.Test.YtklhdilbmpndkaaGreatGo
import Derived.Test.YtklhdilbmpndkaaGreatGn
import Derived.Lib.QuietBelow
import Derived.BigQuiet
namespace Go.Proofs.YtklhdilbmpndkaaGreat
set_option maxRecDepth 20000
open Go.RowKit
set_option linter.unusedVariables false
set_option linter.unusedSimpArgs false


/-- The regions that an object stands in the way of. -/
def awL (f : Nat → Bool) (W K : Nat) (L : List (Nat × Ob)) (x : Nat × Ob) : List Nat := (List.range K).filter fun k => (decide (k ≠ x.1 / W) && decide (0 < liveR f W k L)) && (decide (x.1 < firstR f W L (k + 1)) && decide (firstR f W L k ≤ x.1 + x.2.2.length))
/-- What a word becomes, if it may be. -/
def okW (f : Nat → Bool) (L : List (Nat × Ob)) (z : Int) : Bool := z == 0 || (decide (1 ≤ z) && isK f L (z - 1).toNat)
def mvW (f : Nat → Bool) (L : List (Nat × Ob)) (z : Int) : Int := if z = 0 then 0 else (goS f L (z - 1).toNat : Int) + 1
def okX (f : Nat → Bool) (L : List (Nat × Ob)) (x : Nat × Ob) : Bool := (x.2.2.take (ptrs x.2.1)).all (okW f L)
def rightB (f : Nat → Bool) (L : List (Nat × Ob)) : Bool := L.all fun x => !keepB f x || okX f L x
/-- How many of some objects, that stay, stand in a region's way. -/
def waitN (f : Nat → Bool) (W K : Nat) (L M : List (Nat × Ob)) (k : Nat) : Nat := ((M.filter (keepB f)).flatMap (awL f W K L)).count k
/-- Where a region's first object begins. -/
def bgR (W : Nat) (L : List (Nat × Ob)) (top k : Nat) : Nat := ((L.find? fun x => decide (k ≤ x.1 / W)).map fun x => x.1).getD top

section
variable {f : Nat → Bool} {W K top k : Nat} {L : List (Nat × Ob)}
theorem first_mono : ∀ {i j : Nat}, i ≤ j → firstR f W L i ≤ firstR f W L j := by
  intro i j h
  induction j with
  | zero => obtain rfl : i = 0 := by omega
            exact Nat.le_refl _
  | succ j ih =>
    by_cases e : i = j + 1
    · subst e; exact Nat.le_refl _
    · exact Nat.le_trans (ih (by omega)) (by rw [firstR]; omega)
theorem wait_more (M : List (Nat × Ob)) (x : Nat × Ob) : waitN f W K L (M ++ [x]) k = waitN f W K L M k + if keepB f x then (awL f W K L x).count k else 0 := by
  unfold waitN
  rw [List.filter_append, List.flatMap_append, List.count_append]
  cases h : keepB f x with
  | true => rw [List.filter_cons, if_pos h, if_pos rfl]; simp
  | false => rw [List.filter_cons, if_neg (by simp [h]), if_neg (by simp)]; simp
theorem awL_nodup (x : Nat × Ob) : (awL f W K L x).Nodup := List.Pairwise.filter _ List.nodup_range
theorem awL_lt {x : Nat × Ob} (h : k ∈ awL f W K L x) : k < K := by
  unfold awL at h
  rw [List.mem_filter, List.mem_range] at h
  exact h.1
theorem awL_count (x : Nat × Ob) : (awL f W K L x).count k ≤ 1 := List.nodup_iff_count.1 (awL_nodup x) k
theorem wait_le (M : List (Nat × Ob)) : waitN f W K L M k ≤ M.length := by
  unfold waitN
  have : ∀ N : List (Nat × Ob), (N.flatMap (awL f W K L)).count k ≤ N.length := fun N => by
    induction N with
    | nil => simp
    | cons x N ih =>
      rw [List.flatMap_cons, List.count_append, List.length_cons]
      have := awL_count (f := f) (W := W) (K := K) (L := L) (k := k) x
      omega
  exact Nat.le_trans (this _) (List.length_filter_le _ _)
theorem bg_more_lt {top' : Nat} (M : List (Nat × Ob)) (x : Nat × Ob) (h : ∃ y ∈ M, k ≤ y.1 / W) : bgR W (M ++ [x]) top k = bgR W M top' k := by
  unfold bgR
  obtain ⟨y, h1, h2⟩ := h
  rw [List.find?_append]
  cases e : M.find? fun x => decide (k ≤ x.1 / W) with
  | none => rw [List.find?_eq_none] at e; have := e y h1; simp [h2] at this
  | some z => rfl
theorem bg_more_ge (M : List (Nat × Ob)) (x : Nat × Ob) (h : ∀ y ∈ M, y.1 / W < k) (hx : k ≤ x.1 / W) : bgR W (M ++ [x]) top k = x.1 := by
  unfold bgR
  rw [List.find?_append]
  have : (M.find? fun x => decide (k ≤ x.1 / W)) = none := by
    rw [List.find?_eq_none]; intro y hy; have := h y hy; simp; omega
  rw [this]; simp [hx]
theorem bg_none (h : ∀ y ∈ L, y.1 / W < k) : bgR W L top k = top := by
  unfold bgR
  have : (L.find? fun x => decide (k ≤ x.1 / W)) = none := by
    rw [List.find?_eq_none]; intro y hy; have := h y hy; simp; omega
  rw [this]; rfl
end
end Go.Proofs.YtklhdilbmpndkaaGreat

namespace Go.Proofs.YtklhdilbmpndkaaGreat
set_option maxRecDepth 20000
open Go.RowKit Go.Sort
set_option linter.unusedVariables false
set_option linter.unusedSimpArgs false


set_option maxRecDepth 100000 in
set_option maxHeartbeats 1000000 in
theorem live_any {w : World} {base q : Nat} {l : List Reg} (h : Rg w base q l) (Wd K T k : Nat) (hK : l.length = K) (hK2 : K ≤ 65536) (x : Reg) (hx : l[k]? = some x) :
    Calls Tryz.prog 87 #[rv Wd q K T, .int .i64 (k : Nat)] w fun e w' => e = .returned (.int .i64 (x.live : Nat)) ∧ Below w.heap.size w w' := by
  have B := below_one w (.cells #[.int .i64 (Wd : Nat), .slice (some ⟨q, 0, none⟩) K K, .int .i64 (T : Nat)] 105)
  have HC := Lib.hid (one_any (h.kept B) Wd K T k hK hK2 x hx)
  have HB := Lib.hid B
  clear h hx hK B
  have hfl := fun (a b c : Value) (W : World) => field_live a b c W
  unfold rv at *
  go_enter Tryz.func87, Tryz.ntmps87
  go_wp2_with fail
  refine HC.out.mono ?_
  rintro e w2 ⟨rfl, hb⟩
  have HB2 := Lib.hid (on HB.out HB.out.size hb)
  clear hb HC
  go_wp2
  go_ret
  exact ⟨rfl, HB2.out⟩

/-- A Forward's regions, and what its calls answer, as long as nothing that was there is turned. -/
structure Fq (w : World) (b q W K T top : Nat) (f : Nat → Bool) (obs : List Ob) : Prop where
  c0 : ∀ V, Below w.heap.size w V → V.cell? ⟨b, 0, none⟩ = some (.int .i64 (W : Nat))
  c1 : ∀ V, Below w.heap.size w V → V.cell? ⟨b, 1, none⟩ = some (.slice (some ⟨q, 0, none⟩) K K)
  c2 : ∀ V, Below w.heap.size w V → V.cell? ⟨b, 2, none⟩ = some (.int .i64 (T : Nat))
  len : ∀ V : World, Calls Tryz.prog 50 #[.agg #[.int .i64 (W : Nat), .slice (some ⟨q, 0, none⟩) K K, .int .i64 (T : Nat)]] V fun e w' => e = .returned (.int .i64 (K : Nat)) ∧ Below V.heap.size V w'
  at_ : ∀ V : World, ∀ p : Nat, p ≤ 65536 → Calls Tryz.prog 59 #[.agg #[.int .i64 (W : Nat), .slice (some ⟨q, 0, none⟩) K K, .int .i64 (T : Nat)], .int .i64 (p : Nat)] V fun e w' => e = .returned (.int .i64 ((p / W : Nat) : Int)) ∧ Below V.heap.size V w'
  first : ∀ V, Below w.heap.size w V → ∀ k : Nat, k < K → Calls Tryz.prog 84 #[.agg #[.int .i64 (W : Nat), .slice (some ⟨q, 0, none⟩) K K, .int .i64 (T : Nat)], .int .i64 (k : Nat)] V fun e w' => e = .returned (.int .i64 ((firstR f W (adr 0 obs) k : Nat) : Int)) ∧ Below V.heap.size V w'
  live : ∀ V, Below w.heap.size w V → ∀ k : Nat, k < K → Calls Tryz.prog 87 #[.agg #[.int .i64 (W : Nat), .slice (some ⟨q, 0, none⟩) K K, .int .i64 (T : Nat)], .int .i64 (k : Nat)] V fun e w' => e = .returned (.int .i64 ((liveR f W k (adr 0 obs) : Nat) : Int)) ∧ Below V.heap.size V w'
  stays : ∀ V, Below w.heap.size w V → ∀ k : Nat, k < K → Calls Tryz.prog 62 #[.agg #[.int .i64 (W : Nat), .slice (some ⟨q, 0, none⟩) K K, .int .i64 (T : Nat)], .int .i64 (k : Nat)] V fun e w' => ∃ B2 cap2, e = .returned (.slice B2 (inR f W k (adr 0 obs)).length cap2) ∧ Rv w' V.heap.size B2 cap2 (stayR f W k (adr 0 obs)) ∧ Below V.heap.size V w'
  lt : b < w.heap.size
theorem Fq.kept {w w' : World} {b q W K T top : Nat} {f : Nat → Bool} {obs : List Ob} (h : Fq w b q W K T top f obs) (hb : Below w.heap.size w w') : Fq w' b q W K T top f obs :=
  ⟨fun V hV => h.c0 V (on hb hb.size hV), fun V hV => h.c1 V (on hb hb.size hV), fun V hV => h.c2 V (on hb hb.size hV), h.len, h.at_, fun V hV => h.first V (on hb hb.size hV), fun V hV => h.live V (on hb hb.size hV), fun V hV => h.stays V (on hb hb.size hV), Nat.lt_of_lt_of_le h.lt hb.size⟩
theorem fq_of {w : World} {b W K T top : Nat} {f : Nat → Bool} {obs : List Ob} (h : Fo w b W K T top f obs) : ∃ q, Fq w b q W K T top f obs := by
  obtain ⟨q, a, base, l, hF⟩ := h.fh
  have hk := h.k65
  refine ⟨q, fun V hV => ((hF.kept hV).reads).1, fun V hV => ((hF.kept hV).reads).2.1, fun V hV => ((hF.kept hV).reads).2.2.1, fun V => len_any V W q K T, fun V p hp => at_any V W q K T p h.w1 h.w2 hp, fun V hV k hkK => ?_, fun V hV k hkK => ?_, fun V hV k hkK => ?_, hF.own.lt⟩
  · obtain ⟨x, hx, h1, h2, h3⟩ := hF.all.2 k hkK
    rw [if_pos hkK] at h3
    rw [← h3]
    exact first_any (hF.rg.kept hV) W K T k hF.all.1 hk x hx
  · obtain ⟨x, hx, h1, h2, h3⟩ := hF.all.2 k hkK
    rw [← h2]
    exact live_any (hF.rg.kept hV) W K T k hF.all.1 hk x hx
  · obtain ⟨x, hx, h1, h2, h3⟩ := hF.all.2 k hkK
    rw [← h1]
    have hl : (inR f W k (adr 0 obs)).length = x.row.length := by rw [h1]; simp [stayR]
    rw [hl]
    refine stays_any (hF.rg.kept hV) W K T k hF.all.1 hk x hx x.row.length rfl ?_
    rw [h1]
    have h4 := stay_len f W k (adr 0 obs)
    have h5 := many_le h.top_
    have h6 := h.most
    rw [adr_len] at h4
    omega

theorem enters_any {F : Nat} {args : Array Value} {W : World} (h : ∀ args W, (callFunc F args).run Tryz.prog W = .ok (.enter F args) W) : (callFunc F args).run Tryz.prog W = .ok (.enter F args) W := h _ _

set_option maxRecDepth 100000 in
set_option maxHeartbeats 2000000 in
theorem search_any {w : World} (n F : Nat) (caps : Array Value) (p : Nat → Bool) (hn : n ≤ 100000) (hmono : ∀ i j, i ≤ j → p i = true → p j = true)
    (hen : ∀ args W, (callFunc F args).run Tryz.prog W = .ok (.enter F args) W)
    (hcl : ∀ V, Below w.heap.size w V → ∀ k : Nat, k < n → Calls Tryz.prog F (#[.int .i64 (k : Nat)] ++ caps) V fun e w' => e = .returned (.bool (p k)) ∧ Below V.heap.size V w') :
    Calls Tryz.prog 85 #[.int .i64 (n : Nat), .func (.func F) #[] caps] w fun e w' => ∃ k : Nat, e = .returned (.int .i64 (k : Nat)) ∧ k ≤ n ∧ (∀ i, i < k → p i = false) ∧ (∀ i, k ≤ i → i < n → p i = true) ∧ Below w.heap.size w w' := by
  have HC := Lib.hid hcl
  have HM := Lib.hid hmono
  clear hcl hmono
  go_enter Tryz.func85, Tryz.ntmps85
  go_wp2
  go_loopw [5, 6] (fun i j wr => ∃ lo hi : Nat, i = .int .i64 (lo : Nat) ∧ j = .int .i64 (hi : Nat) ∧ lo ≤ hi ∧ hi ≤ n ∧ (∀ i, i < lo → p i = false) ∧ (∀ i, hi ≤ i → i < n → p i = true) ∧ Below w.heap.size w wr) (fun i j _ => (intOf j).toNat - (intOf i).toNat)
  case atStart => exact ⟨0, n, rfl, rfl, Nat.zero_le _, Nat.le_refl _, fun i h => absurd h (Nat.not_lt_zero _), fun i h1 h2 => by omega, Below.refl _ _⟩
  case round =>
    obtain ⟨lo, hi, rfl, rfl, hle, hhi, hlo, hhi2, hb⟩ := hrel
    have HB := Lib.hid hb
    have HL := Lib.hid hlo
    have HH := Lib.hid hhi2
    clear hb hlo hhi2
    by_cases hlt : lo < hi
    · obtain ⟨md, hmd⟩ : ∃ md, (lo + hi) / 2 = md := ⟨_, rfl⟩
      have hm1 : lo ≤ md := by omega
      have hm2 : md < hi := by omega
      have e2 : ((lo : Int) + (hi : Int)) / 2 = ((md : Nat) : Int) := by omega
      have E2 := Lib.hid e2
      have E1 := Lib.hid hmd
      clear e2 hmd
      go_wp2_with fail
      rw [E2.out]
      refine (HC.out wr HB.out md (by omega)).mono ?_
      rintro e w2 ⟨rfl, hb2⟩
      have HB2 := Lib.hid (on HB.out HB.out.size hb2)
      clear hb2
      cases hp : p md with
      | false =>
        have HP := Lib.hid hp
        clear hp
        go_wp2
        refine ⟨⟨md + 1, hi, by go_num, rfl, by omega, hhi, fun i hi => ?_, HH.out, HB2.out⟩, by simp [intOf]; omega⟩
        cases hq : p i with
        | false => rfl
        | true => have := HM.out i md (by omega) hq; rw [HP.out] at this; cases this
      | true =>
        have HP := Lib.hid hp
        clear hp
        go_wp2
        exact ⟨⟨lo, md, rfl, rfl, hm1, by omega, HL.out, fun i h1 h2 => HM.out md i h1 HP.out, HB2.out⟩, by simp [intOf]; omega⟩
    · obtain rfl : lo = hi := by omega
      go_wp2
      go_ret
      exact ⟨lo, rfl, hhi, HL.out, HH.out, HB.out⟩
end Go.Proofs.YtklhdilbmpndkaaGreat

namespace Go.Proofs.YtklhdilbmpndkaaGreat
set_option maxRecDepth 20000
open Go.RowKit Go.Sort
set_option linter.unusedVariables false
set_option linter.unusedSimpArgs false


theorem enter83 (args : Array Value) (W : World) : (callFunc 86 args).run Tryz.prog W = .ok (.enter 86 args) W := by
  simp [callFunc, go_sem, Tryz.func86]
  kernel_rfl
theorem live_first {f : Nat → Bool} {W k : Nat} {L : List (Nat × Ob)} : firstR f W L k + liveR f W k L = firstR f W L (k + 1) := rfl
theorem fo_first_le {w : World} {b W K T top : Nat} {f : Nat → Bool} {obs : List Ob} (h : Fo w b W K T top f obs) (k : Nat) : firstR f W (adr 0 obs) k ≤ 65536 := by
  have h1 := first_le f W (adr 0 obs) k
  rw [sumL_adr, h.top_] at h1
  exact Nat.le_trans h1 h.most

set_option maxRecDepth 1000000 in
set_option maxHeartbeats 4000000 in
theorem cl83 {w : World} {b q W K T top : Nat} {f : Nat → Bool} {obs : List Ob} (F : Fq w b q W K T top f obs) (hfl : ∀ k, firstR f W (adr 0 obs) k ≤ 65536) (S bs ba a : Nat) (hS : w.cell? ⟨S, 0, none⟩ = some (.pointer (some ⟨b, 0, none⟩)))
    (hbs : w.cell? ⟨bs, 0, none⟩ = some (.pointer (some ⟨S, 0, none⟩))) (hba : w.cell? ⟨ba, 0, none⟩ = some (.int .i64 (a : Nat))) (k : Nat) (hk : k < K) :
    Calls Tryz.prog 86 (#[.int .i64 (k : Nat)] ++ #[.pointer (some ⟨bs, 0, none⟩), .pointer (some ⟨ba, 0, none⟩)]) w fun e w' => e = .returned (.bool (decide (a < firstR f W (adr 0 obs) (k + 1)))) ∧ Below w.heap.size w w' := by
  show Calls Tryz.prog 86 #[.int .i64 (k : Nat), .pointer (some ⟨bs, 0, none⟩), .pointer (some ⟨ba, 0, none⟩)] w _
  have z0 := F.c0 w (Below.refl _ _)
  have z1 := F.c1 w (Below.refl _ _)
  have z2 := F.c2 w (Below.refl _ _)
  have HC1 := Lib.hid (fun V hV => F.first V hV k hk)
  have HC2 := Lib.hid (fun V hV => F.live V hV k hk)
  have h1 := hfl k
  have h2 := hfl (k + 1)
  rw [firstR] at h2
  rw [firstR]
  generalize firstR f W (adr 0 obs) k = u at *
  generalize liveR f W k (adr 0 obs) = v at *
  have hd : decide ((a : Int) < IntKind.i64.wrap ((u : Int) + (v : Int))) = decide (a < u + v) := by rw [IntWalk.i64_in _ (by omega), decide_eq_decide]; omega
  have HD := Lib.hid hd
  clear F hfl hd
  go_enter Tryz.func86, Tryz.ntmps86
  go_upto_region 1 with fail
  have hmx : Tryz.prog.follows .mixedOrders = true := by kernel_rfl
  have y0 : ∀ d os, (grow (redrawn w d) os).cell? ⟨b, 0, none⟩ = some (.int .i64 (W : Nat)) := fun d os => cell_regrown z0 d os
  have y1 : ∀ d os, (grow (redrawn w d) os).cell? ⟨b, 1, none⟩ = some (.slice (some ⟨q, 0, none⟩) K K) := fun d os => cell_regrown z1 d os
  have y2 : ∀ d os, (grow (redrawn w d) os).cell? ⟨b, 2, none⟩ = some (.int .i64 (T : Nat)) := fun d os => cell_regrown z2 d os
  have y3 : ∀ d os, (grow (redrawn w d) os).cell? ⟨S, 0, none⟩ = some (.pointer (some ⟨b, 0, none⟩)) := fun d os => cell_regrown hS d os
  have y4 : ∀ d os, (grow (redrawn w d) os).cell? ⟨bs, 0, none⟩ = some (.pointer (some ⟨S, 0, none⟩)) := fun d os => cell_regrown hbs d os
  have y5 : ∀ d os, (grow (redrawn w d) os).cell? ⟨ba, 0, none⟩ = some (.int .i64 (a : Nat)) := fun d os => cell_regrown hba d os
  have c0 : ∀ d os, Hid (Calls Tryz.prog 84 #[.agg #[.int .i64 (W : Nat), .slice (some ⟨q, 0, none⟩) K K, .int .i64 (T : Nat)], .int .i64 (k : Nat)] (grow (redrawn w d) os) fun e w' => e = .returned (.int .i64 (u : Nat)) ∧ Below (grow (redrawn w d) os).heap.size (grow (redrawn w d) os) w') := fun d os => Lib.hid (HC1.out _ (below_regrown w d os))
  have c1 : ∀ d os, Hid (Calls Tryz.prog 87 #[.agg #[.int .i64 (W : Nat), .slice (some ⟨q, 0, none⟩) K K, .int .i64 (T : Nat)], .int .i64 (k : Nat)] (grow (redrawn w d) os) fun e w' => e = .returned (.int .i64 (v : Nat)) ∧ Below (grow (redrawn w d) os).heap.size (grow (redrawn w d) os) w') := fun d os => Lib.hid (HC2.out _ (below_regrown w d os))
  refine wp_region_quiet_below hmx (by kernel_rfl) ?_
  repeat (with_reducible refine wpQuiet_step ?_; intro K hK; go_simp; first | (with_reducible refine hK _ ?_; clear hK K) | (with_reducible apply Exists.intro; with_reducible refine ⟨fun _ => ?_, hK _ ?_⟩; (first | (with_reducible exact Calls.regrown_of (c0 _ _).out) | (with_reducible exact Calls.regrown_of (c1 _ _).out)); clear hK K))
  with_reducible refine wpQuiet_nil ?_
  rintro wq ⟨pp, rfl⟩
  have hq := below_regrown w pp.d pp.os
  generalize grow (redrawn w pp.d) pp.os = wq at *
  clear HC1 HC2 c0 c1
  go_wp2_with fail
  rw [HD.out]
  go_ret
  exact ⟨rfl, hq⟩
end Go.Proofs.YtklhdilbmpndkaaGreat
