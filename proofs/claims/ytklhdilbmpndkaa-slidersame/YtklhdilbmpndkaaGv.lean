/- Marked, and that the heap was there ahead of the marks. Plain facts for SliderNews: which are marked, and stay. SliderNews, walked. -/
import Derived.Test.YtklhdilbmpndkaaHd
import Derived.Test.YtklhdilbmpndkaaGs
namespace Go.Proofs.Ytklhdilbmpndkaa
set_option maxRecDepth 20000
open Go.RowKit
set_option linter.unusedVariables false
set_option linter.unusedSimpArgs false

theorem below_same {B : Nat} {a b : World} (h : Below B a b) (p : Addr) (u : Value) : Below B (a.setCell p u) (b.setCell p u) := by
  refine ⟨h.os, h.tape, h.output, by simpa using h.size, fun k hk => ?_⟩
  have e := h.block k hk
  simp only [World.setCell, Array.getElem?_modify, e]
/-- The heap lies in a world ahead of the marks. -/
def Ahead (w w' : World) (ds : List Nd) (rs : List Int) (Z g gw gb base : Nat) (obs : List Ob) (tail : List Int) (A : Option Addr) (n c : Nat) (xs : List Value) (mg mw : Nat) : Prop :=
  ∃ wb, (∃ B cap rts, Built w wb ds rs Z g gw gb base obs tail A n c xs B cap rts) ∧ Below wb.heap.size wb w' ∧ wb.heap.size ≤ mg ∧ wb.heap.size ≤ mw

end Go.Proofs.Ytklhdilbmpndkaa

namespace Go.Proofs.Ytklhdilbmpndkaa
set_option maxRecDepth 20000
open Go.RowKit
set_option linter.unusedVariables false
set_option linter.unusedSimpArgs false


theorem atI_inj {obs : List Ob} {i j : Nat} (hi : i < obs.length) (hj : j < obs.length) (h : atI obs i = atI obs j) : i = j := by
  have key : ∀ {a b : Nat}, a < b → b ≤ obs.length → atI obs a < atI obs b := by
    intro a b hab hb
    induction b with
    | zero => omega
    | succ b ih =>
      obtain ⟨o, ho⟩ : ∃ o, obs[b]? = some o := ⟨_, List.getElem?_eq_getElem (by omega)⟩
      have h1 := atI_succ ho
      rcases Nat.lt_or_ge a b with h2 | h2
      · have := ih h2 (by omega); omega
      · obtain rfl : a = b := by omega
        omega
  rcases Nat.lt_trichotomy i j with h1 | h1 | h1
  · have := key h1 (by omega); omega
  · exact h1
  · have := key h1 (by omega); omega
/-- Which objects stay, by their places in the list. -/
def stL (f : Nat → Bool) (obs : List Ob) : List Bool := (List.range obs.length).map fun k => keepB f (atI obs k, obs.getD k (0, []))
theorem stL_len (f : Nat → Bool) (obs : List Ob) : (stL f obs).length = obs.length := by simp [stL]
theorem stL_at {f : Nat → Bool} {obs : List Ob} {k : Nat} {o : Ob} (h : obs[k]? = some o) : (stL f obs)[k]? = some (keepB f (atI obs k, o)) := by
  have hk := (List.getElem?_eq_some_iff.1 h).1
  have e : obs.getD k (0, []) = o := by simp [List.getD, h]
  unfold stL
  rw [List.getElem?_map, List.getElem?_range hk]
  show some (keepB f (atI obs k, obs.getD k (0, []))) = _
  rw [e]
theorem stb_of (f : Nat → Bool) (obs : List Ob) : Stb (stL f obs) f obs := ⟨stL_len f obs, fun k o h => stL_at h⟩
theorem stL_none {f : Nat → Bool} (obs : List Ob) (h : ∀ p, f p = false) : stL f obs = List.replicate obs.length false := by
  refine List.ext_getElem? fun i => ?_
  by_cases hi : i < obs.length
  · obtain ⟨o, ho⟩ : ∃ o, obs[i]? = some o := ⟨_, List.getElem?_eq_getElem hi⟩
    rw [stL_at ho]; simp [keepB, h, hi]
  · rw [List.getElem?_eq_none (by rw [stL_len]; omega), List.getElem?_eq_none (by simp; omega)]
theorem stL_set {f f' : Nat → Bool} {obs : List Ob} {i : Nat} {o : Ob} (ho : obs[i]? = some o) (h : ∀ p, f' p = (decide (p = atI obs i) || f p)) : (stL f obs).set i (decide (o.1 % 16 ≠ 15)) = stL f' obs := by
  have hi := (List.getElem?_eq_some_iff.1 ho).1
  refine List.ext_getElem? fun j => ?_
  rw [List.getElem?_set]
  by_cases hij : i = j
  · subst hij
    rw [if_pos rfl, if_pos (by rw [stL_len]; exact hi), stL_at ho]
    simp [keepB, h]
  · rw [if_neg hij]
    by_cases hj : j < obs.length
    · obtain ⟨o2, ho2⟩ : ∃ o2, obs[j]? = some o2 := ⟨_, List.getElem?_eq_getElem hj⟩
      rw [stL_at ho2, stL_at ho2]
      have hne : atI obs j ≠ atI obs i := fun e => hij (atI_inj hi hj e.symm)
      simp [keepB, h, hne]
    · rw [List.getElem?_eq_none (by rw [stL_len]; omega), List.getElem?_eq_none (by rw [stL_len]; omega)]
theorem size_small {ds : List Nd} (he : ∀ d ∈ ds, d.edges.length ≤ 10) (n room : Nat) (hl : ds.length ≤ 14) : sizeG ds room n ≤ 1 + room + 16 * 14 := by
  unfold sizeG
  have key : ∀ l : List Nd, (∀ d ∈ l, d.edges.length ≤ 10) → (l.map szN).sum ≤ 16 * l.length := by
    intro l hl
    induction l with
    | nil => simp
    | cons d l ih =>
      have h1 := ih fun x hx => hl x (List.mem_cons_of_mem _ hx)
      have h2 := hl d (List.mem_cons_self ..)
      have h3 := Int.emod_lt_of_pos d.more (show (0 : Int) < 4 by omega)
      have h4 := Int.emod_nonneg d.more (show (4 : Int) ≠ 0 by omega)
      have h5 : szN d ≤ 16 := by
        unfold szN
        generalize d.more % 4 = t at *
        omega
      rw [List.map_cons, List.sum_cons, List.length_cons]
      omega
  have h1 := key (ds.take n) fun d hd => he d (List.mem_of_mem_take hd)
  rw [List.length_take] at h1
  omega
theorem good_inr {obs : List Ob} {r : Int} (h : astrayO obs r = false) (hm : (flat obs).length ≤ 65536) : InR r := by
  unfold InR
  rcases live_astray h with rfl | ⟨pre, o, post, e, e2, -⟩
  · omega
  · have : (flat obs).length = (flat pre).length + (1 + o.2.length) + (flat post).length := by rw [e, flat_append, flat_cons]; simp; omega
    omega
end Go.Proofs.Ytklhdilbmpndkaa

namespace Go.Proofs.Ytklhdilbmpndkaa
set_option maxRecDepth 20000
open Go.RowKit
set_option linter.unusedVariables false
set_option linter.unusedSimpArgs false

theorem mk_far {w : World} {mg mw Z : Nat} {ws : List Nat} (h : Mk.At w mg mw Z ws) {p : Addr} (h1 : mg ≠ p.block) (h2 : mw ≠ p.block) (u : Value) : Mk.At (w.setCell p u) mg mw Z ws :=
  ⟨h.own.far h1 u, h.words.far h2 u, h.many, h.some_, h.most, h.fit, h.in_⟩
set_option maxRecDepth 1000000 in
set_option maxHeartbeats 4000000 in
theorem news_far (A0 B0 C0 : Option Addr) (n cN m cR q cZ : Nat) (x0 x1 : Int) (ds : List Nd) (w : World) (hd : CameN w A0 n ds) (hm : m ≤ maxLen) (hq : q ≤ maxLen) (h : fewB ds m = false ∨ 40 < q) :
    Calls Try.prog 3 #[.agg #[.slice A0 n cN, .slice B0 m cR], .slice C0 q cZ, .agg #[.int .i64 x0, .int .i64 x1]] w fun e w' => e = .returned (.bool true) ∧ Below w.heap.size w w' := by
  have HD := Lib.hid hd
  have b0 : Below w.heap.size w ((w.alloc (.cells #[.slice A0 n cN, .slice B0 m cR] 25)).alloc (.cells #[.int .i64 x0, .int .i64 x1] 26)) := ((Below.refl _ w).alloc (Nat.le_refl _) _).alloc (by simp) _
  have LX : Lies ((w.alloc (.cells #[.slice A0 n cN, .slice B0 m cR] 25)).alloc (.cells #[.int .i64 x0, .int .i64 x1] 26)) w.heap.size 25 [.slice A0 n cN, .slice B0 m cR] := (Lies.new w 25 [_, _]).alloc _
  have LY : Lies ((w.alloc (.cells #[.slice A0 n cN, .slice B0 m cR] 25)).alloc (.cells #[.int .i64 x0, .int .i64 x1] 26)) (w.heap.size + 1) 26 [.int .i64 x0, .int .i64 x1] := by
    have := Lies.new (w.alloc (.cells #[.slice A0 n cN, .slice B0 m cR] 25)) 26 [.int .i64 x0, .int .i64 x1]
    rw [World.size_alloc] at this; exact this
  obtain ⟨w1, hw1⟩ : ∃ w1, (w.alloc (.cells #[.slice A0 n cN, .slice B0 m cR] 25)).alloc (.cells #[.int .i64 x0, .int .i64 x1] 26) = w1 := ⟨_, rfl⟩
  rw [hw1] at b0 LX LY
  have HW1 := Lib.hid hw1
  have HB1 := Lib.hid b0
  have HLX := Lib.hid LX
  have HLY := Lib.hid LY
  clear b0 LX LY hw1
  clear hd
  unfold maxLen at hm hq
  go_enter Try.func3, Try.ntmps3
  go_upto_region 1 with fail
  rw [HW1.out]
  go_wp2_with fail
  refine (awake_any _).mono ?_
  rintro e w2 ⟨rfl, hb2⟩
  have L2 := HLX.out.kept hb2
  have y0 : w2.cell? ⟨w.heap.size, 0, none⟩ = some (.slice A0 n cN) := L2.cell 0
  have y1 : w2.cell? ⟨w.heap.size, 1, none⟩ = some (.slice B0 m cR) := L2.cell 1
  have HB2 := Lib.hid (on HB1.out HB1.out.size hb2)
  clear hb2 L2
  go_wp2_with fail
  refine (few_any A0 B0 n cN m cR ds ⟨HD.out.1, HD.out.2.1.kept HB2.out, HD.out.2.2⟩ (by unfold maxLen; exact hm)).mono ?_
  rintro e w3 ⟨rfl, hb3⟩
  have HB3 := Lib.hid (on HB2.out HB2.out.size hb3)
  clear hb3 y0 y1
  cases hf : fewB ds m with
  | false =>
    clear hf h
    go_wp2_with fail
    refine (awake_any _).mono ?_
    rintro e w4 ⟨rfl, hb4⟩
    have HB4 := Lib.hid (on HB3.out HB3.out.size hb4)
    clear hb4
    go_wp2
    go_ret
    exact ⟨rfl, HB4.out⟩
  | true =>
    have hq40 : 40 < q := by rcases h with h | h; · rw [hf] at h; cases h
                             · exact h
    have d1 : decide ((40 : Int) < (q : Int)) = true := by simp; omega
    clear hf h
    go_wp2_with fail
    refine (awake_any _).mono ?_
    rintro e w4 ⟨rfl, hb4⟩
    have HB4 := Lib.hid (on HB3.out HB3.out.size hb4)
    clear hb4
    go_wp2
    go_ret
    exact ⟨rfl, HB4.out⟩

set_option maxRecDepth 1000000 in
set_option maxHeartbeats 4000000 in
theorem news_near (A0 B0 C0 : Option Addr) (n cN m cR q cZ : Nat) (x0 x1 : Int) (ds : List Nd) (rs zs : List Int) (w : World) (hd : CameN w A0 n ds) (hr : Mk.Came .u8 w B0 m rs) (hz : Mk.Came .u8 w C0 q zs) (hf : fewB ds m = true) (hq : q ≤ 40) (hx0 : InR x0) (hx1 : InR x1) :
    Calls Try.prog 3 #[.agg #[.slice A0 n cN, .slice B0 m cR], .slice C0 q cZ, .agg #[.int .i64 x0, .int .i64 x1]] w fun e w' => e = .returned (.bool true) ∧ Below w.heap.size w w' := by
  have HD := Lib.hid hd
  have HR := Lib.hid hr
  have HZ := Lib.hid hz
  have HF := Lib.hid hf
  have hfew := hf
  unfold fewB at hfew
  simp only [Bool.and_eq_true, List.all_eq_true, decide_eq_true_eq] at hfew
  obtain ⟨he, hn14, hm14⟩ := hfew
  rw [hd.1] at hn14
  have hdl : ds.length = n := hd.1
  have HE := Lib.hid he
  have HX0 := Lib.hid hx0
  have HX1 := Lib.hid hx1
  have d1 : decide ((40 : Int) < (q : Int)) = false := by simp; omega
  have b0 : Below w.heap.size w ((w.alloc (.cells #[.slice A0 n cN, .slice B0 m cR] 25)).alloc (.cells #[.int .i64 x0, .int .i64 x1] 26)) := ((Below.refl _ w).alloc (Nat.le_refl _) _).alloc (by simp) _
  have LX : Lies ((w.alloc (.cells #[.slice A0 n cN, .slice B0 m cR] 25)).alloc (.cells #[.int .i64 x0, .int .i64 x1] 26)) w.heap.size 25 [.slice A0 n cN, .slice B0 m cR] := (Lies.new w 25 [_, _]).alloc _
  have LY : Lies ((w.alloc (.cells #[.slice A0 n cN, .slice B0 m cR] 25)).alloc (.cells #[.int .i64 x0, .int .i64 x1] 26)) (w.heap.size + 1) 26 [.int .i64 x0, .int .i64 x1] := by
    have := Lies.new (w.alloc (.cells #[.slice A0 n cN, .slice B0 m cR] 25)) 26 [.int .i64 x0, .int .i64 x1]
    rw [World.size_alloc] at this; exact this
  obtain ⟨w1, hw1⟩ : ∃ w1, (w.alloc (.cells #[.slice A0 n cN, .slice B0 m cR] 25)).alloc (.cells #[.int .i64 x0, .int .i64 x1] 26) = w1 := ⟨_, rfl⟩
  rw [hw1] at b0 LX LY
  have HW1 := Lib.hid hw1
  have HB1 := Lib.hid b0
  have HLX := Lib.hid LX
  have HLY := Lib.hid LY
  clear b0 LX LY hw1
  clear hd hr hz hf he hx0 hx1
  go_enter Try.func3, Try.ntmps3
  go_upto_region 1 with fail
  rw [HW1.out]
  go_wp2_with fail
  refine (awake_any _).mono ?_
  rintro e w2 ⟨rfl, hb2⟩
  have L2 := HLX.out.kept hb2
  have y0 : w2.cell? ⟨w.heap.size, 0, none⟩ = some (.slice A0 n cN) := L2.cell 0
  have y1 : w2.cell? ⟨w.heap.size, 1, none⟩ = some (.slice B0 m cR) := L2.cell 1
  have HL2 := Lib.hid L2
  have HB2 := Lib.hid (on HB1.out HB1.out.size hb2)
  have HY2 := Lib.hid (HLY.out.kept hb2)
  clear hb2 L2
  go_wp2_with fail
  refine (few_any A0 B0 n cN m cR ds ⟨HD.out.1, HD.out.2.1.kept HB2.out, HD.out.2.2⟩ (by unfold maxLen; omega)).mono ?_
  rintro e w3 ⟨rfl, hb3⟩
  rw [HF.out]
  have L3 := HL2.out.kept hb3
  have y2 : w3.cell? ⟨w.heap.size, 0, none⟩ = some (.slice A0 n cN) := L3.cell 0
  have y3 : w3.cell? ⟨w.heap.size, 1, none⟩ = some (.slice B0 m cR) := L3.cell 1
  have HB3 := Lib.hid (on HB2.out HB2.out.size hb3)
  have HY3 := Lib.hid (HY2.out.kept hb3)
  clear hb3 L3 y0 y1
  go_wp2_with fail
  refine (build_any A0 B0 n cN m cR 1 ds rs ⟨HD.out.1, HD.out.2.1.kept HB3.out, HD.out.2.2⟩ ⟨HR.out.1, HR.out.2.1.kept HB3.out, HR.out.2.2⟩ hn14 hm14 HE.out (by omega)).mono ?_
  rintro e w4 ⟨g, gw, gb, base, obs, tail, A, n', c, xs, B, cap, rts, rfl, BT⟩
  have hZs := size_small HE.out n 1 (by omega)
  obtain ⟨Z, hZ⟩ : ∃ Z, sizeG ds 1 n = Z := ⟨_, rfl⟩
  rw [hZ] at BT hZs ⊢
  have HZ1 : 1 ≤ Z := by rw [← hZ]; unfold sizeG; omega
  have bX := below_one w4 (.cells #[.int .i64 (Z : Int), .slice A n' c] 33)
  have HBT := Lib.hid (BT.kept bX)
  have HB4 := Lib.hid (on (on HB3.out HB3.out.size BT.old) (on HB3.out HB3.out.size BT.old).size bX)
  have HY4 := Lib.hid ((HY3.out.kept BT.old).kept bX)
  have HLB := Lib.hid (show Lies (w4.alloc (.cells #[.int .i64 (Z : Int), .slice A n' c] 33)) w4.heap.size 33 [.int .i64 (Z : Int), .slice A n' c] from Lies.new w4 33 [_, _])
  have sX : (w4.alloc (.cells #[.int .i64 (Z : Int), .slice A n' c] 33)).heap.size = w4.heap.size + 1 := by simp
  obtain ⟨w5, hw5⟩ : ∃ w5, w4.alloc (.cells #[.int .i64 (Z : Int), .slice A n' c] 33) = w5 := ⟨_, rfl⟩
  rw [hw5] at HBT HB4 HY4 HLB sX
  have HW5 := Lib.hid hw5
  obtain ⟨rb, hrb⟩ : ∃ rb, w4.heap.size = rb := ⟨_, rfl⟩
  rw [hrb] at HLB sX
  have HRB := Lib.hid hrb
  have HSX := Lib.hid sX
  clear BT bX hZ hw5 hrb sX y2 y3 HL2
  go_upto_region 4 with fail
  rw [HW5.out, HRB.out]
  go_wp2_with fail
  refine (size_z HBT.out.st Z HBT.out.len).mono ?_
  rintro e w6 ⟨rfl, rfl⟩
  go_wp2_with fail
  refine (Mk.new_yes (Z : Int) Z rfl _ HZ1 (by omega)).mono ?_
  rintro e w7 ⟨mg, mw, rfl, hb7, hmg, hmw, M7⟩
  have HB7 := Lib.hid hb7
  have HM7 := Lib.hid M7
  have x1c : w7.cell? ⟨rb, 1, none⟩ = some (.slice A n' c) := (HLB.out.kept hb7).cell 1
  have hcnt := HBT.out.count
  have hlenZ := HBT.out.len
  have hn14' : n' ≤ 300 := by
    have h1 := count_le obs
    rw [List.length_append] at hlenZ; omega
  have hmk := make75 n' (by omega) w7
  clear hb7 M7
  go_upto_region 5 with fail
  obtain ⟨sq, hsq⟩ : ∃ sq, w7.heap.size = sq := ⟨_, rfl⟩
  have LQ : Lies (w7.alloc (.cells (noBits n').toArray 4)) w7.heap.size 4 (noBits n') := Lies.new w7 4 _
  have B8 := below_one w7 (.cells (noBits n').toArray 4)
  obtain ⟨w8, hw8⟩ : ∃ w8, w7.alloc (.cells (noBits n').toArray 4) = w8 := ⟨_, rfl⟩
  rw [hw8] at hmk LQ B8
  rw [hsq] at hmk LQ
  go_wp2_with fail
  have hz0 : stL (markB obs (zs.take 0)) obs = List.replicate n' false := by
    rw [stL_none obs (fun p => by simp [markB]), hcnt]
  have HLQ : Hid (Lies w8 sq 4 ((stL (markB obs (zs.take 0)) obs).map Value.bool)) := Lib.hid (by rw [hz0, ← noBits_eq]; exact LQ)
  have HM8 := Lib.hid (HM7.out.kept B8)
  have HB8 := Lib.hid (on HB7.out HB7.out.size B8)
  have hmgl := HM7.out.own.lt
  have hmwl := HM7.out.words.lt
  have h7s := HB7.out.size
  clear hmk LQ B8 hw8 hz0 x1c
  go_loopw [56] (fun i wr => ∃ (k : Nat) (ws : List Nat), k ≤ q ∧ i = .int .i64 k ∧ Mk.At wr mg mw Z ws ∧ (∀ p, Mk.bit ws p = markB obs (zs.take k) p) ∧ Lies wr sq 4 ((stL (markB obs (zs.take k)) obs).map Value.bool) ∧ Below w6.heap.size w6 wr) (fun i _ => q - (intOf i).toNat)
  case atStart => exact ⟨0, _, Nat.zero_le _, rfl, HM8.out, fun p => by rw [Mk.bit_new]; simp [markB], HLQ.out, HB8.out⟩
  case round =>
    obtain ⟨k, ws, hk, rfl, M, hbits, hL, hb⟩ := hrel
    have HB := Lib.hid hbits
    have HM := Lib.hid M
    have HL := Lib.hid hL
    have HBB := Lib.hid hb
    have T := HBT.out.kept hb
    have xl : wr.cell? ⟨rb, 1, none⟩ = some (.slice A n' c) := (HLB.out.kept hb).cell 1
    by_cases hlt : k < q
    · have k0 : (0 : Int) ≤ (k : Int) := by omega
      have k1 : (k : Int) < (q : Int) := by omega
      obtain ⟨adz, rfl, cz⟩ := (HZ.out.2.1.kept (on HB4.out HB4.out.size hb)).at_ (show k < zs.length by rw [HZ.out.1]; exact hlt)
      obtain ⟨z, hz⟩ : ∃ z, zs[k]'(by rw [HZ.out.1]; exact hlt) = z := ⟨_, rfl⟩
      rw [hz] at cz
      have hz0 := (u8_all (HZ.out.2.2 _ (List.getElem_mem (by rw [HZ.out.1]; exact hlt : k < zs.length))))
      rw [hz] at hz0
      obtain ⟨hz0, hz1⟩ := hz0
      have htk : zs.take (k + 1) = zs.take k ++ [z] := by
        have hlt2 : k < zs.length := by rw [HZ.out.1]; exact hlt
        rw [← List.take_append_getElem hlt2, hz]
      have HTK := Lib.hid htk
      have HT := Lib.hid T
      have b1 : IntKind.i64.wrap z = z := IntWalk.i64_in _ (by omega)
      clear hz htk hbits M T hL hb
      by_cases hn0 : n' = 0
      · subst hn0
        have hobs : obs = [] := List.eq_nil_of_length_eq_zero hcnt
        have d0 : decide ((0 : Int) < ((0 : Nat) : Int)) = false := by simp
        go_wp2
        have hsame : ∀ p, markB obs (zs.take (k + 1)) p = markB obs (zs.take k) p := fun p => by rw [HTK.out, mark_more, hobs]; simp
        refine ⟨⟨k + 1, ws, by omega, by go_num, HM.out, fun p => ?_, ?_, HBB.out⟩, by simp [intOf]; omega⟩
        · rw [hsame, HB.out]
        · have := HL.out
          rw [show markB obs (zs.take (k + 1)) = markB obs (zs.take k) from funext hsame]; exact this
      · have d0 : decide ((0 : Int) < (n' : Int)) = true := by simp; omega
        obtain ⟨i, hi⟩ : ∃ i : Nat, z % (n' : Int) = i := ⟨(z % (n' : Int)).toNat, by have := Int.emod_nonneg z (show (n' : Int) ≠ 0 by omega); omega⟩
        have hin : (i : Int) < (n' : Int) := by rw [← hi]; exact Int.emod_lt_of_pos z (by omega)
        obtain ⟨o, ho⟩ : ∃ o, obs[i]? = some o := ⟨_, List.getElem?_eq_getElem (by omega)⟩
        obtain ⟨ad, B1, cc, rfl, c0, c1, -⟩ := HT.out.own.things.at_ ho
        have hlt3 := at_lt ho
        obtain ⟨p, hp⟩ : ∃ p, atI obs i = p := ⟨_, rfl⟩
        rw [hp] at c0 hlt3
        have hpZ : p < Z := by rw [List.length_append] at hlenZ; omega
        have hmkk : ∀ x, markB obs (zs.take (k + 1)) x = (decide (x = atI obs i) || markB obs (zs.take k) x) := fun x => by
          have hne : obs ≠ [] := fun e => by rw [e] at hcnt; simp at hcnt; omega
          rw [HTK.out, mark_more, hcnt, hi, Int.toNat_natCast, Bool.or_comm]
          simp [hne]
        have hst := stL_set (f := markB obs (zs.take k)) (f' := markB obs (zs.take (k + 1))) ho hmkk
        rw [hp] at hmkk
        have HMK := Lib.hid hmkk
        have i0 : (0 : Int) ≤ (i : Int) := by omega
        have b2 : z.tmod (n' : Int) = (i : Int) := by rw [Int.tmod_eq_emod_of_nonneg hz0]; exact hi
        have b3 : ((i : Nat) : Int).toNat = i := Int.toNat_natCast i
        have nz : ¬ ((n' : Int) = 0) := by omega
        have nz2 : ¬ (n' = 0) := hn0
        have HST := Lib.hid hst
        have HO := Lib.hid ho
        have HSET := Lib.hid (Mk.set_yes HM.out p hpZ)
        have hil : i < obs.length := by omega
        clear hmkk ho hp hlt3 hst c1
        go_wp2_with fail
        refine HSET.out.mono ?_
        rintro e w9 ⟨rfl, M9, E9⟩
        have B9 : Below w6.heap.size wr w9 := E9.below HBB.out.size (by omega) (by omega)
        have HB9 := Lib.hid (HBB.out.trans B9)
        have HM9 := Lib.hid M9
        have L9 := HL.out.of_block (E9.block sq HL.out.lt (by omega) (by omega))
        have HL9 := Lib.hid L9
        have xl : w9.cell? ⟨rb, 1, none⟩ = some (.slice (some ad) n' c) := (HLB.out.kept HB9.out).cell 1
        have hT9 := HBT.out.kept HB9.out
        obtain ⟨ad2, B2, cc2, e2, -, c1', -⟩ := hT9.own.things.at_ HO.out
        injection e2 with e2
        subst e2
        obtain ⟨bo, hbo⟩ : ∃ bo, (stL (markB obs (zs.take k)) obs)[i]? = some bo := ⟨_, List.getElem?_eq_getElem (by rw [stL_len]; exact hil)⟩
        have cq : w9.cell? ⟨sq, i, none⟩ = some (.bool bo) := by rw [L9.cell, List.getElem?_map, hbo]; rfl
        have cf := L9.frozen i
        have ea : (⟨sq, 0, none⟩ : Addr).add i = ⟨sq, i, none⟩ := add_at sq i
        obtain ⟨kd, hkd⟩ : ∃ kd, o.1 % 16 = kd := ⟨_, rfl⟩
        rw [hkd] at c1' HST
        have hne15 : (kd != 15) = decide (kd ≠ 15) := by
          by_cases h15 : kd = 15 <;> simp [h15]
        have HNE := Lib.hid hne15
        have hms : Hid (∀ x, Mk.bit (Mk.setW ws p) x = markB obs (zs.take (k + 1)) x) := Lib.hid fun x => by rw [Mk.bit_set _ _ _ (HM.out.place hpZ), HB.out, HMK.out]
        clear hT9 L9 E9 M9 B9 hkd hbo hne15
        go_wp2_with fail
        refine ⟨⟨k + 1, Mk.setW ws p, by omega, by go_num, mk_far HM9.out (p := ⟨sq, i, none⟩) (by show mg ≠ sq; omega) (by show mw ≠ sq; omega) _, hms.out, ?_, HB9.out.setCell (p := ⟨sq, i, none⟩) (by show w6.heap.size ≤ sq; omega) _⟩, by simp [intOf]; omega⟩
        rw [← HST.out, List.map_set, HNE.out]
        exact HL9.out.set i _
    · obtain rfl : k = q := by omega
      have hall : zs.take k = zs := by rw [← HZ.out.1, List.take_length]
      rw [hall] at HB HL
      have hfb : Mk.bit ws = markB obs zs := funext HB.out
      rw [← hfb] at HL
      have yx0 : wr.cell? ⟨w.heap.size + 1, 0, none⟩ = some (.int .i64 x0) := (HY4.out.kept hb).cell 0
      have yx1 : wr.cell? ⟨w.heap.size + 1, 1, none⟩ = some (.int .i64 x1) := (HY4.out.kept hb).cell 1
      have hlenF : (flat obs).length ≤ Z := by rw [List.length_append] at hlenZ; omega
      have HT := Lib.hid T
      have hin : ∀ o ∈ obs, ∀ z ∈ o.2, InR z := fun o ho => (T.clean o ho).1
      have HIN := Lib.hid hin
      have HBW := Lib.hid (on HB4.out HB4.out.size hb)
      have HY5 := Lib.hid (HY4.out.kept hb)
      have HLB5 := Lib.hid (HLB.out.kept hb)
      clear hbits M hL hb T xl hall hin hfb hmgl hmwl
      by_cases hbad : x1 < 1 ∨ 64 < x1
      · have HN := Lib.hid (fun V => snew_range (w := V) g mg x0 x1 hbad)
        go_wp2_with fail
        refine (HN.out _).mono ?_
        rintro e w9 ⟨rfl, hb9⟩
        have HB9 := Lib.hid (on HBW.out HBW.out.size hb9)
        have yx1 : w9.cell? ⟨w.heap.size + 1, 1, none⟩ = some (.int .i64 x1) := (HY5.out.kept hb9).cell 1
        clear hb9 HN
        by_cases h1 : x1 < 1
        · have d2 : decide (x1 < 1) = true := by simp [h1]
          go_wp2_with fail
          go_ret
          exact ⟨rfl, HB9.out⟩
        · have d2 : decide (x1 < 1) = false := by simp [h1]
          have d3 : decide (64 < x1) = true := by simp; omega
          go_wp2_with fail
          go_ret
          exact ⟨rfl, HB9.out⟩
      · obtain ⟨nw, hnw⟩ : ∃ nw : Nat, x1 = (nw : Int) := ⟨x1.toNat, by omega⟩
        subst hnw
        obtain ⟨W, hW⟩ : ∃ W, wOf x0 = W := ⟨_, rfl⟩
        obtain ⟨top, htop⟩ : ∃ top, (flat obs).length = top := ⟨_, rfl⟩
        obtain ⟨K, hK⟩ : ∃ K, K = (top + W - 1) / W := ⟨_, rfl⟩
        have HN := Lib.hid (snew_any HT.out.st HM.out x0 nw W K top hW htop hK HX0.out (by omega) (by omega) HIN.out (by omega))
        have d2 : decide ((nw : Int) < 1) = false := by simp; omega
        have d3 : decide (64 < (nw : Int)) = false := by simp; omega
        go_wp2_with fail
        refine HN.out.mono ?_
        rintro e w9 ⟨hno, hyes, hb9⟩
        have HB9 := Lib.hid (on HBW.out HBW.out.size hb9)
        have HT9 := Lib.hid (HT.out.kept hb9)
        have HLB9 := Lib.hid (HLB5.out.kept hb9)
        have HLQ9 := Lib.hid (HL.out.kept hb9)
        have hcle : (flat obs).length ≤ 65536 := by omega
        have HRG := Lib.hid (fun V (hV : Below w9.heap.size w9 V) => dright_any (w := V) (A := A) (st := stL (Mk.bit ws) obs) (f := Mk.bit ws) (Z : Int) n' c sq HT9.out.st.fine (HT9.out.own.things.kept hV) hcnt hcle (HLQ9.out.kept hV) (stb_of _ _) HIN.out)
        have HWD := Lib.hid (fun V (hV : Below w9.heap.size w9 V) (z : Int) (hz : InR z) => dword_any (w := V) (A := A) (st := stL (Mk.bit ws) obs) (f := Mk.bit ws) (Z : Int) n' c sq z hz HT9.out.st.fine (HT9.out.own.things.kept hV) hcnt hcle (HLQ9.out.kept hV) (stb_of _ _))
        have r0 : w9.cell? ⟨rb, 0, none⟩ = some (.int .i64 (Z : Int)) := HLB9.out.cell 0
        have r1 : w9.cell? ⟨rb, 1, none⟩ = some (.slice A n' c) := HLB9.out.cell 1
        have yx1 : w9.cell? ⟨w.heap.size + 1, 1, none⟩ = some (.int .i64 (nw : Nat)) := (HY5.out.kept hb9).cell 1
        have hrl : rts.length = m := by rw [HT9.out.rts_, List.length_map]; exact HR.out.1
        have HRI : Hid (∀ z ∈ rts, InR z) := Lib.hid fun z hz => good_inr (HT9.out.good z hz) hcle
        have HRO : Hid (Row w9 B rts) := Lib.hid (Row.of_rv HT9.out.row)
        clear hb9 HN yx0
        cases hR : rightB (Mk.bit ws) (adr 0 obs) with
        | false =>
          have he := hno hR
          subst he
          rw [hR] at HRG
          clear hno hyes hR
          go_wp2_with fail
          refine (HRG.out w9 (Below.refl _ _)).mono ?_
          rintro e w10 ⟨rfl, hb10⟩
          have HB10 := Lib.hid (on HB9.out HB9.out.size hb10)
          clear hb10 r0 r1 yx1
          go_wp2_with fail
          go_ret
          exact ⟨rfl, HB10.out⟩
        | true =>
          obtain ⟨w0, C, rfl, hSl, -, -, -, -, hCf, hCo, -⟩ := hyes hR
          rw [hR] at HRG
          have HSL := Lib.hid hSl
          clear hno hyes hR hSl
          go_wp2_with fail
          refine (HRG.out w9 (Below.refl _ _)).mono ?_
          rintro e w10 ⟨rfl, hb10⟩
          have HSL10 := Lib.hid (HSL.out.kept hb10)
          have HB10 := Lib.hid hb10
          have HC10 := Lib.hid (on HB9.out HB9.out.size hb10)
          clear hb10 r0 r1 yx1
          have HTC := Lib.hid (touches_any HSL10.out)
          have HMV := Lib.hid (moved_any HSL10.out)
          have e1 : (Ms.new (flat obs ++ tail) (sgL (Mk.bit ws) W K (adr 0 obs) (adr 0 obs)) top).touches = 0 := rfl
          have e2 : (Ms.new (flat obs ++ tail) (sgL (Mk.bit ws) W K (adr 0 obs) (adr 0 obs)) top).moved = 0 := rfl
          rw [e1] at HTC
          rw [e2] at HMV
          clear e1 e2
          go_wp2_with fail
          refine HTC.out.mono ?_
          rintro e w11 ⟨rfl, rfl⟩
          go_wp2_with fail
          refine HMV.out.mono ?_
          rintro e w11 ⟨rfl, rfl⟩
          go_wp2_with fail
          go_loopw [142, 18] (fun i rr wr => ∃ j : Nat, j ≤ m ∧ i = .int .i64 (j : Nat) ∧ rr = .bool ((rts.take j).all (okW (Mk.bit ws) (adr 0 obs))) ∧ Below w9.heap.size w9 wr) (fun i _ _ => m - (intOf i).toNat)
          case atStart => exact ⟨0, Nat.zero_le _, rfl, rfl, HB10.out⟩
          case round =>
            obtain ⟨j, hj, rfl, rfl, hb⟩ := hrel
            have HB := Lib.hid hb
            by_cases hjm : j < m
            · obtain ⟨ad, rfl, hcell⟩ := (HRO.out.kept hb).at_ (i := j) (by rw [hrl]; exact hjm)
              have j0 : (0 : Int) ≤ (j : Int) := by omega
              have j1 : (j : Int) < (m : Int) := by omega
              have hjl : j < rts.length := by omega
              have hzr : InR (rts.getD j 0) := HRI.out _ (by simp [List.getD, hjl])
              have htk : (rts.take (j + 1)).all (okW (Mk.bit ws) (adr 0 obs)) = ((rts.take j).all (okW (Mk.bit ws) (adr 0 obs)) && okW (Mk.bit ws) (adr 0 obs) (rts.getD j 0)) := by
                have hg : rts.getD j 0 = rts[j] := by simp [List.getD, hjl]
                rw [List.take_add_one, List.getElem?_eq_getElem hjl, hg, List.all_append]
                simp
              have HTK := Lib.hid htk
              have hWD := Lib.hid (fun V hV => HWD.out V hV _ hzr)
              have r0 : wr.cell? ⟨rb, 0, none⟩ = some (.int .i64 (Z : Int)) := (HLB9.out.kept hb).cell 0
              have r1 : wr.cell? ⟨rb, 1, none⟩ = some (.slice A n' c) := (HLB9.out.kept hb).cell 1
              obtain ⟨z, hz⟩ : ∃ z, rts.getD j 0 = z := ⟨_, rfl⟩
              rw [hz] at hWD hcell HTK
              obtain ⟨al, hal⟩ : ∃ al, (rts.take j).all (okW (Mk.bit ws) (adr 0 obs)) = al := ⟨_, rfl⟩
              rw [hal] at HTK ⊢
              clear hb htk hz hzr hal
              go_wp2_with fail
              refine (hWD.out wr HB.out).mono ?_
              rintro e w12 ⟨rfl, hb12⟩
              have HB12 := Lib.hid (on HB.out HB.out.size hb12)
              clear hb12 r0 r1 hcell hWD
              obtain ⟨okz, hokz⟩ : ∃ okz, okW (Mk.bit ws) (adr 0 obs) z = okz := ⟨_, rfl⟩
              rw [hokz] at HTK ⊢
              obtain ⟨mv, hmv⟩ : ∃ mv, (if okz = true then mvW (Mk.bit ws) (adr 0 obs) z else 0) = mv := ⟨_, rfl⟩
              rw [hmv]
              clear hokz hmv
              cases al with
              | true =>
                go_wp2_with fail
                refine ⟨⟨j + 1, by omega, by go_num, ?_, HB12.out⟩, by simp [intOf]; omega⟩
                rw [HTK.out]; simp
              | false =>
                go_wp2_with fail
                refine ⟨⟨j + 1, by omega, by go_num, ?_, HB12.out⟩, by simp [intOf]; omega⟩
                rw [HTK.out]; simp
            · obtain rfl : j = m := by omega
              have hRo := Lib.hid (roots_any (HSL.out.kept hb) B j cap rts (HRO.out.kept hb) hrl (by omega) HRI.out)
              rw [hCf, hCo] at hRo
              rw [List.take_of_length_le (by omega)]
              go_wp2_with fail
              refine hRo.out.mono ?_
              rintro e w12 ⟨h1, h2, hb12⟩
              have HB12 := Lib.hid (on HB9.out HB9.out.size (on HB.out HB.out.size hb12))
              cases hal : rts.all (okW (Mk.bit ws) (adr 0 obs)) with
              | true =>
                obtain ⟨q2, rfl, -⟩ := h1 hal
                clear h1 h2 hRo hb12 hal
                go_wp2_with fail
                go_ret
                exact ⟨rfl, HB12.out⟩
              | false =>
                have he := h2 hal
                subst he
                clear h1 h2 hRo hb12 hal
                go_wp2_with fail
                go_ret
                exact ⟨rfl, HB12.out⟩
end Go.Proofs.Ytklhdilbmpndkaa
