/- The document's fixed fact. Of a list of objects, one by one: what the laws want to know. -/
import Derived.Test.YtehmcbpkhknpcaaGn
namespace Go.Proofs.Ytehmcbpkhknpcaa
set_option maxRecDepth 20000
open Go.RowKit
set_option linter.unusedVariables false
set_option linter.unusedSimpArgs false

theorem awake_obs {obs : List Ob} (hf : Fine obs) (hh : obs.map Prod.fst = (laidG [⟨0, [], 0⟩, ⟨0, [], 1⟩] 2).1.map Prod.fst) : ∃ o p, obs = [o, p] ∧ o.1 % 16 = 0 ∧ o.2.length = 0 ∧ p.1 % 16 = 0 ∧ p.2.length = 1 := by
  have e : (laidG [⟨0, [], 0⟩, ⟨0, [], 1⟩] 2).1.map Prod.fst = [0, 65536] := by decide
  rw [e] at hh
  match obs, hh, hf with
  | [], hh, hf => simp at hh
  | [o], hh, hf => simp at hh
  | [o, p], hh, hf =>
    simp at hh
    obtain ⟨h1, h2⟩ := hh
    refine ⟨o, p, rfl, by rw [h1]; rfl, ?_, by rw [h2]; rfl, ?_⟩
    · rw [(hf o (by simp)).2, h1]; rfl
    · rw [(hf p (by simp)).2, h2]; rfl
  | o :: p :: r :: l, hh, hf => simp at hh
theorem awake_facts (o p : Ob) (f : Nat → Bool) (hf : ∀ x, f x = markB [o, p] [1] x) (h1 : o.2.length = 0) (h2 : p.1 % 16 = 0) (h3 : p.2.length = 1) :
    isK f (adr 0 [o, p]) 1 = true ∧ goS f (adr 0 [o, p]) 1 = 0 ∧ sumL ((adr 0 [o, p]).filter (keepB f)) = 2 := by
  have ha : atI [o, p] 1 = 1 := by simp [atI, flat, h1]
  have f0 : f 0 = false := by rw [hf]; simp [markB, ha]
  have f1 : f 1 = true := by rw [hf]; simp [markB, ha]
  have e : adr 0 [o, p] = [(0, o), (1, p)] := by simp [adr, h1]
  have k0 : keepB f (0, o) = false := by simp [keepB, f0]
  have k1 : keepB f (1, p) = true := by simp [keepB, f1, h2]
  rw [e]
  refine ⟨?_, ?_, ?_⟩
  · simp [isK, k0, k1]
  · simp [goS, k0, sumL]
  · simp [k0, k1, sumL, h3]

set_option maxRecDepth 1000000 in
set_option maxHeartbeats 2000000 in
theorem awake_any (w : World) : Calls Try.prog 7 #[] w fun e w' => e = .returned (.bool true) ∧ Below w.heap.size w w' := by
  go_enter Try.func7, Try.ntmps7
  go_wp2_with fail
  have b1 : Below w.heap.size w ((w.alloc (.cells #[.int .u8 0, .slice none 0 0, .int .u8 0, .int .u8 0, .slice none 0 0, .int .u8 1] 60)).alloc (.cells #[.int .u8 1] 5)) := ((Below.refl _ w).alloc (Nat.le_refl _) _).alloc (by simp) _
  have L1 : Lies ((w.alloc (.cells #[.int .u8 0, .slice none 0 0, .int .u8 0, .int .u8 0, .slice none 0 0, .int .u8 1] 60)).alloc (.cells #[.int .u8 1] 5)) w.heap.size 60 [.int .u8 0, .slice none 0 0, .int .u8 0, .int .u8 0, .slice none 0 0, .int .u8 1] := (Lies.new w 60 [_, _, _, _, _, _]).alloc _
  have L2 : Lies ((w.alloc (.cells #[.int .u8 0, .slice none 0 0, .int .u8 0, .int .u8 0, .slice none 0 0, .int .u8 1] 60)).alloc (.cells #[.int .u8 1] 5)) (w.heap.size + 1) 5 [.int .u8 1] := by
    have := Lies.new (w.alloc (.cells #[.int .u8 0, .slice none 0 0, .int .u8 0, .int .u8 0, .slice none 0 0, .int .u8 1] 60)) 5 [.int .u8 1]
    rw [World.size_alloc] at this; exact this
  obtain ⟨w1, hw1⟩ : ∃ w1, (w.alloc (.cells #[.int .u8 0, .slice none 0 0, .int .u8 0, .int .u8 0, .slice none 0 0, .int .u8 1] 60)).alloc (.cells #[.int .u8 1] 5) = w1 := ⟨_, rfl⟩
  rw [hw1] at b1 L1 L2 ⊢
  have hN : CameN w1 (some ⟨w.heap.size, 0, none⟩) 2 [⟨0, [], 0⟩, ⟨0, [], 1⟩] := by
    refine ⟨rfl, fun i d hd => ?_, fun d hd => ?_, by unfold maxLen; omega⟩
    · match i, hd with
      | 0, hd =>
        simp at hd; subst hd
        refine ⟨⟨w.heap.size, 0, none⟩, none, 0, rfl, L1.lt, fun j v hv => ?_, fun h => by simp at h⟩
        rw [Nat.zero_mul, Nat.zero_add, add_at, L1.cell]
        match j, hv with
        | 0, hv => simpa using hv
        | 1, hv => simpa using hv
        | 2, hv => simpa using hv
        | j + 3, hv => simp at hv
      | 1, hd =>
        simp at hd; subst hd
        refine ⟨⟨w.heap.size, 0, none⟩, none, 0, rfl, L1.lt, fun j v hv => ?_, fun h => by simp at h⟩
        rw [Nat.one_mul, add_at, L1.cell]
        match j, hv with
        | 0, hv => simpa using hv
        | 1, hv => simpa using hv
        | 2, hv => simpa using hv
        | j + 3, hv => simp at hv
      | i + 2, hd => simp at hd
    · simp at hd
      rcases hd with rfl | rfl
      · exact ⟨by simp, by simp, fun e he => by simp at he⟩
      · exact ⟨by simp, by simp, fun e he => by simp at he⟩
  have hR : Mk.Came .u8 w1 none 0 [] := ⟨rfl, fun h => by simp at h, fun z hz => by simp at hz⟩
  have hZ : Mk.Came .u8 w1 (some ⟨w.heap.size + 1, 0, none⟩) 1 [1] := by
    refine ⟨rfl, fun _ => ⟨_, rfl, L2.lt, fun j v hv => ?_⟩, fun z hz => by simp at hz; subst hz; decide⟩
    rw [add_at, L2.cell]
    simpa using hv
  have HM := Lib.hid (marked_any (w := w1) (some ⟨w.heap.size, 0, none⟩) none (some ⟨w.heap.size + 1, 0, none⟩) 2 2 0 0 1 1 [⟨0, [], 0⟩, ⟨0, [], 1⟩] [] [1] hN hR hZ (by omega) (by omega) (by omega) (fun d hd => by simp at hd; rcases hd with rfl | rfl <;> simp))
  have HB1 := Lib.hid b1
  clear hN hR hZ L1 L2 b1 hw1
  refine HM.out.mono ?_
  rintro e w2 ⟨g, gw, gb, base, obs, tail, A, n', c, xs, mg, mw, ws, rfl, MK⟩
  obtain ⟨Z, hZ⟩ : ∃ Z, sizeG [⟨0, [], 0⟩, ⟨0, [], 1⟩] 2 2 = Z := ⟨_, rfl⟩
  rw [hZ] at MK ⊢
  obtain ⟨B, cap, rts, BT⟩ := MK.heap
  obtain ⟨o, p, rfl, ho1, ho2, hp1, hp2⟩ := awake_obs BT.st.fine BT.heads
  obtain ⟨F1, F2, F3⟩ := awake_facts o p (Mk.bit ws) MK.bits ho2 hp1 hp2
  have htop : (flat [o, p]).length = 3 := by simp [flat, ho2, hp2]
  have bX := below_one w2 (.cells #[.int .i64 (Z : Int), .slice A n' c] 33)
  have HO := Lib.hid (new_any (BT.st.kept bX) (MK.map.kept bX) 3 3 1 3 (by decide) htop (by decide) (by unfold InR; omega))
  have HB2 := Lib.hid (on (on HB1.out HB1.out.size MK.old) (on HB1.out HB1.out.size MK.old).size bX)
  have HF1 := Lib.hid F1
  have HF2 := Lib.hid F2
  have HF3 := Lib.hid F3
  have HTP := Lib.hid htop
  clear MK BT HM htop bX hZ ho1 ho2 hp1 hp2 F1 F2 F3
  go_wp2_with fail
  refine HO.out.mono ?_
  rintro e w4 ⟨b, q, a, base4, l, T, rfl, F4, hT, hb4⟩
  have FO : Fo w4 b 3 1 T 3 (Mk.bit ws) [o, p] := ⟨⟨q, a, base4, l, F4⟩, hT, by omega, by omega, by omega, HTP.out, by omega⟩
  have hT2 := FO.total
  rw [HF3.out] at hT2
  subst hT2
  have HFO := Lib.hid FO
  have HB4 := Lib.hid (on HB2.out HB2.out.size hb4)
  clear HO hb4 F4 hT FO
  go_wp2_with fail
  refine (to_yes HFO.out 1 0 HF1.out HF2.out).mono ?_
  rintro e w5 ⟨rfl, hb5⟩
  have HFO5 := Lib.hid (HFO.out.kept hb5)
  have HB5 := Lib.hid (on HB4.out HB4.out.size hb5)
  clear hb5
  go_wp2_with fail
  refine (ftop_any HFO5.out).mono ?_
  rintro e w6 ⟨rfl, hb6⟩
  have HB6 := Lib.hid (on HB5.out HB5.out.size hb6)
  clear hb6
  go_wp2
  go_ret
  exact ⟨rfl, HB6.out⟩
end Go.Proofs.Ytehmcbpkhknpcaa

namespace Go.Proofs.Ytehmcbpkhknpcaa
set_option maxRecDepth 20000
open Go.RowKit
set_option linter.unusedVariables false
set_option linter.unusedSimpArgs false

theorem sum_take : ∀ (a : Nat) (obs : List Ob) (j : Nat), sumL ((adr a obs).take j) = atI obs j
  | a, [], j => by simp [adr, atI, flat, sumL]
  | a, o :: l, 0 => by simp [atI, flat, sumL]
  | a, o :: l, j + 1 => by
    rw [adr, List.take_succ_cons]
    show 1 + o.2.length + sumL _ = _
    rw [sum_take]
    unfold atI
    rw [List.take_succ_cons, flat_cons]; simp; omega
/-- All that stays among the first so many. -/
def endS (f : Nat → Bool) (obs : List Ob) (j : Nat) : Nat := sumL (((adr 0 obs).take j).filter (keepB f))
theorem end_zero (f : Nat → Bool) (obs : List Ob) : endS f obs 0 = 0 := by simp [endS, sumL]
theorem end_all (f : Nat → Bool) (obs : List Ob) (n : Nat) (hn : obs.length = n) : endS f obs n = sumL ((adr 0 obs).filter (keepB f)) := by
  unfold endS
  rw [List.take_of_length_le (by rw [adr_len]; omega)]
theorem end_le (f : Nat → Bool) (obs : List Ob) (j : Nat) : endS f obs j ≤ atI obs j := by
  rw [← sum_take 0]; exact sumL_filter _ _
theorem obj_go (f : Nat → Bool) {obs : List Ob} {j p : Nat} {o : Ob} (h : (adr 0 obs)[j]? = some (p, o)) :
    isK f (adr 0 obs) p = keepB f (p, o) ∧ goS f (adr 0 obs) p = endS f obs j ∧ endS f obs j ≤ p ∧ endS f obs (j + 1) = endS f obs j + if keepB f (p, o) then 1 + o.2.length else 0 := by
  refine ⟨isK_at (x := (p, o)) (adr_sorted 0 obs) (List.mem_of_getElem? h), go_take (x := (p, o)) (adr_sorted 0 obs) h, ?_, ?_⟩
  · have h1 := end_le f obs j
    have h2 := (adr_get h).2
    simp only at h2; omega
  · unfold endS
    rw [take_more h, keep_more]

theorem obj_at {w : World} {A : Option Addr} {obs : List Ob} {j top : Nat} (h : Things w A obs) (hf : Fine obs) (ht : (flat obs).length = top) (hj : j < obs.length) :
    ∃ (ad : Addr) (Bx : Option Addr) (cx p nl : Nat) (s r : Int) (o : Ob), A = some ad ∧ (adr 0 obs)[j]? = some (p, o) ∧ o.2.length = nl ∧ nl ≤ 4095 ∧ p + 1 + nl ≤ top ∧ o.1 % 16 = s ∧ 0 ≤ s ∧
      w.cell? (ad.add (j * 5)) = some (.int .i64 (p : Nat)) ∧ w.cell? ⟨(ad.add (j * 5)).block, (ad.add (j * 5)).off + 1, none⟩ = some (.int .i64 s) ∧
      w.cell? ⟨(ad.add (j * 5)).block, (ad.add (j * 5)).off + 2, none⟩ = some (.int .i64 (nl : Nat)) ∧ w.cell? ⟨(ad.add (j * 5)).block, (ad.add (j * 5)).off + 3, none⟩ = some (.int .i64 r) ∧
      w.cell? ⟨(ad.add (j * 5)).block, (ad.add (j * 5)).off + 4, none⟩ = some (.slice Bx nl cx) ∧
      (∀ V g gw N ws, Mk.At V g gw N ws → Calls Try.prog 12 #[.pointer (some ⟨g, 0, none⟩), .agg #[.int .i64 (p : Nat), .int .i64 s, .int .i64 (nl : Nat), .int .i64 r, .slice Bx nl cx]] V fun e w' => e = .returned (.bool (keepB (Mk.bit ws) (p, o))) ∧ Below V.heap.size V w') := by
  obtain ⟨o, ho⟩ : ∃ o, obs[j]? = some o := ⟨_, List.getElem?_eq_getElem hj⟩
  obtain ⟨ad, Bx, cx, e, c0, c1, c2, c3, c4, -⟩ := h.at_ ho
  have hat := adr_at (a := 0) ho
  rw [Nat.zero_add] at hat
  obtain ⟨l1, l2, l3⟩ := ob_len hf (List.mem_of_getElem? hat)
  have h1 := atI_succ ho
  have h2 := atI_le obs (j + 1)
  rw [l1] at c2
  refine ⟨ad, Bx, cx, atI obs j, o.2.length, o.1 % 16, o.1 % 65536 / 16, o, e, hat, rfl, l2, by omega, rfl, l3, c0, c1, c2, c3, c4, fun V g gw N ws M => ?_⟩
  have := lstays_any M (atI obs j) o Bx cx o.2.length l3
  rw [l1] at this
  exact this
theorem many_le {obs : List Ob} {top : Nat} (ht : (flat obs).length = top) : obs.length ≤ top := by rw [← ht]; exact count_le obs
end Go.Proofs.Ytehmcbpkhknpcaa
