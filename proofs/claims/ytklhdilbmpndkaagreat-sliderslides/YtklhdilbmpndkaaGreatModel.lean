/- The reference's heap in memory, and its functions that only read: Top, Find, Leads. -/
import Derived.Test.YtklhdilbmpndkaaGreatGd
namespace Go.Proofs.YtklhdilbmpndkaaGreat
set_option maxRecDepth 20000
open Go.RowKit
set_option linter.unusedVariables false
set_option linter.unusedSimpArgs false

/-- An object's five cells. -/
def thing (n : Nat) (o : Ob) (B : Option Addr) (c : Nat) : List Value := [.int .i64 n, .int .i64 (o.1 % 16), .int .i64 (o.1 / 65536), .int .i64 (o.1 % 65536 / 16), .slice B o.2.length c]

/-- The address of an object, by its place in the list. -/
def atI (obs : List Ob) (i : Nat) : Nat := (flat (obs.take i)).length

/-- A slice of the reference's objects reads as a list of objects. -/
def Things (w : World) (A : Option Addr) (obs : List Ob) : Prop :=
  ∀ i o, obs[i]? = some o → ∃ ad B c, A = some ad ∧ ad.block < w.heap.size ∧ (∀ j v, (thing (atI obs i) o B c)[j]? = some v → w.cell? (ad.add (i * 5 + j)) = some v) ∧ Row w B o.2 ∧ ∃ bd, B = some bd

theorem Things.kept {w w' : World} {A : Option Addr} {obs : List Ob} (h : Things w A obs) (hb : Below w.heap.size w w') : Things w' A obs := fun i o ho => by
  obtain ⟨ad, B, c, e, hl, hc, hr, hB⟩ := h i o ho
  exact ⟨ad, B, c, e, Nat.lt_of_lt_of_le hl hb.size, fun j v hv => (hb.cell (by rw [block_add]; exact hl)).trans (hc j v hv), hr.kept hb, hB⟩

theorem Things.at_ {w : World} {A : Option Addr} {obs : List Ob} (h : Things w A obs) {i : Nat} {o : Ob} (ho : obs[i]? = some o) :
    ∃ ad B c, A = some ad ∧ w.cell? (ad.add (i * 5)) = some (.int .i64 (atI obs i)) ∧ w.cell? ⟨(ad.add (i * 5)).block, (ad.add (i * 5)).off + 1, none⟩ = some (.int .i64 (o.1 % 16)) ∧
      w.cell? ⟨(ad.add (i * 5)).block, (ad.add (i * 5)).off + 2, none⟩ = some (.int .i64 (o.1 / 65536)) ∧ w.cell? ⟨(ad.add (i * 5)).block, (ad.add (i * 5)).off + 3, none⟩ = some (.int .i64 (o.1 % 65536 / 16)) ∧
      w.cell? ⟨(ad.add (i * 5)).block, (ad.add (i * 5)).off + 4, none⟩ = some (.slice B o.2.length c) ∧ Row w B o.2 ∧ (∃ bd, B = some bd) ∧ ad.block < w.heap.size := by
  obtain ⟨ad, B, c, e, hl, hc, hr, hB⟩ := h i o ho
  refine ⟨ad, B, c, e, hc 0 _ rfl, ?_, ?_, ?_, ?_, hr, hB, hl⟩
  all_goals rw [← add_next _ _ _ (by omega)]
  · exact hc 1 _ rfl
  · exact hc 2 _ rfl
  · exact hc 3 _ rfl
  · exact hc 4 _ rfl

theorem atI_zero (obs : List Ob) : atI obs 0 = 0 := by simp [atI, flat_nil]
theorem atI_succ {obs : List Ob} {i : Nat} {o : Ob} (h : obs[i]? = some o) : atI obs (i + 1) = atI obs i + 1 + o.2.length := by
  obtain ⟨hi, rfl⟩ := List.getElem?_eq_some_iff.1 h
  unfold atI
  rw [List.take_succ_eq_append_getElem hi, flat_append, flat_cons, flat_nil]
  simp
  omega
theorem atI_all (obs : List Ob) : atI obs obs.length = (flat obs).length := by simp [atI]
theorem atI_le (obs : List Ob) (i : Nat) : atI obs i ≤ (flat obs).length := by
  unfold atI
  have : flat obs = flat (obs.take i) ++ flat (obs.drop i) := by rw [← flat_append, List.take_append_drop]
  rw [this]; simp
theorem cut_at {obs : List Ob} {i : Nat} {o : Ob} (h : obs[i]? = some o) : obs = obs.take i ++ o :: obs.drop (i + 1) := by
  obtain ⟨hi, rfl⟩ := List.getElem?_eq_some_iff.1 h
  simp
theorem look_at {obs : List Ob} {i : Nat} {o : Ob} (h : obs[i]? = some o) : look obs (atI obs i) = some (obs.take i, o, obs.drop (i + 1)) := by
  have e := cut_at h
  have := look_here (obs.take i) o (obs.drop (i + 1))
  rw [← e] at this
  exact this

theorem count_le : ∀ obs : List Ob, obs.length ≤ (flat obs).length
  | [] => Nat.zero_le _
  | o :: l => by have := count_le l; rw [flat_cons]; simp; omega

/-- What Find answers. -/
def findV (obs : List Ob) (a : Int) : Int := match look obs a with | none => -1 | some x => x.1.length

set_option maxHeartbeats 200000 in
theorem rtop_any {w : World} {A : Option Addr} {obs : List Ob} (s : Int) (n c : Nat) (hf : Fine obs) (h : Things w A obs) (hn : obs.length = n) (hm : (flat obs).length ≤ 65536) :
    Calls Tryz.prog 67 #[.agg #[.int .i64 s, .slice A n c]] w fun e w' => e = .returned (.int .i64 (flat obs).length) ∧ Below w.heap.size w w' := by
  have HH := Lib.hid h
  have HF := Lib.hid hf
  have HN := Lib.hid hn
  have HM := Lib.hid hm
  have hn6 : n ≤ 65536 := by have := count_le obs; omega
  clear h hf hn hm
  go_enter Tryz.func67, Tryz.ntmps67
  go_wp2
  go_loopw [8, 3, 4] (fun i t _ wr => ∃ k : Nat, k ≤ n ∧ i = .int .i64 k ∧ t = .int .i64 (atI obs k) ∧ Lies wr w.heap.size 34 [.int .i64 s, .slice A n c] ∧ Below w.heap.size w wr) (fun i _ _ _ => n - (intOf i).toNat)
  case atStart => exact ⟨0, Nat.zero_le _, rfl, by rw [atI_zero]; rfl, Lies.new w 34 [.int .i64 s, .slice A n c], (Below.refl _ w).alloc (Nat.le_refl _) _⟩
  case round =>
    obtain ⟨k, hk, rfl, rfl, L, BB⟩ := hrel
    have x1 : wr.cell? ⟨w.heap.size, 1, none⟩ = some (.slice A n c) := L.cell 1
    by_cases hlt : k < n
    · obtain ⟨o, ho⟩ : ∃ o, obs[k]? = some o := ⟨_, List.getElem?_eq_getElem (by rw [HN.out]; exact hlt)⟩
      obtain ⟨ad, B, cc, rfl, c0, c1, c2, c3, c4, -⟩ := (HH.out.kept BB).at_ ho
      have hfo := HF.out o (List.mem_of_getElem? ho)
      have hs := atI_succ ho
      have hle := atI_le obs (k + 1)
      have hM := HM.out
      have hb := len_le hfo.1
      have hlen : o.1 / 65536 = (o.2.length : Int) := by
        have h1 := hfo.2
        have h2 := ((good_iff _ _ _).1 (head_good hfo.1)).2.2.1
        unfold lenOf at h1
        omega
      rw [hlen] at c2
      obtain ⟨N, hN⟩ : ∃ N, atI obs k = N := ⟨_, rfl⟩
      obtain ⟨M, hMm⟩ : ∃ M, o.2.length = M := ⟨_, rfl⟩
      rw [hN, hMm] at hs
      rw [hN]
      rw [hMm] at c2
      have hb2 : N + 1 + M ≤ 65536 := by omega
      have HS := Lib.hid hs
      clear c0 c1 c3 c4 hlen hb hfo hs hle hM hN hMm
      have k0 : (0 : Int) ≤ (k : Int) := by omega
      have k1 : (k : Int) < (n : Int) := by omega
      go_wp2
      refine ⟨⟨k + 1, by omega, by go_num, ?_, L, BB⟩, by simp [intOf]; omega⟩
      rw [HS.out]; go_num
    · obtain rfl : k = n := by omega
      have hall : atI obs k = (flat obs).length := by rw [← HN.out]; exact atI_all obs
      rw [hall]
      go_wp2
      go_ret
      exact ⟨rfl, BB⟩

theorem find_here {obs : List Ob} {a : Int} {i : Nat} {o : Ob} (ho : obs[i]? = some o) (ha : a = (atI obs i : Nat)) : findV obs a = i := by
  unfold findV
  rw [ha, look_at ho]
  have hi := (List.getElem?_eq_some_iff.1 ho).1
  simp; omega
theorem find_none {obs : List Ob} {a : Int} (h : ∀ i, i < obs.length → a ≠ (atI obs i : Nat)) : findV obs a = -1 := by
  unfold findV
  cases hl : look obs a with
  | none => rfl
  | some x =>
    obtain ⟨e, ea⟩ := look_some _ _ _ hl
    refine absurd ?_ (h x.1.length (by rw [e]; simp))
    rw [ea]
    unfold atI
    rw [e]; simp

set_option maxHeartbeats 400000 in
theorem rfind_any {w : World} {A : Option Addr} {obs : List Ob} (s a : Int) (n c : Nat) (h : Things w A obs) (hn : obs.length = n) (hm : n ≤ 65536) :
    Calls Tryz.prog 38 #[.agg #[.int .i64 s, .slice A n c], .int .i64 a] w fun e w' => e = .returned (.int .i64 (findV obs a)) ∧ Below w.heap.size w w' := by
  have HH := Lib.hid h
  have HN := Lib.hid hn
  clear h hn
  go_enter Tryz.func38, Tryz.ntmps38
  go_wp2
  go_loopw [9, 5] (fun i _ wr => ∃ k : Nat, k ≤ n ∧ i = .int .i64 k ∧ (∀ i, i < k → a ≠ (atI obs i : Nat)) ∧ Lies wr w.heap.size 34 [.int .i64 s, .slice A n c] ∧ Below w.heap.size w wr) (fun i _ _ => n - (intOf i).toNat)
  case atStart => exact ⟨0, Nat.zero_le _, rfl, fun i hi => absurd hi (Nat.not_lt_zero _), Lies.new w 34 [.int .i64 s, .slice A n c], (Below.refl _ w).alloc (Nat.le_refl _) _⟩
  case round =>
    obtain ⟨k, hk, rfl, hno, L, BB⟩ := hrel
    have HNo := Lib.hid hno
    clear hno
    have x1 : wr.cell? ⟨w.heap.size, 1, none⟩ = some (.slice A n c) := L.cell 1
    by_cases hlt : k < n
    · obtain ⟨o, ho⟩ : ∃ o, obs[k]? = some o := ⟨_, List.getElem?_eq_getElem (by rw [HN.out]; exact hlt)⟩
      obtain ⟨ad, B, cc, rfl, c0, c1, c2, c3, c4, -⟩ := (HH.out.kept BB).at_ ho
      have HO := Lib.hid ho
      clear c1 c2 c3 c4 ho
      obtain ⟨N, hN⟩ : ∃ N, atI obs k = N := ⟨_, rfl⟩
      rw [hN] at c0
      have HNN := Lib.hid hN
      clear hN
      have k0 : (0 : Int) ≤ (k : Int) := by omega
      have k1 : (k : Int) < (n : Int) := by omega
      by_cases he : (N : Int) = a
      · have he' : ((N : Int) == a) = true := by simp [he]
        have hv : findV obs a = k := find_here HO.out (by rw [HNN.out]; exact he.symm)
        have HV := Lib.hid hv
        clear hv he
        go_wp2
        go_ret
        exact ⟨by rw [HV.out]; rfl, BB⟩
      · have he' : ((N : Int) == a) = false := by simp [he]
        have HE := Lib.hid he
        clear he
        go_wp2
        refine ⟨⟨k + 1, by omega, by go_num, fun i hi => ?_, L, BB⟩, by simp [intOf]; omega⟩
        by_cases hik : i < k
        · exact HNo.out i hik
        · obtain rfl : i = k := by omega
          rw [HNN.out]; exact fun e => HE.out e.symm
    · obtain rfl : k = n := by omega
      have hv : findV obs a = -1 := find_none (by rw [HN.out]; exact HNo.out)
      have HV := Lib.hid hv
      clear hv
      go_wp2
      go_ret
      exact ⟨by rw [HV.out]; rfl, BB⟩

theorem find_look {obs : List Ob} {a : Int} {x : List Ob × Ob × List Ob} (h : look obs a = some x) : findV obs a = (x.1.length : Nat) ∧ obs[x.1.length]? = some x.2.1 := by
  refine ⟨by unfold findV; rw [h], ?_⟩
  obtain ⟨e, _⟩ := look_some _ _ _ h
  rw [e]; simp
theorem look_neg {obs : List Ob} {a : Int} (h : a < 0) : look obs a = none := by
  cases hl : look obs a with
  | none => rfl
  | some x => have := (look_some _ _ _ hl).2; omega

set_option maxHeartbeats 400000 in
theorem leads_any {w : World} {A : Option Addr} {obs : List Ob} (s v : Int) (n c : Nat) (h : Things w A obs) (hn : obs.length = n) (hm : n ≤ 65536) (hv : InR v) :
    Calls Tryz.prog 80 #[.agg #[.int .i64 s, .slice A n c], .int .i64 v] w fun e w' => e = .returned (.bool (!astrayO obs v)) ∧ Below w.heap.size w w' := by
  unfold InR at hv
  have b1 : Below w.heap.size w (w.alloc (.cells #[.int .i64 s, .slice A n c] 34)) := (Below.refl _ w).alloc (Nat.le_refl _) _
  by_cases h0 : v ≤ 0
  · have d0 : decide (v ≤ 0) = true := by simp [h0]
    have hb : (!astrayO obs v) = (v == 0) := by
      unfold astrayO
      by_cases hz : v = 0
      · simp [hz]
      · rw [look_neg (by omega)]; simp [hz]
    rw [hb]
    clear h hn hb
    go_enter Tryz.func80, Tryz.ntmps80
    go_wp2
    go_ret
    exact ⟨rfl, b1⟩
  · have d0 : decide (v ≤ 0) = false := by simp [h0]
    have T1 : Things (w.alloc (.cells #[.int .i64 s, .slice A n c] 34)) A obs := h.kept b1
    have L1 := Lies.new w 34 [.int .i64 s, .slice A n c]
    have hvz : (v == 0) = false := by rw [beq_eq_false_iff_ne]; omega
    cases hl : look obs (v - 1) with
    | none =>
      have hb : (!astrayO obs v) = false := by unfold astrayO; rw [hl, hvz]; rfl
      have hf : findV obs (v - 1) = -1 := by unfold findV; rw [hl]
      rw [hb]
      have HF := Lib.hid hf
      have HN := Lib.hid hn
      clear hb hf hl h hn
      go_enter Tryz.func80, Tryz.ntmps80
      go_wp2_with fail
      refine (rfind_any s (v - 1) n c T1 HN.out hm).mono ?_
      rintro e w2 ⟨rfl, hb2⟩
      rw [HF.out]
      have B2 := on b1 b1.size hb2
      go_wp2
      go_ret
      exact ⟨rfl, B2⟩
    | some x =>
      obtain ⟨hf, ho⟩ := find_look hl
      have hb : (!astrayO obs v) = (x.2.1.1 % 16 != 15) := by unfold astrayO; rw [hl, hvz]; simp [bne]
      rw [hb]
      have hxn : x.1.length < n := by rw [← hn]; exact (List.getElem?_eq_some_iff.1 ho).1
      obtain ⟨I, hI⟩ : ∃ I, x.1.length = I := ⟨_, rfl⟩
      rw [hI] at hf ho hxn
      have HF := Lib.hid hf
      have HN := Lib.hid hn
      have HO := Lib.hid ho
      clear hb hf hl h hn ho hI
      generalize x.2.1 = o at *
      go_enter Tryz.func80, Tryz.ntmps80
      go_wp2_with fail
      refine (rfind_any s (v - 1) n c T1 HN.out hm).mono ?_
      rintro e w2 ⟨rfl, hb2⟩
      rw [HF.out]
      have B2 := on b1 b1.size hb2
      have L2 := L1.below hb2 L1.lt
      obtain ⟨ad, B, cc, rfl, c0, c1, c2, c3, c4, -⟩ := (T1.kept hb2).at_ HO.out
      have x1 : w2.cell? ⟨w.heap.size, 1, none⟩ = some (.slice (some ad) n c) := L2.cell 1
      have k0 : (0 : Int) ≤ (I : Int) := by omega
      have k1 : (I : Int) < (n : Int) := by omega
      clear c0 c2 c3 c4
      go_wp2
      go_ret
      exact ⟨rfl, B2⟩
end Go.Proofs.YtklhdilbmpndkaaGreat
