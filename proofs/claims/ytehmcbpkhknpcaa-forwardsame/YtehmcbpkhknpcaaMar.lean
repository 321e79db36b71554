/- Marked: a graph's heap, in which some objects are marked. -/
import Derived.Test.YtehmcbpkhknpcaaBuD
namespace Go.Proofs.Ytehmcbpkhknpcaa
set_option maxRecDepth 20000
open Go.RowKit
set_option linter.unusedVariables false
set_option linter.unusedSimpArgs false

/-- Which places are marked: those of the objects of these numbers. -/
def markB (obs : List Ob) (zs : List Int) (p : Nat) : Bool := zs.any fun z => decide (obs ≠ []) && decide (p = atI obs (z % (obs.length : Int)).toNat)
theorem mark_more (obs : List Ob) (zs : List Int) (z : Int) (p : Nat) : markB obs (zs ++ [z]) p = (markB obs zs p || (decide (obs ≠ []) && decide (p = atI obs (z % (obs.length : Int)).toNat))) := by
  unfold markB; simp

/-- The program's heap and the document's, and a map of their places. -/
structure Mkd (w w' : World) (ds : List Nd) (rs zs : List Int) (Z : Nat) (g gw gb base : Nat) (obs : List Ob) (tail : List Int) (A : Option Addr) (n c : Nat) (xs : List Value) (mg mw : Nat) (ws : List Nat) : Prop where
  heap : ∃ B cap rts, Built w w' ds rs Z g gw gb base obs tail A n c xs B cap rts
  map : Mk.At w' mg mw Z ws
  bits : ∀ p, Mk.bit ws p = markB obs zs p
  lo : w.heap.size ≤ mg ∧ w.heap.size ≤ mw
  hi : (g < mg ∧ gw < mg ∧ gb < mg) ∧ (g < mw ∧ gw < mw ∧ gb < mw)
theorem Mkd.kept {w w' w'' : World} {ds : List Nd} {rs zs : List Int} {Z g gw gb base n c mg mw : Nat} {obs : List Ob} {tail : List Int} {A : Option Addr} {xs : List Value} {ws : List Nat} (h : Mkd w w' ds rs zs Z g gw gb base obs tail A n c xs mg mw ws) (hb : Below w'.heap.size w' w'') :
    Mkd w w'' ds rs zs Z g gw gb base obs tail A n c xs mg mw ws := by
  obtain ⟨B, cap, rts, hB⟩ := h.heap
  exact ⟨⟨B, cap, rts, hB.kept hb⟩, h.map.kept hb, h.bits, h.lo, h.hi⟩
theorem Mkd.old {w w' : World} {ds : List Nd} {rs zs : List Int} {Z g gw gb base n c mg mw : Nat} {obs : List Ob} {tail : List Int} {A : Option Addr} {xs : List Value} {ws : List Nat} (h : Mkd w w' ds rs zs Z g gw gb base obs tail A n c xs mg mw ws) : Below w.heap.size w w' := by
  obtain ⟨B, cap, rts, hB⟩ := h.heap
  exact hB.old

theorem at_lt {obs : List Ob} {i : Nat} {o : Ob} (h : obs[i]? = some o) : atI obs i < (flat obs).length := by
  have h1 := atI_succ h
  have h2 := atI_le obs (i + 1)
  omega

set_option maxRecDepth 1000000 in
set_option maxHeartbeats 4000000 in
theorem marked_any {w : World} (A0 B0 C0 : Option Addr) (n cN m cR q cZ : Nat) (ds : List Nd) (rs zs : List Int) (hd : CameN w A0 n ds) (hr : Mk.Came .u8 w B0 m rs) (hz : Mk.Came .u8 w C0 q zs) (hn : n ≤ 14) (hm : m ≤ 14) (hq : q ≤ 40) (he : ∀ d ∈ ds, d.edges.length ≤ 10) :
    Calls Try.prog 9 #[.agg #[.slice A0 n cN, .slice B0 m cR], .slice C0 q cZ] w fun e w' => ∃ g gw gb base obs tail A n' c xs mg mw ws,
      e = .returned (.tuple #[.pointer (some ⟨g, 0, none⟩), .pointer (some ⟨mg, 0, none⟩), .agg #[.int .i64 (sizeG ds 2 n : Nat), .slice A n' c]]) ∧ Mkd w w' ds rs zs (sizeG ds 2 n) g gw gb base obs tail A n' c xs mg mw ws := by
  have hZ1 : 1 ≤ sizeG ds 2 n := by unfold sizeG; omega
  have HD := Lib.hid hd
  have HR := Lib.hid hr
  have HZ := Lib.hid hz
  have HE := Lib.hid he
  clear hd hr hz he
  go_enter Try.func9, Try.ntmps9
  go_wp2_with fail
  have bb : Below w.heap.size w ((w.alloc (.cells #[.slice A0 n cN, .slice B0 m cR] 25)).alloc (.cells #[.int .i64 0, .slice none 0 0] 33)) := ((Below.refl _ w).alloc (Nat.le_refl _) _).alloc (by simp) _
  have LR0 : Lies ((w.alloc (.cells #[.slice A0 n cN, .slice B0 m cR] 25)).alloc (.cells #[.int .i64 0, .slice none 0 0] 33)) (w.heap.size + 1) 33 [.int .i64 0, .slice none 0 0] := by
    have := Lies.new (w.alloc (.cells #[.slice A0 n cN, .slice B0 m cR] 25)) 33 [.int .i64 0, .slice none 0 0]
    rw [World.size_alloc] at this; exact this
  obtain ⟨w1, hw1⟩ : ∃ w1, (w.alloc (.cells #[.slice A0 n cN, .slice B0 m cR] 25)).alloc (.cells #[.int .i64 0, .slice none 0 0] 33) = w1 := ⟨_, rfl⟩
  rw [hw1] at bb LR0 ⊢
  have hs1 : w1.heap.size = w.heap.size + 2 := by rw [← hw1]; simp
  have Hbb := Lib.hid bb
  have HLR0 := Lib.hid LR0
  clear bb LR0 hw1
  have HBC := Lib.hid (build_any A0 B0 n cN m cR 2 ds rs (w := w1) ⟨HD.out.1, HD.out.2.1.kept Hbb.out, HD.out.2.2⟩ ⟨HR.out.1, HR.out.2.1.kept Hbb.out, HR.out.2.2⟩ hn hm HE.out (by omega))
  refine HBC.out.mono ?_
  rintro e w2 ⟨g, gw, gb, base, obs, tail, A, n', c, xs, B, cap, rts, rfl, BT⟩
  obtain ⟨Z, hZ⟩ : ∃ Z, sizeG ds 2 n = Z := ⟨_, rfl⟩
  rw [hZ] at BT hZ1 ⊢
  have HZZ := Lib.hid hZ
  have hZ2 : Z ≤ 65536 := by
    have := BT.st.lies.most
    rw [BT.len] at this; exact this
  have HBT := Lib.hid BT
  have hs2 := BT.old.size
  have LR2 := Lib.hid (HLR0.out.below BT.old (by omega))
  have LB : Lies (w2.alloc (.cells #[.int .i64 (Z : Int), .slice A n' c] 33)) w2.heap.size 33 [.int .i64 (Z : Int), .slice A n' c] := Lies.new w2 33 [_, _]
  have BT3 := BT.kept (below_one w2 (.cells #[.int .i64 (Z : Int), .slice A n' c] 33))
  have HBT3 := Lib.hid BT3
  have HLB := Lib.hid LB
  have hl := BT.len
  clear hZ BT LB HBC BT3
  go_wp2_with fail
  have HSZ := Lib.hid (size_z HBT3.out.st Z hl)
  refine HSZ.out.mono ?_
  rintro e w4 ⟨rfl, rfl⟩
  clear HSZ
  go_wp2_with fail
  refine (Mk.new_yes (Z : Int) Z rfl _ hZ1 hZ2).mono ?_
  rintro e w5 ⟨mg, mw, rfl, hb5, q1, q2, M5⟩
  rw [World.size_alloc] at q1 q2
  have HB35 := Lib.hid hb5
  have HM5 := Lib.hid M5
  clear hb5 M5
  go_wp2
  go_loopw [28] (fun i wr => ∃ (k : Nat) (ws : List Nat), k ≤ q ∧ i = .int .i64 k ∧ Below (w2.heap.size + 1) (w2.alloc (.cells #[.int .i64 (Z : Int), .slice A n' c] 33)) wr ∧ Mk.At wr mg mw Z ws ∧ ∀ p, Mk.bit ws p = markB obs (zs.take k) p) (fun i _ => q - (intOf i).toNat)
  case atStart =>
    refine ⟨0, _, Nat.zero_le _, rfl, ?_, HM5.out, fun p => ?_⟩
    · have := HB35.out
      rw [World.size_alloc] at this; exact this
    · rw [Mk.bit_new]; simp [markB]
  case round =>
    obtain ⟨k, ws, hk, rfl, BB, M, hbits⟩ := hrel
    have HBB := Lib.hid (show Below (w2.alloc (.cells #[.int .i64 (Z : Int), .slice A n' c] 33)).heap.size (w2.alloc (.cells #[.int .i64 (Z : Int), .slice A n' c] 33)) wr by rw [World.size_alloc]; exact BB)
    have HB := Lib.hid hbits
    have HM := Lib.hid M
    have T := HBT3.out.kept HBB.out
    have LB := HLB.out.below HBB.out HLB.out.lt
    have x0 : wr.cell? ⟨w2.heap.size, 0, none⟩ = some (.int .i64 (Z : Int)) := LB.cell 0
    have x1 : wr.cell? ⟨w2.heap.size, 1, none⟩ = some (.slice A n' c) := LB.cell 1
    by_cases hlt : k < q
    · have k0 : (0 : Int) ≤ (k : Int) := by omega
      have k1 : (k : Int) < (q : Int) := by omega
      obtain ⟨adz, rfl, cz⟩ := (HZ.out.2.1.kept (on (on Hbb.out Hbb.out.size HBT.out.old) (on Hbb.out Hbb.out.size HBT.out.old).size ((below_one w2 _).trans (HBB.out.mono (by simp))))).at_ (show k < zs.length by rw [HZ.out.1]; exact hlt)
      obtain ⟨z, hz⟩ : ∃ z, zs[k]'(by rw [HZ.out.1]; exact hlt) = z := ⟨_, rfl⟩
      rw [hz] at cz
      have hz0 := (u8_all (HZ.out.2.2 _ (List.getElem_mem (by rw [HZ.out.1]; exact hlt : k < zs.length))))
      rw [hz] at hz0
      obtain ⟨hz0, hz1⟩ := hz0
      have htk : zs.take (k + 1) = zs.take k ++ [z] := by
        have hlt2 : k < zs.length := by rw [HZ.out.1]; exact hlt
        rw [← List.take_append_getElem hlt2, hz]
      have HTK := Lib.hid htk
      have hcnt := T.count
      have HT := Lib.hid T
      clear hz htk hbits M BB T LB
      by_cases hn0 : n' = 0
      · subst hn0
        have hobs : obs = [] := List.eq_nil_of_length_eq_zero hcnt
        have d0 : decide ((0 : Int) < ((0 : Nat) : Int)) = false := by simp
        clear hcnt
        go_wp2
        refine ⟨⟨k + 1, ws, by omega, by go_num, by have := HBB.out; rw [World.size_alloc] at this; exact this, HM.out, fun p => ?_⟩, by simp [intOf]; omega⟩
        rw [HTK.out, mark_more, HB.out, hobs]; simp
      · have d0 : decide ((0 : Int) < (n' : Int)) = true := by simp; omega
        have nz : ¬ (n' = 0) := hn0
        obtain ⟨i, hi⟩ : ∃ i : Nat, z % (n' : Int) = i := ⟨(z % (n' : Int)).toNat, by have := Int.emod_nonneg z (show (n' : Int) ≠ 0 by omega); omega⟩
        have hin : (i : Int) < (n' : Int) := by rw [← hi]; exact Int.emod_lt_of_pos z (by omega)
        obtain ⟨o, ho⟩ : ∃ o, obs[i]? = some o := ⟨_, List.getElem?_eq_getElem (by rw [hcnt]; omega)⟩
        obtain ⟨ad, B1, cc, rfl, c0, -⟩ := HT.out.own.things.at_ ho
        have hlt3 := at_lt ho
        have hlen := HT.out.len
        simp only [List.length_append] at hlen
        obtain ⟨p, hp⟩ : ∃ p, atI obs i = p := ⟨_, rfl⟩
        rw [hp] at c0 hlt3
        have hpZ : p < Z := by omega
        have hmk : ∀ x, markB obs (zs.take (k + 1)) x = (decide (x = p) || markB obs (zs.take k) x) := fun x => by
          have hne : obs ≠ [] := fun e => by rw [e] at hcnt; simp at hcnt; omega
          rw [HTK.out, mark_more, hcnt, hi, Int.toNat_natCast, hp, Bool.or_comm]
          simp [hne]
        have HMK := Lib.hid hmk
        have i0 : (0 : Int) ≤ (i : Int) := by omega
        have b1 : IntKind.i64.wrap z = z := IntWalk.i64_in _ (by omega)
        have b2 : z.tmod (n' : Int) = (i : Int) := by rw [Int.tmod_eq_emod_of_nonneg hz0]; exact hi
        have b3 : ((i : Nat) : Int).toNat = i := Int.toNat_natCast i
        have hn14 : n' ≤ 65536 := by have := count_le obs; omega
        clear hmk ho hp hcnt hlen hlt3
        have HSET := Lib.hid (show Calls Try.prog 19 #[.pointer (some ⟨mg, 0, none⟩), .int .i64 (p : Int)] wr.drew _ from Mk.set_yes (w := wr.drew) (HM.out.kept ((Below.refl _ wr).drew)) p hpZ)
        go_upto_region 7 with fail
        go_still_tail 12, (by kernel_rfl)
        change wpList _ _ _ _ _ wr.drew
        go_wp2_with fail
        refine HSET.out.mono ?_
        rintro e w7 ⟨rfl, M7, E7⟩
        have B7 : Below (w2.heap.size + 1) (w2.alloc (.cells #[.int .i64 (Z : Int), .slice (some ad) n' c] 33)) w7 := by
          have h1 := HBB.out.drew
          rw [World.size_alloc] at h1
          have h2 := h1.size
          rw [World.size_alloc] at h2
          exact h1.trans (E7.below h2 (by omega) (by omega))
        have HM7 := Lib.hid M7
        have HB7 := Lib.hid B7
        clear M7 E7 B7 HSET c0 cz
        go_wp2
        refine ⟨⟨k + 1, _, by omega, by go_num, HB7.out, HM7.out, fun x => ?_⟩, by simp [intOf]; omega⟩
        rw [Mk.bit_set _ _ _ (HM.out.place hpZ), HB.out, HMK.out]
    · obtain rfl : k = q := by omega
      have hall : zs.take k = zs := by rw [← HZ.out.1, List.take_length]
      rw [hall] at HB
      have LR4 := LR2.out.below ((below_one w2 _).trans (HBB.out.mono (by simp))) LR2.out.lt
      have r0 : wr.cell? ⟨w.heap.size + 1, 0, none⟩ = some (.int .i64 0) := LR4.cell 0
      have r1 : wr.cell? ⟨w.heap.size + 1, 1, none⟩ = some (.slice none 0 0) := LR4.cell 1
      have r2 := LR4.frozen 0
      have r3 := LR4.frozen 1
      have r4 := LR4.lt
      have hne : w2.heap.size ≠ w.heap.size + 1 := by omega
      have hg := T.lo
      have hh := T.hi
      have hro := T.room
      have hro2 := HBT.out.room
      have hgb := HBT.out.st.lies.own.lt
      have hgwb := HBT.out.st.lies.words.lt
      have hgbb := HBT.out.st.lies.begins.lt
      have LRd : Lies wr.drew (w.heap.size + 1) 33 [.int .i64 0, .slice none 0 0] := LR4
      have Td := T.kept ((Below.refl _ wr).drew)
      have Md := HM.out.kept ((Below.refl _ wr).drew)
      have hm1 : mg ≠ w.heap.size + 1 := by omega
      have hm2 : mw ≠ w.heap.size + 1 := by omega
      have F : Mkd w ((wr.drew.setCell ⟨w.heap.size + 1, 0, none⟩ (.int .i64 (Z : Int))).setCell ⟨w.heap.size + 1, 1, none⟩ (.slice A n' c)) ds rs zs Z g gw gb base obs tail A n' c xs mg mw ws := by
        refine ⟨⟨B, cap, rts, ⟨Td.st.put2 (by omega) (by omega) (by omega) _ _, Td.clean, Td.len, Td.own.put2 LRd _ _, Td.count, Td.heads, ((on Hbb.out Hbb.out.size Td.old).setCell (p := ⟨w.heap.size + 1, 0, none⟩) (by simp) _).setCell (p := ⟨w.heap.size + 1, 1, none⟩) (by simp) _, by simpa using hro, ⟨by omega, by omega, by omega⟩, hh, Td.rts_, Td.row.kept fun b cs hb hl2 => ?_, Td.good⟩⟩, ?_, HB.out, ⟨by omega, by omega⟩, ⟨⟨by omega, by omega, by omega⟩, ⟨by omega, by omega, by omega⟩⟩⟩
        · have hne2 : b ≠ w.heap.size + 1 := hl2.apart LRd (by decide)
          exact (hl2.far (p := ⟨w.heap.size + 1, 0, none⟩) hne2 _).far (p := ⟨w.heap.size + 1, 1, none⟩) hne2 _
        · exact Md.of_blocks (by rw [Below.heap_setCell _ _ _ _ hm1, Below.heap_setCell _ _ _ _ hm1]) (by rw [Below.heap_setCell _ _ _ _ hm2, Below.heap_setCell _ _ _ _ hm2])
      have HFF := Lib.hid F
      clear F T Td Md LR4 LRd hbits M BB HBT HBT3 LB
      go_wp2
      go_region
      go_wp2
      have lt2 : w.heap.size + 1 < wr.drew.heap.size := r4
      refine bodyPost_ret (v := .tuple #[.pointer (some ⟨g, 0, none⟩), .pointer (some ⟨mg, 0, none⟩), .agg #[.int .i64 (Z : Int), .slice A n' c]]) (by simp [results, Try.results9, go_sem, r0, r1, r2, r3, r4, lt2]) rfl ?_
      exact ⟨g, gw, gb, base, obs, tail, A, n', c, xs, mg, mw, ws, by rw [HZZ.out], by rw [HZZ.out]; exact HFF.out⟩
end Go.Proofs.Ytehmcbpkhknpcaa
