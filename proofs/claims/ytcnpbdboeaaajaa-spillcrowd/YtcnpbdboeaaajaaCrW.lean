/- SpillCrowd. -/
import Derived.Test.YtcnpbdboeaaajaaCrM
import Derived.Deep.CutBlock
namespace Go.Proofs.Ytcnpbdboeaaajaa
open Go.RowKit
set_option linter.unusedVariables false
set_option linter.unusedSimpArgs false

/-- Which words were seen. -/
def fl (n : Nat) (l : List Int) : List Value := (List.range n).map fun (i : Nat) => .bool (decide ((500 + (i : Int)) ∈ l))
theorem fl_nil (n : Nat) : fl n [] = List.replicate n (.bool false) := by
  apply List.ext_getElem?
  intro i
  simp [fl, List.getElem?_replicate]
  by_cases h : i < n <;> simp [h]
theorem fl_at {n i : Nat} (l : List Int) (h : i < n) : (fl n l)[i]? = some (.bool (decide ((500 + (i : Int)) ∈ l))) := by simp [fl, h]
theorem fl_set {n i : Nat} (l : List Int) (h : i < n) : (fl n l).set i (.bool true) = fl n (l ++ [500 + (i : Int)]) := by
  apply List.ext_getElem?
  intro j
  rw [List.getElem?_set]
  by_cases e : i = j
  · subst e
    rw [if_pos rfl, if_pos (by simp [fl]; exact h), fl_at _ h]; simp
  · rw [if_neg e]
    by_cases hj : j < n
    · rw [fl_at _ hj, fl_at _ hj]
      have : (500 + (j : Int)) ∈ l ++ [500 + (i : Int)] ↔ (500 + (j : Int)) ∈ l := by
        simp; omega
      simp [this]
    · simp [fl, hj]
theorem info4 : ∃ i, Try.prog.info? 4 = some i ∧ i.zero = some (.bool false) ∧ i.size = 1 ∧ i.bytes = 1 := ⟨_, rfl, rfl, rfl, rfl⟩
theorem make53 (n : Nat) (hn : n ≤ 65536) (w : World) : (Instr.makeSlice 53 (.int .i64 (n : Int)) (.int .i64 (n : Int))).run Try.prog w = .ok (.slice (some ⟨w.heap.size, 0, none⟩) n n) (w.alloc (.cells (fl n []).toArray 4)) := by
  obtain ⟨i0, hi0, hz0, hz1, hz2⟩ := info4
  have := run_make (P := Try.prog) w 53 4 i0 _ Try.underlying53 hi0 hz0 .i64 .i64 n n (by omega) (Int.le_refl _) (by rw [hz2]; omega) (by omega)
  rw [this, hz1, fl_nil]
  simp [Value.cells, made_one]
section
variable {w0 w w' : World} {gd g gw : Nat} {v : Value} {cs : Cs} {pile : List Int} {k i : Nat}
theorem Cr.form (h : Cr w0 w gd g gw v cs pile k) : ∃ A cap, v = .slice A cs.length cap := by
  obtain ⟨A, cap, e⟩ := h.row.form
  rw [List.length_map] at e
  exact ⟨A, cap, e⟩
theorem Cr.only (h : Cr w0 w gd g gw v cs pile k) {q : Nat} {vs : List Value} (O : Only q w w') (L : Lies w q 4 vs) (lo : w0.heap.size ≤ q) : Cr w0 w' gd g gw v cs pile k := by
  obtain ⟨⟨k', hk, C⟩, r, c⟩ := h
  obtain ⟨vw, Lw⟩ := C.gw_lies
  exact ⟨⟨k', hk, C.only_lies O L (by decide) (by decide) (by decide) (by decide) (L.apart Lw (by decide)) lo⟩, r.kept fun b cs' hl hne => O.lies hl (hl.apart L (by decide)), c⟩
theorem Cr.over (h : Cr w0 w gd g gw v cs pile k) (h0 : tot cs = 0) : Free cs ∧ ∀ (i : Nat), i < cs.length → ∃ gc cl, cs[i]? = some (some (gc, cl, 500 + (i : Int))) ∧ cl.nx = 0 ∧ cl.err = 0 ∧ (500 + (i : Int)) ∈ pile := by
  obtain ⟨⟨k', hk, zs, A, c, ts, H, _⟩, r, cw⟩ := h
  exact ⟨cw.free H.sh h0, cw.done H.sh h0⟩
/-- One more begins. -/
theorem Cr.app {j : Nat} (h : Cr w0 w gd g gw v cs [] 0) (hj : cs.length = j) (h64 : j < 64) (L : Lies w' w.heap.size 62 (Cl.cells g ⟨j, 27, 25, 0, 500 + (j : Int), 0⟩)) (b : Below w.heap.size w w') :
    Conc w0 w' gd g gw 64 [] (cs ++ [some (w.heap.size, ⟨j, 27, 25, 0, 500 + (j : Int), 0⟩, 500 + (j : Int))]) 0 ∧ Rp w' w0.heap.size gw v (cs.map blkOf) ∧ Cw (cs ++ [some (w.heap.size, ⟨j, 27, 25, 0, 500 + (j : Int), 0⟩, 500 + (j : Int))]) [] := by
  obtain ⟨⟨k', hk, C⟩, r, c⟩ := h
  have : k' = 0 := by omega
  subst this
  refine ⟨C.app L b (ok_put _ _ (by omega) (by omega)) rfl, r.below b, ?_⟩
  have := c.app (gc := w.heap.size) (cl := ⟨j, 27, 25, 0, 500 + (j : Int), 0⟩) rfl rfl
  rw [hj] at this
  exact this
end
theorem Row.only' {w w' : World} {b : Nat} {a : Addr} {xs : List Int} (h : Row .i64 w (some a) xs) (O : Only b w w') (hne : a.block ≠ b) : Row .i64 w' (some a) xs := fun h0 => by
  obtain ⟨ad', e, hl, hc⟩ := h h0
  injection e with e
  subst e
  refine ⟨a, rfl, Nat.lt_of_lt_of_le hl O.size, fun j v hv => ?_⟩
  rw [← hc j v hv]
  exact World.cell?_of_block (a := a.add j) (O.block _ (by rw [block_add]; exact hl) (by rw [block_add]; exact hne))

set_option maxRecDepth 100000 in
set_option maxHeartbeats 8000000 in
theorem crowd_any (many : Int) (h1 : 0 ≤ many ∧ many ≤ 255) (w : World) :
    Calls Try.prog 8 #[.int .u8 many] w fun e w' => e = .returned (.bool true) ∧ Below w.heap.size w w' := by
  obtain ⟨s0, s1⟩ := h1
  obtain ⟨N, hN⟩ : ∃ N : Nat, 1 + many % 64 = N := ⟨(1 + many % 64).toNat, by omega⟩
  have hN1 : 1 ≤ N := by omega
  have hN2 : N ≤ 64 := by omega
  have HN := Lib.hid hN
  clear hN
  have n2 := nil24
  have hmk := make53 N (by omega)
  go_enter Try.func8, Try.ntmps8
  go_wp2_with fail
  refine (awake_any _).mono ?_
  rintro e w1 ⟨rfl, B1⟩
  have HB1 := Lib.hid B1
  clear B1
  go_upto_region 4 with fail
  rw [HN.out]
  clear s0 s1 HN
  go_wp2_with fail
  refine (conc_new 64 64 rfl w w1 HB1.out (by omega) (by omega)).mono ?_
  rintro e w2 ⟨gd, g, gw, rfl, C2, _⟩
  have HC2 := Lib.hid C2
  clear C2 HB1
  go_wp2_with fail
  go_loopw [36, 6] (fun v v6 wr => ∃ (j : Nat) (cs : Cs), j ≤ N ∧ v = .int .i64 j ∧ cs.length = j ∧ Cr w wr gd g gw v6 cs [] 0) (fun v _ _ => N - (intOf v).toNat)
  case atStart => exact ⟨0, [], Nat.zero_le _, rfl, rfl, ⟨⟨0, Nat.le_refl _, HC2.out⟩, Rp.nil _ _ _, Cw.nil⟩⟩
  case round =>
    obtain ⟨j, cs, hj, rfl, hcl, X⟩ := hrel
    obtain ⟨A6, cap6, rfl⟩ := X.form
    rw [hcl] at X ⊢
    have HX := Lib.hid X
    have HCL := Lib.hid hcl
    clear X hcl HC2
    by_cases hjn : j < N
    · have j1 : (j : Int) < (N : Int) := by omega
      go_wp2_with fail
      refine (put_yes HX.out.own (j : Int) (500 + (j : Int)) (by omega) (by omega)).mono ?_
      rintro e w4 ⟨rfl, L4, B4⟩
      have HA := Lib.hid (HX.out.app HCL.out (by omega) L4 B4)
      have hb4 := Lib.hid HA.out.1.below.size
      clear L4 B4
      generalize wr.heap.size = gc at *
      have HB5 := Lib.hid (below_one w4 (.cells #[.pointer (some ⟨gc, 0, none⟩)] 28))
      have HW5 := Lib.hid (HA.out.2.1.below HB5.out)
      have HC5 := Lib.hid (HA.out.1.kept HB5.out)
      have c5 := cell_one_new w4 (.pointer (some ⟨gc, 0, none⟩)) 28 0 _ rfl
      rw [Addr.add_zero'] at c5
      have HCe5 := Lib.hid c5
      clear c5
      go_wp2_with (at_builtin; refine wpList_append_rp rfl (.tmp 49) (.tmp 51) rfl rfl HW5.out (Nat.le_trans hb4.out HB5.out.size) HC5.out.gw_lt (by rw [List.length_map, HCL.out]; omega) ⟨w4.heap.size, 0, none⟩ gc rfl HCe5.out ?_; intro v6 w6 R6 G6)
      have HC6 := Lib.hid (HC5.out.grownp HW5.out G6)
      have HR6 := Lib.hid R6
      clear R6 G6
      go_wp2
      exact ⟨⟨j + 1, _, by omega, by go_num, by rw [List.length_append, HCL.out]; rfl, ⟨⟨0, Nat.le_refl _, HC6.out⟩, by rw [List.map_append]; exact HR6.out, HA.out.2.2⟩⟩, by simp [intOf]; omega⟩
    · have hjn' : j = N := by omega
      subst hjn'
      go_wp2_with fail
      go_loopw [56] (fun v wi => ∃ (r : Nat) (cs : Cs) (pile : List Int), r ≤ 6 * j ∧ v = .int .i64 r ∧ cs.length = j ∧ Cr w wi gd g gw (.slice A6 j cap6) cs pile (64 * r) ∧ (tot cs + r ≤ 5 * j ∨ tot cs = 0)) (fun v _ => 6 * j - (intOf v).toNat)
      case atStart => exact ⟨0, cs, [], Nat.zero_le _, rfl, HCL.out, HX.out, Or.inl (by have := tot_le cs; rw [HCL.out] at this; omega)⟩
      case round =>
        obtain ⟨r, cs1, pile1, hr, rfl, hcl1, X1, ht1⟩ := hrel
        have HX1 := Lib.hid X1
        have HCL1 := Lib.hid hcl1
        have HT1 := Lib.hid ht1
        clear X1 hcl1 ht1 HX HCL
        by_cases hr6 : r < 6 * j
        · have r1 : (r : Int) < 6 * (j : Int) := by omega
          go_wp2_with fail
          go_loopw [60] (fun v wi => ∃ (m : Nat) (cs : Cs) (pile : List Int), m ≤ j ∧ v = .int .i64 m ∧ cs.length = j ∧ Cr w wi gd g gw (.slice A6 j cap6) cs pile (64 * r + m) ∧ Far cs r (5 * j) m) (fun v _ => j - (intOf v).toNat)
          case atStart => exact ⟨0, cs1, pile1, Nat.zero_le _, rfl, HCL1.out, HX1.out, HX1.out.far HT1.out⟩
          case round =>
            obtain ⟨m, cs2, pile2, hm, rfl, hcl2, X2, f2⟩ := hrel
            have HX2 := Lib.hid X2
            have HCL2 := Lib.hid hcl2
            have HF2 := Lib.hid f2
            clear X2 hcl2 f2 HX1 HCL1 HT1
            by_cases hmj : m < j
            · have m0 : (0 : Int) ≤ (m : Int) := by omega
              have m1 : (m : Int) < (j : Int) := by omega
              obtain ⟨gc, cl, hc⟩ := HX2.out.call (i := m) (by rw [HCL2.out]; exact hmj)
              obtain ⟨ad, rfl, cc⟩ := HX2.out.ptr hc
              have HCc := Lib.hid hc
              clear hc
              go_wp2_with fail
              refine (HX2.out.step HCc.out (by rw [HCL2.out]; omega) (by omega)).mono ?_
              rintro e w7 ⟨b7, cs7, pile7, rfl, X7, T7, hl7⟩
              have HX7 := Lib.hid X7
              have HT7 := Lib.hid (HF2.out.next T7)
              have HL7 := Lib.hid (hl7.trans HCL2.out)
              clear X7 T7 hl7 cc
              go_wp2
              exact ⟨⟨m + 1, cs7, pile7, by omega, by go_num, HL7.out, HX7.out, HT7.out⟩, by simp [intOf]; omega⟩
            · have hmj' : m = j := by omega
              subst hmj'
              have HT2 : Hid (tot cs2 + (r + 1) ≤ 5 * m ∨ tot cs2 = 0) := Lib.hid (by have := HF2.out; rw [← HCL2.out] at this ⊢; exact this.over)
              go_wp2
              exact ⟨⟨r + 1, cs2, pile2, by omega, by go_num, HCL2.out, HX2.out.more (by omega), HT2.out⟩, by simp [intOf]; omega⟩
        · have hz1 : tot cs1 = 0 := by have := HT1.out; omega
          obtain ⟨fr, dn⟩ := HX1.out.over hz1
          rw [HCL1.out] at dn
          have HFR := Lib.hid fr
          have HDN := Lib.hid dn
          clear fr dn hz1 HT1
          have HB9 := Lib.hid (below_one wr (.cells (fl j []).toArray 4))
          have HX9 := Lib.hid (HX1.out.kept HB9.out)
          have HF9 := Lib.hid (Lies.new wr 4 (fl j []))
          have hq9 := Lib.hid HX1.out.below.size
          have hq9' : Hid ((wr.alloc (.cells (fl j []).toArray 4)).heap.size = wr.heap.size + 1) := Lib.hid (by simp)
          go_upto_region 25 with fail
          generalize wr.alloc (.cells (fl j []).toArray 4) = w9 at *
          generalize wr.heap.size = q at *
          clear hmk HB9 HX1
          go_wp2_with fail
          have HCW := HX9.out.conc
          obtain ⟨k9, hk9, C9⟩ := HCW
          refine (conc_words C9 HFR.out).mono ?_
          rintro e w10 ⟨a10, rfl, R10, ha10, B10⟩
          have HX10 := Lib.hid (HX9.out.kept B10)
          have HF10 := Lib.hid (HF9.out.kept B10)
          have HR10 := Lib.hid R10
          have hne10 : Hid (a10.block ≠ q) := Lib.hid (by have := HF9.out.lt; omega)
          have hpl : pile1.length ≤ 64 := by
            have := HX9.out.cw.cnt; rw [HCL1.out] at this; omega
          have HND := Lib.hid HX9.out.cw.nd
          have HPM : Hid (∀ y ∈ pile1, ∃ i : Nat, i < j ∧ y = 500 + (i : Int)) := Lib.hid (fun y hy => by
            obtain ⟨i, gc, cl, x, hi, e, _⟩ := HX9.out.cw.pm y hy
            have := (List.getElem?_eq_some_iff.1 hi).1
            rw [HCL1.out] at this
            exact ⟨i, this, e⟩)
          clear R10 ha10 B10 C9 hk9 HX9 HF9 hq9'
          go_wp2_with fail
          go_loopw [73] (fun v wi => ∃ m : Nat, m ≤ pile1.length ∧ v = .int .i64 m ∧ Cr w wi gd g gw (.slice A6 j cap6) cs1 pile1 (64 * r) ∧ Lies wi q 4 (fl j (pile1.take m)) ∧ Row .i64 wi (some a10) pile1) (fun v _ => pile1.length - (intOf v).toNat)
          case atStart => exact ⟨0, Nat.zero_le _, rfl, HX10.out, by rw [List.take_zero]; exact HF10.out, HR10.out⟩
          case round =>
            obtain ⟨m, hm, rfl, X11, F11, R11⟩ := hrel
            have HX11 := Lib.hid X11
            have HF11 := Lib.hid F11
            have HR11 := Lib.hid R11
            clear X11 F11 R11 HX10 HF10 HR10
            by_cases hmp : m < pile1.length
            · obtain ⟨ad, e11, c11⟩ := HR11.out.at_ hmp
              injection e11 with e11
              subst e11
              obtain ⟨i, hij, hyi⟩ := HPM.out pile1[m] (List.getElem_mem hmp)
              have htake : Hid (pile1.take (m + 1) = pile1.take m ++ [500 + (i : Int)]) := Lib.hid (by rw [List.take_succ_eq_append_getElem hmp, hyi])
              have hnot : ¬ (500 + (i : Int)) ∈ pile1.take m := fun h => by
                have hnd := HND.out
                rw [← List.take_append_drop (m + 1) pile1, htake.out, List.nodup_append] at hnd
                have h2 := hnd.1
                rw [List.nodup_append] at h2
                exact h2.2.2 _ h _ (by simp) rfl
              rw [hyi] at c11
              have cs11 : wr.cell? ⟨q, i, none⟩ = some (.bool false) := by rw [HF11.out.cell, fl_at _ hij, decide_eq_false hnot]
              have fz11 : wr.frozen? ⟨q, i, none⟩ = false := HF11.out.frozen i
              have O11 : Hid (Only q wr (wr.setCell ⟨q, i, none⟩ (.bool true))) := Lib.hid ((Only.refl q wr).set i _)
              have F12 : Hid (Lies (wr.setCell ⟨q, i, none⟩ (.bool true)) q 4 (fl j (pile1.take (m + 1)))) := Lib.hid (by rw [htake.out, ← fl_set _ hij]; exact HF11.out.set i _)
              have X12 := Lib.hid (HX11.out.only O11.out HF11.out hq9.out)
              have R12 := Lib.hid (HR11.out.only' O11.out hne10.out)
              have m0 : (0 : Int) ≤ (m : Int) := by omega
              have m1 : (m : Int) < (pile1.length : Int) := by omega
              have i0 : (0 : Int) ≤ (i : Int) := by omega
              have i1 : (i : Int) < (j : Int) := by omega
              have hs1 : (500 : Int) + (i : Int) - 500 = (i : Int) := by omega
              have hd1 : decide ((500 : Int) + (i : Int) < 500) = false := decide_eq_false (by omega)
              have hd2 : decide ((500 : Int) + (j : Int) ≤ 500 + (i : Int)) = false := decide_eq_false (by omega)
              clear hnot hyi hmp
              go_wp2
              exact ⟨⟨m + 1, by omega, by go_num, X12.out, F12.out, R12.out⟩, by simp [intOf]; omega⟩
            · have hmp' : m = pile1.length := by omega
              subst hmp'
              rw [List.take_length] at HF11
              clear hmp hm
              go_wp2_with fail
              go_loopw [99] (fun v wi => ∃ m : Nat, m ≤ j ∧ v = .int .i64 m ∧ Cr w wi gd g gw (.slice A6 j cap6) cs1 pile1 (64 * r) ∧ Lies wi q 4 (fl j pile1)) (fun v _ => j - (intOf v).toNat)
              case atStart => exact ⟨0, Nat.zero_le _, rfl, HX11.out, HF11.out⟩
              case round =>
                obtain ⟨m, hm, rfl, X13, F13⟩ := hrel
                have HX13 := Lib.hid X13
                have HF13 := Lib.hid F13
                clear X13 F13 HX11 HF11 HR11
                by_cases hmj : m < j
                · have m0 : (0 : Int) ≤ (m : Int) := by omega
                  have m1 : (m : Int) < (j : Int) := by omega
                  obtain ⟨gc, cl, hc, hz, he, hmem⟩ := HDN.out m hmj
                  obtain ⟨ad, rfl, cc⟩ := HX13.out.ptr hc
                  have RY : Hid (Calls Try.prog 17 #[.pointer (some ⟨gc, 0, none⟩)] wr fun e w' => e = .returned (.tuple #[.int .i64 cl.word, .int .i64 0]) ∧ Below wr.heap.size wr w') := Lib.hid (by
                    obtain ⟨k', _, C'⟩ := HX13.out.conc
                    have := result_yes (C'.lies hc) hz
                    rw [he] at this
                    exact this)
                  have HME : Hid ((fl j pile1)[m]? = some (.bool true)) := Lib.hid (by rw [fl_at _ hmj, decide_eq_true hmem])
                  clear hc hz he hmem
                  generalize cl.word = wd at *
                  go_wp2_with fail
                  refine RY.out.mono ?_
                  rintro e w14 ⟨rfl, B14⟩
                  have HX14 := Lib.hid (HX13.out.kept B14)
                  have HF14 := Lib.hid (HF13.out.kept B14)
                  have c14 : w14.cell? ⟨q, m, none⟩ = some (.bool true) := by rw [HF14.out.cell, HME.out]
                  clear B14 cc RY
                  go_wp2
                  exact ⟨⟨m + 1, by omega, by go_num, HX14.out, HF14.out⟩, by simp [intOf]; omega⟩
                · have hmj' : m = j := by omega
                  subst hmj'
                  go_wp2
                  go_ret
                  exact ⟨rfl, HX13.out.below⟩
end Go.Proofs.Ytcnpbdboeaaajaa
