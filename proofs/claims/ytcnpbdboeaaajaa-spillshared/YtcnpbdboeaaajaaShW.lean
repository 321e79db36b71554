/- SpillShared. -/
import Derived.Test.YtcnpbdboeaaajaaShP
import Derived.Test.YtcnpbdboeaaajaaAlM
import Derived.Deep.CutBlock
namespace Go.Proofs.Ytcnpbdboeaaajaa
open Go.RowKit Go.Maps
set_option linter.unusedVariables false
set_option linter.unusedSimpArgs false

theorem enter15 (args : Array Value) (W : World) : (callFunc 15 args).run Try.prog W = .ok (.enter 15 args) W := by
  simp [callFunc, go_sem, Try.func15]
  kernel_rfl
def bx (gd g gw s : Nat) : Bx := ⟨gd, g, gw, s, s + 1, s + 1 + 1 + 1, s + 1 + 1, s + 1 + 1 + 1 + 1⟩
theorem lies_new' (w : World) (t : TypeId) (cs : List Value) (s : Nat) (hs : w.heap.size = s) : Lies (w.alloc (.cells cs.toArray t)) s t cs := by rw [← hs]; exact Lies.new w t cs
theorem size_alloc (w : World) (o : Obj) {s : Nat} (hs : w.heap.size = s) : (w.alloc o).heap.size = s + 1 := by rw [← hs]; simp
theorem none_of {i : Nat} {x : Option (Nat × Cl × Int)} (e : (List.replicate 4 (none : Option (Nat × Cl × Int)))[i]? = some x) : x = none := by
  rw [List.getElem?_replicate] at e
  split at e
  · injection e with e; exact e.symm
  · cases e
theorem Conc.nones {w0 w : World} {gd g gw n k : Nat} {pile : List Int} (h : Conc w0 w gd g gw n pile [] k) : Conc w0 w gd g gw n pile (List.replicate 4 none) k := by
  obtain ⟨zs, A, c, ts, H, hts⟩ := h
  have p := H.sh.pl free_nil
  exact ⟨zs, A, c, ts, ⟨H.dq, Sh.new p.2 p.1 (fun i x e => none_of e), fun i gc cl x e => (by cases none_of e), fun i j gc cl x gc' cl' x' _ e => (by cases none_of e), H.below⟩, hts⟩

theorem sta_start {w0 w : World} {gd g gw : Nat} (S : Conc w0 w gd g gw 30 [] [] 0) :
    Sta w0 (((((w.alloc (.cells #[.pointer none, .pointer none, .pointer none, .pointer none] 37)).alloc (.cells #[.int .i64 0, .int .i64 0, .int .i64 0, .int .i64 0] 38)).alloc (.map #[] 0)).alloc (.cells #[.map (some (w.heap.size + 1 + 1))] 39)).alloc (.cells #[.int .i64 1] 3)) (bx gd g gw w.heap.size) (List.replicate 4 none) 1 0 0 := by
  obtain ⟨s, hs⟩ : ∃ s, w.heap.size = s := ⟨_, rfl⟩
  rw [hs]
  have hlo := S.below.size
  have hgw : gw < w.heap.size := S.gw_lt
  obtain ⟨W1, hW1⟩ : ∃ W, w.alloc (.cells #[.pointer none, .pointer none, .pointer none, .pointer none] 37) = W := ⟨_, rfl⟩
  have L1 : Lies W1 s 37 [.pointer none, .pointer none, .pointer none, .pointer none] := by rw [← hW1]; exact lies_new' w 37 [_, _, _, _] s hs
  have B1 : Below w.heap.size w W1 := by rw [← hW1]; exact below_one _ _
  have s1 : W1.heap.size = s + 1 := by rw [← hW1]; exact size_alloc _ _ hs
  rw [hW1]
  obtain ⟨W2, hW2⟩ : ∃ W, W1.alloc (.cells #[.int .i64 0, .int .i64 0, .int .i64 0, .int .i64 0] 38) = W := ⟨_, rfl⟩
  have L2 : Lies W2 (s + 1) 38 [.int .i64 0, .int .i64 0, .int .i64 0, .int .i64 0] := by rw [← hW2]; exact lies_new' W1 38 [_, _, _, _] _ s1
  have B2 : Below W1.heap.size W1 W2 := by rw [← hW2]; exact below_one _ _
  have s2 : W2.heap.size = s + 1 + 1 := by rw [← hW2]; exact size_alloc _ _ s1
  rw [hW2]
  obtain ⟨W3, hW3⟩ : ∃ W, W2.alloc (.map #[] 0) = W := ⟨_, rfl⟩
  have M3 : W3.ownsMap Try.prog 3 (plainElem (H := Unit) Try.prog 3) (s + 1 + 1) 0 (.map []) := by rw [← hW3, ← s2]; exact World.ownsMap_made _ _ _ _
  have B3 : Below W2.heap.size W2 W3 := by rw [← hW3]; exact below_one _ _
  have s3 : W3.heap.size = s + 1 + 1 + 1 := by rw [← hW3]; exact size_alloc _ _ s2
  rw [hW3]
  obtain ⟨W4, hW4⟩ : ∃ W, W3.alloc (.cells #[.map (some (s + 1 + 1))] 39) = W := ⟨_, rfl⟩
  have L4 : Lies W4 (s + 1 + 1 + 1) 39 [.map (some (s + 1 + 1))] := by rw [← hW4]; exact lies_new' W3 39 [_] _ s3
  have B4 : Below W3.heap.size W3 W4 := by rw [← hW4]; exact below_one _ _
  have s4 : W4.heap.size = s + 1 + 1 + 1 + 1 := by rw [← hW4]; exact size_alloc _ _ s3
  rw [hW4]
  obtain ⟨W5, hW5⟩ : ∃ W, W4.alloc (.cells #[.int .i64 1] 3) = W := ⟨_, rfl⟩
  have L5 : Lies W5 (s + 1 + 1 + 1 + 1) 3 [.int .i64 1] := by rw [← hW5]; exact lies_new' W4 3 [_] _ s4
  have B5 : Below W4.heap.size W4 W5 := by rw [← hW5]; exact below_one _ _
  rw [hW5]
  have S5 := (((((S.kept B1).kept B2).kept B3).kept B4).kept B5).nones
  have M4 := owns_block M3 (B4.block _ M3.lt)
  have M5 := owns_block M4 (B5.block _ M4.lt)
  refine ⟨[], [0, 0, 0, 0], ⟨⟨0, Nat.le_refl _, S5⟩, (((L1.kept B2).kept B3).kept B4).kept B5, rfl, ((L2.kept B3).kept B4).kept B5, rfl, L4.kept B5, ⟨_, M5, by rw [cnt_nil]; exact Tells.empty⟩, L5, by show s + 1 + 1 + 1 + 1 ≠ gw; omega, by show _ ≤ s; omega, by show _ ≤ s + 1; omega, by show _ ≤ s + 1 + 1 + 1 + 1; omega, by show _ ≤ s + 1 + 1; omega⟩, ⟨fun y hy => by simp at hy, fun i gc c x e => (by cases none_of e)⟩⟩

section
variable {w0 w w' : World} {x : Bx} {cs : Cs} {nx : Int} {k mm kk : Nat}
theorem Sta.clen (h : Sta w0 w x cs nx k mm) : cs.length = 4 := by obtain ⟨pile, ps, C, M⟩ := h; exact C.clen
theorem Sta.below (h : Sta w0 w x cs nx k mm) : Below w0.heap.size w0 w := by obtain ⟨pile, ps, C, M⟩ := h; exact C.below
theorem Sta.more (h : Sta w0 w x cs nx k mm) {k2 mm2 : Nat} (h1 : k ≤ k2) (h2 : mm ≤ mm2) : Sta w0 w x cs nx k2 mm2 := by obtain ⟨pile, ps, C, M⟩ := h; exact ⟨pile, ps, C.more h1 h2, M⟩
theorem Sta.far {r B : Nat} (h : Sta w0 w x cs nx k mm) (ht : tot cs + r ≤ B ∨ tot cs = 0) : Far cs r B 0 := by
  obtain ⟨pile, ps, C, M⟩ := h
  obtain ⟨k', _, CC⟩ := C.conc
  exact CC.far ht
theorem Sta.over (h : Sta w0 w x cs nx k mm) (h0 : tot cs = 0) : cs = List.replicate 4 none ∧ ∃ pile ps, Core w0 w x cs pile nx ps (cnt pile) k mm ∧ (∀ y ∈ pile, 0 < y ∧ y < nx) ∧ pile.length ≤ 30 ∧ Free cs := by
  obtain ⟨pile, ps, C, M⟩ := h
  have hall : ∀ (i : Nat) (o : Option (Nat × Cl × Int)), cs[i]? = some o → o = none := fun i o e => by
    cases o with
    | none => rfl
    | some p =>
      obtain ⟨gc, c, xx⟩ := p
      have hr := tot_zero h0 e
      simp [rk] at hr
      obtain ⟨k', _, zs, A, cc, ts, H, _⟩ := C.conc
      have := rank_pos (sh_step H.sh e (M.calls _ _ _ _ e).1).1
      omega
  have hfree : Free cs := fun i gc c xx e => by cases hall i _ e
  refine ⟨?_, pile, ps, C, M.rng, ?_, hfree⟩
  · apply List.ext_getElem?
    intro i
    rw [List.getElem?_replicate]
    by_cases hi : i < 4
    · have hi' : i < cs.length := by rw [C.clen]; exact hi
      rw [if_pos hi, List.getElem?_eq_getElem hi', hall i _ (List.getElem?_eq_getElem hi')]
    · rw [if_neg hi, List.getElem?_eq_none (by rw [C.clen]; omega)]
  · obtain ⟨k', _, CC⟩ := C.conc
    obtain ⟨zs, p⟩ := CC.free_pl hfree
    exact p.fits
theorem pick_int {z : Int} (h : Sta w0 w x cs nx k mm) (hk4 : kk < 4) (hz : z = kk) (hk : k ≤ 30000) (hm : mm ≤ 100000) (hnx : nx ≤ 1000) :
    Calls Try.prog 15 #[.int .i64 z, .pointer (some ⟨x.bc, 0, none⟩), .pointer (some ⟨x.bp, 0, none⟩), .pointer (some ⟨x.bw, 0, none⟩), .pointer (some ⟨x.bn, 0, none⟩)] w fun e w' => e = .returned (.bool true) ∧ ∃ cs', Sta w0 w' x cs' nx (k + 1) (mm + 1) ∧ Turn cs cs' kk := by
  rw [hz]; exact pick_any h hk4 hk hm hnx
end
theorem Row.only2 {w w' : World} {b : Nat} {a : Addr} {xs : List Int} (h : Row .i64 w (some a) xs) (O : Only b w w') (hne : a.block ≠ b) : Row .i64 w' (some a) xs := fun h0 => by
  obtain ⟨ad', e, hl, hc⟩ := h h0
  injection e with e
  subst e
  refine ⟨a, rfl, Nat.lt_of_lt_of_le hl O.size, fun j v hv => ?_⟩
  rw [← hc j v hv]
  exact World.cell?_of_block (a := a.add j) (O.block _ (by rw [block_add]; exact hl) (by rw [block_add]; exact hne))

set_option maxRecDepth 100000 in
set_option maxHeartbeats 8000000 in
theorem shared_near (A1 A2 : Option Addr) (c1 c2 : Nat) (xs ys : List Int) (w : World) (hl1 : xs.length ≤ 60) (hl2 : ys.length ≤ 400) (hr1 : Row .u8 w A1 xs) (hz1 : ∀ z ∈ xs, 0 ≤ z ∧ z ≤ 255) (hr2 : Row .u8 w A2 ys) (hz2 : ∀ z ∈ ys, 0 ≤ z ∧ z ≤ 255) :
    Calls Try.prog 4 #[.slice A1 xs.length c1, .slice A2 ys.length c2] w fun e w' => e = .returned (.bool true) ∧ Below w.heap.size w w' := by
  have d1 : decide ((60 : Int) < (xs.length : Int)) = false := by simp; omega
  have d2 : decide ((400 : Int) < (ys.length : Int)) = false := by simp; omega
  have n1 := nil28
  have n2 := nil24
  have hmf := run_mf
  have hmm := @run_makeMap Try.prog
  have hen := enter15
  have HR1 := Lib.hid hr1
  have HZ1 := Lib.hid hz1
  have HR2 := Lib.hid hr2
  have HZ2 := Lib.hid hz2
  clear hr1 hz1 hr2 hz2
  go_enter Try.func4, Try.ntmps4
  go_wp2_with fail
  refine (awake_any _).mono ?_
  rintro e w1 ⟨rfl, B1⟩
  have HB1 := Lib.hid B1
  clear B1
  go_wp2_with fail
  refine (conc_new 30 30 rfl w w1 HB1.out (by omega) (by omega)).mono ?_
  rintro e w2 ⟨gd, g, gw, rfl, S2, _⟩
  have T0 : Hid (Sta w _ ⟨gd, g, gw, w2.heap.size, w2.heap.size + 1, w2.heap.size + 1 + 1 + 1, w2.heap.size + 1 + 1, w2.heap.size + 1 + 1 + 1 + 1⟩ (List.replicate 4 none) 1 0 0) := Lib.hid (sta_start S2)
  clear S2
  go_wp2_with fail
  clear hmm hmf
  generalize w2.heap.size + 1 + 1 + 1 + 1 = bn at *
  generalize w2.heap.size + 1 + 1 + 1 = bw at *
  generalize w2.heap.size + 1 + 1 = bm at *
  generalize w2.heap.size + 1 = bp at *
  generalize w2.heap.size = bc at *
  generalize World.alloc (World.alloc (World.alloc (World.alloc (World.alloc w2 _) _) _) _) _ = w3 at *
  go_loopw [50, 10] (fun i v10 wr => ∃ (j aa : Nat) (cs : Cs) (nx : Nat), j ≤ ys.length ∧ i = .int .i64 j ∧ v10 = .int .i64 aa ∧ aa ≤ xs.length ∧ 1 ≤ nx ∧ nx ≤ aa + 1 ∧ Sta w wr ⟨gd, g, gw, bc, bp, bw, bm, bn⟩ cs nx j j) (fun i _ _ => ys.length - (intOf i).toNat)
  case atStart => exact ⟨0, 0, _, 1, Nat.zero_le _, rfl, rfl, Nat.zero_le _, Nat.le_refl _, Nat.le_refl _, T0.out⟩
  case round =>
    obtain ⟨j, aa, cs, nx, hj, rfl, rfl, haa, hnx1, hnx2, T⟩ := hrel
    have HT := Lib.hid T
    clear T T0
    by_cases hjl : j < ys.length
    · obtain ⟨ad, rfl, c0⟩ := (HR2.out.kept HT.out.below).at_ hjl
      have hb := HZ2.out ys[j] (List.getElem_mem hjl)
      generalize ys[j] = p at c0 hb
      obtain ⟨hb0, hb1⟩ := hb
      have j0 : (0 : Int) ≤ (j : Int) := by omega
      have j1 : (j : Int) < (ys.length : Int) := by omega
      obtain ⟨kk, hkp⟩ : ∃ kk : Nat, p % 4 = kk := ⟨(p % 4).toNat, by omega⟩
      have hkk : kk < 4 := by omega
      have HKP := Lib.hid hkp
      clear hkp
      have hk6 : (kk : Int) < 4 := by omega
      have hk0 : (0 : Int) ≤ (kk : Int) := by omega
      go_upto_region 15 with fail
      rw [HKP.out]
      clear HKP hb0 hb1 c0
      obtain ⟨o, ho⟩ : ∃ o, cs[kk]? = some o := ⟨cs[kk]'(by rw [HT.out.clen]; exact hkk), List.getElem?_eq_getElem _⟩
      cases o with
      | none =>
        have q28 : ∀ W : World, (binOp .eql 28 (.pointer none) (.pointer none)).run Try.prog W = .ok (.bool true) W := fun _ => by kernel_rfl
        by_cases hal : aa < xs.length
        · have hde : decide ((aa : Int) < (xs.length : Int)) = true := decide_eq_true (by omega)
          obtain ⟨pile, ps, C0, M0⟩ := HT.out
          have a0 : wr.cell? ⟨bc, kk, none⟩ = some (.pointer none) := C0.cell ho
          have p0 := C0.pcell hkk
          have fp0 := C0.pu_.frozen kk
          simp only at p0 fp0
          have HC1 := Lib.hid (C0.setp kk 0)
          have HM0 := Lib.hid M0
          have HPL := Lib.hid C0.plen
          have HO := Lib.hid ho
          clear C0 M0 ho HT
          go_upto_region 17 with fail
          try simp only at HC1
          generalize wr.setCell ⟨bp, kk, none⟩ (.int .i64 0) = wa at *
          clear a0 p0 fp0
          obtain ⟨ad1, rfl, c1'⟩ := (HR1.out.kept HC1.out.below).at_ hal
          have hb := HZ1.out xs[aa] (List.getElem_mem hal)
          generalize xs[aa] = a at c1' hb
          obtain ⟨hb0, hb1⟩ := hb
          have aa0 : (0 : Int) ≤ (aa : Int) := by omega
          have aa1 : (aa : Int) < (xs.length : Int) := by omega
          have hcase : a % 2 = 0 ∨ a % 2 = 1 := by omega
          rcases hcase with h2 | h2
          · have cn : wa.cell? ⟨bn, 0, none⟩ = some (.int .i64 (nx : Int)) := HC1.out.nx_.cell 0
            have p1 := HC1.out.pcell hkk
            have fp1 := HC1.out.pu_.frozen kk
            simp only at p1 fp1
            generalize (ps.set kk 0).getD kk 0 = pv0 at p1
            have HC2 := Lib.hid (HC1.out.setp kk (nx : Int))
            rw [List.set_set] at HC2
            go_upto_region 19 with fail
            try simp only at HC2
            generalize wa.setCell ⟨bp, kk, none⟩ (.int .i64 (nx : Int)) = wb at *
            clear cn p1 fp1 c1' HC1
            have cn2 : wb.cell? ⟨bn, 0, none⟩ = some (.int .i64 (nx : Int)) := HC2.out.nx_.cell 0
            go_wp2_with fail
            refine (put_yes HC2.out.own (kk : Int) (nx : Int) (by omega) (by omega)).mono ?_
            rintro e wc ⟨rfl, L3, B3⟩
            have HC3 := Lib.hid (HC2.out.into HO.out L3 B3 (ok_put (kk : Int) (nx : Int) (by omega) (by omega)) rfl)
            have a3 : wc.cell? ⟨bc, kk, none⟩ = some (.pointer none) := (HC2.out.kept B3).cell HO.out
            have f3 : wc.frozen? ⟨bc, kk, none⟩ = false := (HC2.out.kept B3).arr.frozen kk
            clear L3 B3 cn2 HC2
            go_upto_region 20 with fail
            try simp only at HC3
            generalize wb.heap.size = gc at *
            generalize wc.setCell ⟨bc, kk, none⟩ (.pointer (some ⟨gc, 0, none⟩)) = wd at *
            clear a3 f3
            have cn4 : wd.cell? ⟨bn, 0, none⟩ = some (.int .i64 (nx : Int)) := HC3.out.nx_.cell 0
            have fn4 : wd.frozen? ⟨bn, 0, none⟩ = false := HC3.out.nx_.frozen 0
            have HC4 := Lib.hid (HC3.out.setn ((nx : Int) + 1))
            go_upto_region 22 with fail
            try simp only at HC4
            generalize wd.setCell ⟨bn, 0, none⟩ (.int .i64 ((nx : Int) + 1)) = we at *
            clear cn4 fn4 HC3
            have HT5 : Hid (Sta w we ⟨gd, g, gw, bc, bp, bw, bm, bn⟩ (cs.set kk (some (gc, ⟨(kk : Int), 27, 25, 0, (nx : Int), 0⟩, (nx : Int)))) ((nx : Int) + 1) j j) := Lib.hid ⟨pile, _, HC4.out, HM0.out.put (by rw [HPL.out]; exact hkk) (by omega)⟩
            clear HC4
            go_wp2_with fail
            refine (pick_int (z := (kk : Int)) HT5.out hkk rfl (by omega) (by omega) (by omega)).mono ?_
            rintro e w9 ⟨rfl, cs9, S9, M9⟩
            have HS9 := Lib.hid S9
            clear S9 M9
            go_wp2
            exact ⟨⟨j + 1, aa + 1, cs9, (nx + 1), by omega, by go_num, by go_num, by omega, by omega, by omega, HS9.out⟩, by simp [intOf]; omega⟩
          · go_wp2_with fail
            refine (take_yes HC1.out.own (kk : Int) (by omega) (by omega)).mono ?_
            rintro e wc ⟨rfl, L3, B3⟩
            have HC3 := Lib.hid (HC1.out.into HO.out L3 B3 (ok_take (kk : Int) 0 (by omega) (by omega)) rfl)
            have a3 : wc.cell? ⟨bc, kk, none⟩ = some (.pointer none) := (HC1.out.kept B3).cell HO.out
            have f3 : wc.frozen? ⟨bc, kk, none⟩ = false := (HC1.out.kept B3).arr.frozen kk
            clear L3 B3 c1' HC1
            go_upto_region 22 with fail
            try simp only at HC3
            generalize wa.heap.size = gc at *
            generalize wc.setCell ⟨bc, kk, none⟩ (.pointer (some ⟨gc, 0, none⟩)) = wd at *
            clear a3 f3
            have HT5 : Hid (Sta w wd ⟨gd, g, gw, bc, bp, bw, bm, bn⟩ (cs.set kk (some (gc, ⟨(kk : Int), 27, 26, 0, 0, 0⟩, 0))) (nx : Int) j j) := Lib.hid ⟨pile, _, HC3.out, HM0.out.take (by rw [HPL.out]; exact hkk)⟩
            clear HC3
            go_wp2_with fail
            refine (pick_int (z := (kk : Int)) HT5.out hkk rfl (by omega) (by omega) (by omega)).mono ?_
            rintro e w9 ⟨rfl, cs9, S9, M9⟩
            have HS9 := Lib.hid S9
            clear S9 M9
            go_wp2
            exact ⟨⟨j + 1, aa + 1, cs9, nx, by omega, by go_num, by go_num, by omega, by omega, by omega, HS9.out⟩, by simp [intOf]; omega⟩
        · have hde : decide ((aa : Int) < (xs.length : Int)) = false := decide_eq_false (by omega)
          have a0 : wr.cell? ⟨bc, kk, none⟩ = some (.pointer none) := by obtain ⟨pile, ps, C0, M0⟩ := HT.out; exact C0.cell ho
          go_wp2_with fail
          refine (pick_int (z := (kk : Int)) HT.out hkk rfl (by omega) (by omega) (by omega)).mono ?_
          rintro e w9 ⟨rfl, cs9, S9, M9⟩
          have HS9 := Lib.hid S9
          clear S9 M9
          go_wp2
          exact ⟨⟨j + 1, aa, cs9, nx, by omega, by go_num, rfl, haa, hnx1, hnx2, HS9.out⟩, by simp [intOf]; omega⟩
      | some q =>
        obtain ⟨gc, cl, xx⟩ := q
        have a0 : wr.cell? ⟨bc, kk, none⟩ = some (.pointer (some ⟨gc, 0, none⟩)) := by obtain ⟨pile, ps, C0, M0⟩ := HT.out; exact C0.cell ho
        go_wp2_with fail
        refine (pick_int (z := (kk : Int)) HT.out hkk rfl (by omega) (by omega) (by omega)).mono ?_
        rintro e w9 ⟨rfl, cs9, S9, M9⟩
        have HS9 := Lib.hid S9
        clear S9 M9
        go_wp2
        exact ⟨⟨j + 1, aa, cs9, nx, by omega, by go_num, by go_num, by omega, by omega, by omega, HS9.out⟩, by simp [intOf]; omega⟩
    · have hj' : j = ys.length := by omega
      subst hj'
      go_wp2_with fail
      go_loopw [104] (fun i wi => ∃ (r : Nat) (cs : Cs), r ≤ 40 ∧ i = .int .i64 r ∧ Sta w wi ⟨gd, g, gw, bc, bp, bw, bm, bn⟩ cs nx (ys.length + 4 * r) (ys.length + 4 * r) ∧ (tot cs + r ≤ 20 ∨ tot cs = 0)) (fun i _ => 40 - (intOf i).toNat)
      case atStart => exact ⟨0, cs, by omega, rfl, HT.out, Or.inl (by have := tot_le cs; rw [HT.out.clen] at this; omega)⟩
      case round =>
        obtain ⟨r, cs1, hr, rfl, T1, K1⟩ := hrel
        have HT1 := Lib.hid T1
        have HK1 := Lib.hid K1
        clear T1 K1 HT
        by_cases hr20 : r < 40
        · have hr20' : (r : Int) < 40 := by omega
          go_wp2_with fail
          go_loopw [106] (fun i wi => ∃ (kk : Nat) (cs : Cs), kk ≤ 4 ∧ i = .int .i64 kk ∧ Sta w wi ⟨gd, g, gw, bc, bp, bw, bm, bn⟩ cs nx (ys.length + 4 * r + kk) (ys.length + 4 * r + kk) ∧ Far cs r 20 kk) (fun i _ => 4 - (intOf i).toNat)
          case atStart => exact ⟨0, cs1, by omega, rfl, HT1.out, HT1.out.far HK1.out⟩
          case round =>
            obtain ⟨kk, cs2, hkk, rfl, T2, K2⟩ := hrel
            have HT2 := Lib.hid T2
            have HK2 := Lib.hid K2
            clear T2 K2 HT1 HK1
            by_cases hk4 : kk < 4
            · have hk4' : (kk : Int) < 4 := by omega
              go_wp2_with fail
              refine (pick_int (z := (kk : Int)) HT2.out hk4 rfl (by omega) (by omega) (by omega)).mono ?_
              rintro e w9 ⟨rfl, cs9, S9, M9⟩
              have HS9 := Lib.hid S9
              have HK9 := Lib.hid (HK2.out.next M9)
              clear S9 M9
              go_wp2
              exact ⟨⟨kk + 1, cs9, by omega, by go_num, HS9.out, HK9.out⟩, by simp [intOf]; omega⟩
            · have hk5 : kk = 4 := by omega
              subst hk5
              have HK3 : Hid (tot cs2 + (r + 1) ≤ 20 ∨ tot cs2 = 0) := Lib.hid (by have := HK2.out; rw [← HT2.out.clen] at this; exact this.over)
              go_wp2
              exact ⟨⟨r + 1, cs2, by omega, by go_num, HT2.out.more (by omega) (by omega), HK3.out⟩, by simp [intOf]; omega⟩
        · have hr21 : r = 40 := by omega
          subst hr21
          obtain ⟨hcs, pile, ps, C5, rg5, hrow, fr5⟩ := HT1.out.over (by have := HK1.out; omega)
          subst hcs
          have b0 : wr.cell? ⟨bc, 0, none⟩ = some (.pointer none) := C5.cell (i := 0) rfl
          have b1 : wr.cell? ⟨bc, 1, none⟩ = some (.pointer none) := C5.cell (i := 1) rfl
          have b2 : wr.cell? ⟨bc, 2, none⟩ = some (.pointer none) := C5.cell (i := 2) rfl
          have b3 : wr.cell? ⟨bc, 3, none⟩ = some (.pointer none) := C5.cell (i := 3) rfl
          have q28 : ∀ W : World, (binOp .neq 28 (.pointer none) (.pointer none)).run Try.prog W = .ok (.bool false) W := fun _ => by kernel_rfl
          have ix0 : ∀ W : World, (Instr.index 37 (.agg #[.pointer none, .pointer none, .pointer none, .pointer none]) (.int .i64 0)).run Try.prog W = .ok (.pointer none) W := fun _ => by kernel_rfl
          have ix1 : ∀ W : World, (Instr.index 37 (.agg #[.pointer none, .pointer none, .pointer none, .pointer none]) (.int .i64 1)).run Try.prog W = .ok (.pointer none) W := fun _ => by kernel_rfl
          have ix2 : ∀ W : World, (Instr.index 37 (.agg #[.pointer none, .pointer none, .pointer none, .pointer none]) (.int .i64 2)).run Try.prog W = .ok (.pointer none) W := fun _ => by kernel_rfl
          have ix3 : ∀ W : World, (Instr.index 37 (.agg #[.pointer none, .pointer none, .pointer none, .pointer none]) (.int .i64 3)).run Try.prog W = .ok (.pointer none) W := fun _ => by kernel_rfl
          have HC5 := Lib.hid C5
          have HRG := Lib.hid rg5
          have HFR := Lib.hid fr5
          clear C5 rg5 fr5 HT1 HK1
          go_wp2_with fail
          go_loopw [116] (fun i wi => ∃ m : Nat, m ≤ 4 ∧ i = .int .i64 m ∧ wr = wi) (fun i _ => 4 - (intOf i).toNat)
          case atStart => exact ⟨0, Nat.zero_le _, rfl, rfl⟩
          case round =>
            obtain ⟨m, hm4, rfl, rfl⟩ := hrel
            by_cases hm : m < 4
            · rcases (by omega : m = 0 ∨ m = 1 ∨ m = 2 ∨ m = 3) with rfl | rfl | rfl | rfl
              · go_wp2
                exact ⟨⟨1, by omega, by go_num, by first | rfl | trivial⟩, by simp [intOf]⟩
              · go_wp2
                exact ⟨⟨2, by omega, by go_num, by first | rfl | trivial⟩, by simp [intOf]⟩
              · go_wp2
                exact ⟨⟨3, by omega, by go_num, by first | rfl | trivial⟩, by simp [intOf]⟩
              · go_wp2
                exact ⟨⟨4, by omega, by go_num, by first | rfl | trivial⟩, by simp [intOf]⟩
            · have hm' : m = 4 := by omega
              subst hm'
              clear b0 b1 b2 b3 ix0 ix1 ix2 ix3
              obtain ⟨k5, hk5, CC5⟩ := HC5.out.conc
              go_wp2_with fail
              refine (conc_words CC5 HFR.out).mono ?_
              rintro e w5 ⟨a5, rfl, R5, hab, B5⟩
              have HC6 := Lib.hid (HC5.out.kept B5)
              have HR5 := Lib.hid R5
              have hne : Hid (a5.block ≠ bm) := Lib.hid (by have : bm < wr.heap.size := HC5.out.bm_lt; omega)
              clear R5 hab B5 HC5 CC5 hk5
              go_wp2_with fail
              go_loopw [125] (fun i wi => ∃ m : Nat, m ≤ pile.length ∧ i = .int .i64 m ∧ Core w wi ⟨gd, g, gw, bc, bp, bw, bm, bn⟩ (List.replicate 4 none) pile nx ps (cnt (pile.drop m)) (ys.length + 4 * 40) (ys.length + 4 * 40 + m) ∧ Row .i64 wi (some a5) pile) (fun i _ => pile.length - (intOf i).toNat)
              case atStart => exact ⟨0, Nat.zero_le _, rfl, HC6.out, HR5.out⟩
              case round =>
                obtain ⟨m, hm, rfl, C7, R7⟩ := hrel
                by_cases hmr : m < pile.length
                · obtain ⟨ad7, e7, c7⟩ := R7.at_ hmr
                  injection e7 with e7
                  subst e7
                  have hy := HRG.out pile[m] (List.getElem_mem hmr)
                  have hdr : pile.drop m = pile[m] :: pile.drop (m + 1) := List.drop_eq_getElem_cons hmr
                  have hbd := cnt_bd (pile.drop m) pile[m]
                  have hdl : (pile.drop m).length ≤ 30 := by simp; omega
                  have l7 := C7.look pile[m] (by omega)
                  obtain ⟨w8, u8, C8, O8⟩ := C7.store pile[m] (cnt (pile.drop m) pile[m] - 1) (by omega) (by omega) (by omega)
                  have hnext : (fun z => if z = pile[m] then cnt (pile.drop m) pile[m] - 1 else cnt (pile.drop m) z) = cnt (pile.drop (m + 1)) := by
                    rw [hdr]; exact cnt_cons _ _
                  rw [hnext] at C8
                  have HC8 := Lib.hid C8
                  have HR8 := Lib.hid (R7.only2 O8 hne.out)
                  have cw : wr.cell? ⟨bw, 0, none⟩ = some (.map (some bm)) := C7.wh.cell 0
                  have m0 : (0 : Int) ≤ (m : Int) := by omega
                  have m1 : (m : Int) < (pile.length : Int) := by omega
                  clear C8 O8 C7 R7 HC6 HR5 hnext hdr
                  simp only at l7 u8
                  generalize cnt (pile.drop m) pile[m] = cy at *
                  generalize pile[m] = y at *
                  obtain ⟨hy0, hy1⟩ := hy
                  obtain ⟨hb0, hb1⟩ := hbd
                  go_wp2
                  exact ⟨⟨m + 1, by omega, by go_num, HC8.out, HR8.out⟩, by simp [intOf]; omega⟩
                · have hm' : m = pile.length := by omega
                  subst hm'
                  rw [List.drop_length, cnt_nil] at C7
                  obtain ⟨D, hD, hT⟩ := C7.mp
                  have cw : wr.cell? ⟨bw, 0, none⟩ = some (.map (some bm)) := C7.wh.cell 0
                  have HBel := Lib.hid C7.below
                  have HTells := Lib.hid hT
                  clear C7 R7 HC6 HR5 hT
                  simp only at hD
                  have hbl := Lib.hid HBel.out.size
                  go_wp2_with (first
                    | (at_range; refine wpList_range_own _ rfl _ 39 rfl 3 3 law3 Try.underlying39 _ bm _ _ rfl hD ?_; intro w8 hrg0 hg0 hs0)
                    | go_in)
                  go_frame
                  have HB8 := Lib.hid (on HBel.out HBel.out.size (⟨hg0.os, hg0.tape, hg0.output, hg0.size, fun i hi => hg0.block i hi (by simp)⟩ : Below wr.heap.size wr w8))
                  have HRG0 := Lib.hid hrg0
                  clear hg0 hs0 hD HBel cw hrg0
                  generalize wr.heap.size = R at *
                  generalize ys.length + 4 * 40 + pile.length = mE at *
                  go_loopw [22] (fun _ wi => ∃ (left : Lit → Bool) (cn : Nat), wi.ranges Try.prog 3 (plainElem Try.prog 3) bm R mE D left cn ∧ Below w.heap.size w wi) (fun _ wi => wi.rangeLeft bm R)
                  case atStart => exact ⟨_, _, HRG0.out, HB8.out⟩
                  case round =>
                    obtain ⟨left, cn, hrg, hbw⟩ := hrel
                    have HBW := Lib.hid hbw
                    clear hbw HB8 HRG0
                    go_wp2_with (first
                      | (at_next; refine wpList_next_ranges_ii _ rfl _ rfl 3 3 .i64 .i64 law3 Try.underlying3 Try.underlying3 bm R mE _ _ _ rfl hrg ?_ ?_)
                      | go_in)
                    · intro _ hl0
                      go_wp2
                      go_ret
                      exact ⟨rfl, HBW.out⟩
                    · intro y c w9 cnt1 hwx hwc hlx hat hrg1 hlt hg1 hs1 hen
                      have hc0 : c = 0 := by
                        have h1 := hat (.lit (.int .i64 0))
                        rw [HTells.out.2 y] at h1
                        injection h1 with h1
                        injection h1 with _ h1
                        exact h1.symm
                      subst hc0
                      have HB9 := Lib.hid (HBW.out.trans (⟨hg1.os, hg1.tape, hg1.output, hg1.size, fun i hi => hg1.block i (Nat.lt_of_lt_of_le hi HBW.out.size) (fun e => by injection e with e; have := hbl.out; omega)⟩ : Below w.heap.size _ w9))
                      have HRG1 := Lib.hid hrg1
                      have hle := hrg.left_eq
                      have hle1 := hrg1.left_eq
                      clear hg1 hs1 hat hrg1
                      go_wp2
                      go_roundw
                      case rel => exact ⟨_, cnt1, HRG1.out, HB9.out⟩
                      case measure => rw [hle, hle1]; exact hlt

set_option maxRecDepth 100000 in
set_option maxHeartbeats 1000000 in
theorem shared_far (A1 A2 : Option Addr) (c1 c2 : Nat) (l1 l2 : Nat) (w : World) (h : 60 < l1 ∨ 400 < l2) : Calls Try.prog 4 #[.slice A1 l1 c1, .slice A2 l2 c2] w fun e w' => e = .returned (.bool true) ∧ Below w.heap.size w w' := by
  by_cases h1 : 60 < l1
  · have d1 : decide ((60 : Int) < (l1 : Int)) = true := by simp; omega
    go_enter Try.func4, Try.ntmps4
    go_wp2_with fail
    refine (awake_any _).mono ?_
    rintro e w1 ⟨rfl, B1⟩
    go_wp2_with fail
    refine (awake_any _).mono ?_
    rintro e w2 ⟨rfl, B2⟩
    have HB := Lib.hid (on B1 B1.size B2)
    clear B1 B2
    go_wp2
    go_ret
    exact ⟨rfl, HB.out⟩
  · have d1 : decide ((60 : Int) < (l1 : Int)) = false := by simp; omega
    have d2 : decide ((400 : Int) < (l2 : Int)) = true := by simp; omega
    go_enter Try.func4, Try.ntmps4
    go_wp2_with fail
    refine (awake_any _).mono ?_
    rintro e w1 ⟨rfl, B1⟩
    go_wp2_with fail
    refine (awake_any _).mono ?_
    rintro e w2 ⟨rfl, B2⟩
    have HB := Lib.hid (on B1 B1.size B2)
    clear B1 B2
    go_wp2
    go_ret
    exact ⟨rfl, HB.out⟩

theorem shared_walk (A1 : Option Addr) (l1 c1 : Nat) (A2 : Option Addr) (l2 c2 : Nat) (w : World) (h1 : ∃ xs, Came .u8 w A1 l1 xs) (h2 : ∃ ys, Came .u8 w A2 l2 ys) : Calls Try.prog 4 #[.slice A1 l1 c1, .slice A2 l2 c2] w fun e w' => e = .returned (.bool true) ∧ Below w.heap.size w w' := by
  obtain ⟨xs, rfl, hr1, hz1⟩ := h1
  obtain ⟨ys, rfl, hr2, hz2⟩ := h2
  by_cases hl : 60 < xs.length ∨ 400 < ys.length
  · exact shared_far A1 A2 c1 c2 _ _ w hl
  · exact shared_near A1 A2 c1 c2 xs ys w (by omega) (by omega) hr1 hz1 hr2 hz2
end Go.Proofs.Ytcnpbdboeaaajaa
