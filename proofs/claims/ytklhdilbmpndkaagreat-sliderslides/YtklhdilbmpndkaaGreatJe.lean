/- Steps of regions that draw their order: a call, an append. beginnings: where each region begins. -/
import Derived.Test.YtklhdilbmpndkaaGreatGj
import Derived.Deep.RegionLaw
import Derived.Laws.Entries
import Derived.Test.YtklhdilbmpndkaaGreatSlAw
import Derived.Test.YtklhdilbmpndkaaGreatRgO
import Derived.OwnWalkIn
import Derived.Deep.RegionHeld3
namespace Go.Proofs.YtklhdilbmpndkaaGreat
set_option maxRecDepth 20000
open Go.RowKit
set_option linter.unusedVariables false
set_option linter.unusedSimpArgs false

theorem step_append30 {ops : Array Oper} {o : Oper} {a : Act} {w w' : World} {K : Act → World → Prop} {Q : Exit → Act → World → Prop} {E : Prop} (hgd : o.guard = none) (d s : Operand)
    (ho : o.op = .call { callee := .builtin .append, args := #[d, s], argTypes := #[30, 30] }) (dv sv v : Value) (hd : a.eval d = dv) (hs : a.eval s = sv)
    (hrun : (Builtin.append_ #[30, 30] o.type #[dv, sv]).run Tryz.prog w = .ok v w') (h : K (a.put o.dst v) w') :
    if Region.wanted o (yielded ops a.tmps) = true then Oper.wp Tryz.prog o a w K Q else E := by
  have hw : Region.wanted o (yielded ops a.tmps) = true := by simp [Region.wanted, hgd]
  rw [if_pos hw]
  unfold Oper.wp
  simp [execOp, ho, resolve, invoke, builtin, hd, hs, hrun, Result.andThen]
  exact h

theorem step_call {ops : Array Oper} {o : Oper} {a : Act} {w : World} {K : Act → World → Prop} {Q : Exit → Act → World → Prop} {E : Prop} (hgd : o.guard = none) (F : Nat) (args : Array Operand) (ts : Array TypeId)
    (ho : o.op = .call { callee := .value (.func F), args := args, argTypes := ts }) (vs : Array Value) (hv : args.map a.eval = vs) (hen : ∀ args w, (callFunc F args).run Tryz.prog w = .ok (.enter F args) w)
    (R : Value → World → Prop) (hc : Calls Tryz.prog F vs w fun e w' => ∃ v, e = .returned v ∧ R v w') (h : ∀ v w', R v w' → K (a.put o.dst v) w') :
    if Region.wanted o (yielded ops a.tmps) = true then Oper.wp Tryz.prog o a w K Q else E := by
  have hw : Region.wanted o (yielded ops a.tmps) = true := by simp [Region.wanted, hgd]
  rw [if_pos hw]
  unfold Oper.wp
  have hvl : args.toList.map a.eval = vs.toList := by rw [← hv]; simp
  simp [execOp, ho, resolve, invoke, hv, hvl, hen, Result.andThen, Act.eval, Deferred.ofValue, go_sem]
  refine hc.mono ?_
  rintro e w' ⟨v, rfl, hr⟩
  exact h v w' hr
end Go.Proofs.YtklhdilbmpndkaaGreat

namespace Go.Proofs.YtklhdilbmpndkaaGreat
set_option maxRecDepth 20000
open Go.RowKit Go.Shelf Go.Sort
attribute [local go_sem] Oper.semAt_some
set_option linter.unusedVariables false
set_option linter.unusedSimpArgs false


theorem Pass.append {w w' : World} {q base : Nat} {B : Option Addr} {cap : Nat} {row : List Int} (R : Rv w base B cap row) (G : w.grownBy w' (blk B)) (hq : q < base) : Pass q base w w' := by
  have hnb : ∀ b, b < base → some b ≠ blk B := fun b hb e => by have := (R.blk_lt e.symm).1; omega
  refine ⟨G.os, G.tape, G.output, G.size, fun b hb _ h2 => G.block b hb (hnb b h2), fun b cs t fr hb ht _ => G.block b (Array.getElem?_eq_some_iff.1 hb).1 fun e => ?_, ⟨G.size, fun j o hj ho => (G.block j (Array.getElem?_eq_some_iff.1 hj).1 fun e => ?_).trans hj⟩⟩
  · obtain ⟨cs', hl, _⟩ := R.lies e.symm
    unfold Lies at hl
    rw [hl] at hb
    injection hb with hb
    injection hb with _ hb
    exact ht hb.symm
  · obtain ⟨cs', hl, _⟩ := R.lies e.symm
    unfold Lies at hl
    rw [hl] at hj
    injection hj with hj
    rw [← hj] at ho; cases ho
theorem wpListIn_append_rv {F : Fence} {n : Nat} {w : World} {base : Nat} {B : Option Addr} {cap : Nat} {row : List Int} {ops : Array Oper} {rest : List Oper} {o : Oper} {a : Act} {Q : Exit → Act → World → Prop} (hgd : o.guard = none) (s x : Operand)
    (ho : o.op = .call { callee := .builtin .append, args := #[s, x], argTypes := #[30, 30] }) (hs : a.eval s = .slice B row.length cap) (h : Rv w base B cap row) (hbase : base ≤ w.heap.size) (hlen : row.length ≤ 100000) (ad : Addr) (y : Int) (hx : a.eval x = .slice (some ad) 1 1) (hy : w.cell? ad = some (.int .i64 y))
    (k : ∀ B' cap' w', Rv w' base B' cap' (row ++ [y]) → w.grownBy w' (blk B) → (blk B' = blk B ∨ blk B' = some w.heap.size) → wpListIn F n Tryz.prog ops Q rest (a.put o.dst (.slice B' (row.length + 1) cap')) w') : wpListIn F n Tryz.prog ops Q (o :: rest) a w := by
  refine wpListIn_plain hgd fun K hK => ?_
  obtain ⟨B', cap', w', hr, h2, h3, h4⟩ := run_append_rv h hbase hlen ad y hy o.type
  unfold Oper.wpIn
  refine ⟨by simp [Oper.about, ho, resolve, Target.leads, Sem.run_pure], ?_⟩
  rw [Oper.semAt_plain F _ _ (by rw [ho]; intro c hc'; cases hc')]
  simp [execOp, ho, resolve, invoke, builtin, hs, hx, hr, Result.andThen]
  exact hK _ _ (k B' cap' w' h2 h3 h4)
def lenAt (w : World) (a : Addr) : Nat := match w.cell? a with
  | some (.slice _ n _) => n
  | _ => 0
theorem lenAt_of {w : World} {a : Addr} {B : Option Addr} {n c : Nat} (h : w.cell? a = some (.slice B n c)) : lenAt w a = n := by unfold lenAt; rw [h]
def beginsL (W : Nat) (L : List (Nat × Ob)) (top K : Nat) : List Int := (List.range (K + 1)).map fun k => ((bgR W L top k : Nat) : Int)
def bgRow (W : Nat) (M : List (Nat × Ob)) (top n : Nat) : List Int := (List.range n).map fun k => ((bgR W M top k : Nat) : Int)
theorem bgRow_len (W : Nat) (M : List (Nat × Ob)) (top n : Nat) : (bgRow W M top n).length = n := by simp [bgRow]
theorem bgRow_more (W : Nat) (M : List (Nat × Ob)) (top n : Nat) : bgRow W M top (n + 1) = bgRow W M top n ++ [((bgR W M top n : Nat) : Int)] := by simp [bgRow, List.range_succ]
/-- So many regions' beginnings are told by what was gone through. -/
structure Bgs (W : Nat) (M : List (Nat × Ob)) (n : Nat) : Prop where
  lt : ∀ y ∈ M, y.1 / W < n
  ge : ∀ k, k < n → ∃ y ∈ M, k ≤ y.1 / W
theorem bgRow_next {W n top top' : Nat} {M : List (Nat × Ob)} (h : Bgs W M n) (x : Nat × Ob) : bgRow W M top n = bgRow W (M ++ [x]) top' n := by
  unfold bgRow
  refine List.map_congr_left fun k hk => ?_
  rw [List.mem_range] at hk
  rw [bg_more_lt M x (h.ge k hk)]
theorem bgs_next {W n j : Nat} {M : List (Nat × Ob)} (h : Bgs W M n) (x : Nat × Ob) (hn : n ≤ j) (hj : j ≤ n ∨ j ≤ x.1 / W + 1) (hx : x.1 / W < j) : Bgs W (M ++ [x]) j :=
  ⟨fun y hy => by
    rcases List.mem_append.1 hy with hy | hy
    · have := h.lt y hy; omega
    · simp at hy; subst hy; exact hx, fun k hk => by
    by_cases hkn : k < n
    · obtain ⟨y, h1, h2⟩ := h.ge k hkn
      exact ⟨y, List.mem_append_left _ h1, h2⟩
    · exact ⟨x, by simp, by omega⟩⟩

set_option maxRecDepth 1000000 in
set_option maxHeartbeats 4000000 in
theorem begins_in {w : World} {g gw gb b q W K T top : Nat} {f : Nat → Bool} {obs : List Ob} {tail : List Int} (S : St w g gw gb obs tail) (F : Fq w b q W K T top f obs) (Sb : Nat) (hSb : ∀ V, Below w.heap.size w V → V.cell? ⟨Sb, 0, none⟩ = some (.pointer (some ⟨b, 0, none⟩))) (ht : (flat obs).length = top) (htop : top ≤ 65536) (hW1 : 1 ≤ W) (hK : K = (top + W - 1) / W) (hK65 : K ≤ 65536) :
    CallsIn Fence.wide 6 Tryz.prog 29 #[.pointer (some ⟨Sb, 0, none⟩), .pointer (some ⟨g, 0, none⟩)] w fun e w' => ∃ B cap, e = .returned (.slice B (K + 1) cap) ∧ Rv w' w.heap.size B cap (beginsL W (adr 0 obs) top K) ∧ Below w.heap.size w w' := by
  have hgl := S.lies.own.lt
  have hgwl := S.lies.words.lt
  have hgbl := S.lies.begins.lt
  have L1 : Lies (w.alloc (.cells #[.pointer (some ⟨Sb, 0, none⟩)] 38)) w.heap.size 38 [.pointer (some ⟨Sb, 0, none⟩)] := Lies.new w 38 [_]
  have B1 := below_one w (.cells #[.pointer (some ⟨Sb, 0, none⟩)] 38)
  obtain ⟨w1, hw1⟩ : ∃ w1, w.alloc (.cells #[.pointer (some ⟨Sb, 0, none⟩)] 38) = w1 := ⟨_, rfl⟩
  have s1 : w1.heap.size = w.heap.size + 1 := by rw [← hw1]; simp
  rw [hw1] at L1 B1
  have L2 : Lies (w1.alloc (.cells #[.slice none 0 0] 30)) w1.heap.size 30 [.slice none 0 0] := Lies.new w1 30 [_]
  have B2 := on B1 B1.size (below_one w1 (.cells #[.slice none 0 0] 30))
  have L12 := L1.alloc (.cells #[.slice none 0 0] 30)
  obtain ⟨w2, hw2⟩ : ∃ w2, w1.alloc (.cells #[.slice none 0 0] 30) = w2 := ⟨_, rfl⟩
  have s2 : w2.heap.size = w.heap.size + 2 := by rw [← hw2, World.size_alloc, s1]
  rw [hw2] at L2 B2 L12
  rw [s1] at L2
  obtain ⟨bs, hbs⟩ : ∃ bs, w.heap.size = bs := ⟨_, rfl⟩
  have HBS := Lib.hid hbs
  have HW1 := Lib.hid hw1
  have HW2 := Lib.hid hw2
  have HS2 := Lib.hid s2
  have HB2 := Lib.hid B2
  have HL1 := Lib.hid L12
  have HL2 := Lib.hid L2
  have HSS := Lib.hid S
  have HF := Lib.hid F
  have HSB := Lib.hid hSb
  have HT := Lib.hid ht
  have HK := Lib.hid hK
  clear L1 L2 L12 B1 B2 hw1 hw2 s1 s2 S F hSb ht hK hbs
  refine callsIn_of_wp_marks Tryz.func29 rfl trivial ?_ rfl
  simp only [Tryz.ntmps29, List.size_toArray, List.length_cons, List.length_nil, Nat.reduceAdd, Nat.reduceSub, Array.replicate_succ, Array.replicate_zero, List.push_toArray, List.append_toArray, List.nil_append, List.cons_append]
  refine wpIn_wide.2 ?_
  go_upto_region 2 with fail
  rw [HW1.out, HW2.out, HBS.out]
  go_wp2_with fail
  refine walk_any.mono ?_
  rintro e w4 ⟨rfl, rfl⟩
  go_wp2_with fail
  have LB4 : Lies (w2.alloc (.cells #[.pointer (some ⟨g, 0, none⟩)] 29)) w2.heap.size 29 [.pointer (some ⟨g, 0, none⟩)] := Lies.new w2 29 [_]
  have b4 := below_one w2 (.cells #[.pointer (some ⟨g, 0, none⟩)] 29)
  have b14 := on HB2.out HB2.out.size b4
  have L14 := HL1.out.kept b4
  have L24 := HL2.out.kept b4
  obtain ⟨w4, hw4⟩ : ∃ w4, w2.alloc (.cells #[.pointer (some ⟨g, 0, none⟩)] 29) = w4 := ⟨_, rfl⟩
  have s4 : w4.heap.size = w.heap.size + 3 := by rw [← hw4, World.size_alloc, HS2.out]
  rw [hw4] at LB4 b14 L14 L24 ⊢
  have hbb : w2.heap.size = bs + 2 := by rw [HS2.out, HBS.out]
  rw [hbb] at LB4 ⊢
  rw [HBS.out] at s4 hgl hgwl hgbl L14 L24
  have HS4 := Lib.hid s4
  clear hw4 b4 hbb s4
  refine (wpIn_wide (n := 6)).1 ?_
  refine wpIn_rangeFunc_ownH rfl (by omega) (gf := 83) (lb := #[.pointer (some ⟨bs + 2, 0, none⟩)]) rfl trivial (enters_of Tryz.func83 (by kernel_rfl) rfl)
    (walk_stops2 5 (by omega) g gw gb (bs + 2) (bs + 1) obs tail w4 (by rw [HS4.out]; omega) ⟨by omega, by omega, by omega⟩ (by omega) (HSS.out.kept b14) LB4) KeepsQ.trans KeepsQ.put (Below.refl _ _) (fun _ => rfl)
    (fun (pre : List (At obs)) Wd => Below w.heap.size w Wd ∧ Lies Wd bs 38 [.pointer (some ⟨Sb, 0, none⟩)] ∧ ∃ B cap n, Lies Wd (bs + 1) 30 [.slice B n cap] ∧ Rv Wd (bs + 2) B cap (bgRow W (pre.map fun x : At obs => x.1) top n) ∧ Bgs W (pre.map fun x : At obs => x.1) n) (fun _ _ _ => False)
    (fun s A B row hs hg hr => ⟨hs.1.grown hg hs.1.size (fun r e => by have := (hr r e).1; rw [HS4.out] at this; rw [HBS.out]; omega), hs.2.1.grown hg (fun r e => (hr r e).2), by obtain ⟨B, cap, n, h1, h2, h3⟩ := hs.2.2; exact ⟨B, cap, n, h1.grown hg (fun r e => (hr r e).2), h2.kept fun b cs _ hl => hl.grown hg (fun r e => (hr r e).2), h3⟩⟩)
    (fun c s A B row hs hg hr => hs)
    ⟨b14, L14, none, 0, 0, L24, Rv.nil _ _, ⟨fun y hy => by simp at hy, fun k hk => absurd hk (Nat.not_lt_zero _)⟩⟩
    (fun x a' Wd => a' = { tmps := #[.pointer (some ⟨Sb, 0, none⟩), .pointer (some ⟨g, 0, none⟩), .pointer (some ⟨bs, 0, none⟩), undef, .slice none 0 0, .pointer (some ⟨bs + 1, 0, none⟩), .int .i64 (x.1.1 : Nat), .pointer (some ⟨g, 0, none⟩), .func (.func 83) #[] #[.pointer (some ⟨bs + 2, 0, none⟩)], .int .i64 (x.1.1 : Nat), .agg #[.int .i64 (x.1.2.1 % 16), .int .i64 (x.1.2.1 / 65536), .int .i64 (x.1.2.1 % 65536 / 16)], undef, undef, undef, undef, undef, undef, undef, undef, undef, undef, undef, undef, undef, undef, undef, undef, undef, undef, undef, undef, undef, undef, undef, undef, undef, undef, undef, undef, undef, undef, undef, undef, undef], defers := [] })
    (fun x a' s A B row hs hg hr => hs) ?assign ?body ?done ?stop
  case assign =>
    rintro l pre x Wd K2 hi hK2
    dsimp only [encAt]
    gi_wp2
    exact hK2 _ _ (KeepsFrom.refl _ _) (KeepsQ.of_below (Below.refl _ _)) hi rfl
  case body =>
    rintro l pre x a' Wd hl ⟨r, hr⟩ ⟨hB, hL, B, cap, n, hL5, hR, hG⟩ rfl hlt
    have hat : x.1.1 < top := by
      have := (at_props x).1
      rw [HT.out] at this; exact this
    obtain ⟨at0, hat0⟩ : ∃ at0, x.1.1 = at0 := ⟨_, rfl⟩
    have HX : Hid (x.1.1 = at0) := Lib.hid hat0
    rw [hat0] at hat ⊢
    have hmap : (pre ++ [x]).map (fun x : At obs => x.1) = (pre.map fun x : At obs => x.1) ++ [x.1] := by simp
    have HMAP := Lib.hid hmap
    obtain ⟨M, hM⟩ : ∃ M, pre.map (fun x : At obs => x.1) = M := ⟨_, rfl⟩
    rw [hM] at hR hG HMAP
    have HBW := Lib.hid hB
    have HLW := Lib.hid hL
    have HGW := Lib.hid hG
    have HR0 := Lib.hid hR
    have HL5 := Lib.hid hL5
    have hn65 : n ≤ 65536 := by
      cases n with
      | zero => omega
      | succ n =>
        obtain ⟨y, hy, h2⟩ := hG.ge n (by omega)
        rw [← hM] at hy
        obtain ⟨z, _, rfl⟩ := List.mem_map.1 hy
        have h3 := (at_props z).1
        have h4 := HT.out
        have h5 := Nat.div_le_self z.1.1 W
        omega
    obtain ⟨k0, hk0⟩ : ∃ k0, at0 / W = k0 := ⟨_, rfl⟩
    have hk0le : k0 ≤ 65536 := by have := Nat.div_le_self at0 W; omega
    have HK0 := Lib.hid hk0
    have hsz : bs + 2 ≤ Wd.heap.size := by have := hB.size; rw [HBS.out] at this; have := hL5.lt; omega
    clear hmap hM hB hL hG hR hL5 hat0 hk0
    gi_wp2
    gi_loopw [22] (fun _ wr => ∃ B cap j, n ≤ j ∧ (j ≤ n ∨ j ≤ k0 + 1) ∧ Pass (bs + 1) (bs + 2) Wd wr ∧ Lies wr (bs + 1) 30 [.slice B j cap] ∧ Rv wr (bs + 2) B cap (bgRow W (M ++ [x.1]) top j)) (fun _ wr => k0 + 1 - lenAt wr ⟨bs + 1, 0, none⟩)
    case atStart => exact ⟨B, cap, n, Nat.le_refl _, .inl (Nat.le_refl _), Pass.of_below (Below.refl _ _), HL5.out, by rw [← bgRow_next (top' := top) HGW.out]; exact HR0.out⟩
    case round =>
      obtain ⟨B, cap, j, hnj, hj, hP, hL5, hR⟩ := hrel
      have hPB : Below w.heap.size w wr := HBW.out.trans (by rw [HBS.out]; exact (hP.below (by omega) (by omega)).mono (by omega))
      have HP := Lib.hid hP
      have HL := Lib.hid hL5
      have HR := Lib.hid hR
      have HPB := Lib.hid hPB
      have z0 := HF.out.c0 wr hPB
      have z1 := HF.out.c1 wr hPB
      have z2 := HF.out.c2 wr hPB
      have zS := HSB.out wr hPB
      have zl : wr.cell? ⟨bs + 1, 0, none⟩ = some (.slice B j cap) := hL5.cell 0
      have zb : wr.cell? ⟨bs, 0, none⟩ = some (.pointer (some ⟨Sb, 0, none⟩)) := (hP.lies HLW.out (by decide) (by omega)).cell 0
      have hln := lenAt_of zl
      have HLN := Lib.hid hln
      have Y0 := fun d os => cell_regrown z0 d os
      have Y1 := fun d os => cell_regrown z1 d os
      have Y2 := fun d os => cell_regrown z2 d os
      have Y3 := fun d os => cell_regrown zS d os
      have Y4 := fun d os => cell_regrown zl d os
      have Y5 := fun d os => cell_regrown zb d os
      have HC : ∀ d os, Hid (CallsIn Fence.wide 3 Tryz.prog 59 #[.agg #[.int .i64 (W : Nat), .slice (some ⟨q, 0, none⟩) K K, .int .i64 (T : Nat)], .int .i64 (at0 : Nat)] (grow (redrawn wr d) os) fun e w' => e = .returned (.int .i64 (k0 : Nat)) ∧ Below (grow (redrawn wr d) os).heap.size (grow (redrawn wr d) os) w') := fun d os =>
        Lib.hid (by rw [← HK0.out]; exact (callsIn_wide (n := 3)).2 (HF.out.at_ _ at0 (by omega)))
      clear z0 z1 z2 zS zl zb hPB hP hL5 hR hln
      gi_wp2_with fail
      refine quiet_tail_round 11 l (by kernel_rfl) (by decide +kernel) rfl ?_
      simp only [List.take_succ_cons, List.take_zero, List.drop_succ_cons, List.drop_zero]
      repeat (first | quiet_step_in (fail) | (refine wpQuietIn_step (fun _ _ _ _ => trivial) (fun K hK => ?_); go_simp; apply Exists.intro; refine ⟨fun p => ?_, hK _ ?_⟩; exact CallsIn.regrown_of (HC p.d p.os).out; clear hK K))
      refine wpQuietIn_nil ?_
      rintro w2 ⟨p, rfl⟩
      have hb2 := below_regrown wr p.d p.os
      generalize grow (redrawn wr p.d) p.os = w3 at *
      have HP3 := Lib.hid (HP.out.trans (Pass.of_below hb2))
      have HL3 := Lib.hid (HL.out.kept hb2)
      have HR3 := Lib.hid (HR.out.below hb2)
      have zl : w3.cell? ⟨bs + 1, 0, none⟩ = some (.slice B j cap) := HL3.out.cell 0
      have zf := HL3.out.frozen 0
      clear hb2 Y0 Y1 Y2 Y3 Y4 Y5 HC
      by_cases hle : j ≤ k0
      · have d0 : decide ((j : Int) ≤ (k0 : Int)) = true := by simp; omega
        have hjx : n ≤ j := hnj
        have HBG : Hid (((bgR W (M ++ [x.1]) top j : Nat) : Int) = (at0 : Int)) := Lib.hid (by
          rw [bg_more_ge M x.1 (fun y hy => by have := HGW.out.lt y hy; omega) (by rw [HX.out, HK0.out]; exact hle), HX.out])
        have cc : (w3.alloc (.cells #[.int .i64 (at0 : Nat)] 3)).cell? ⟨w3.heap.size, 0, none⟩ = some (.int .i64 (at0 : Nat)) := (Lies.new w3 3 [_]).cell 0
        have RV := Lib.hid (HR3.out.below (below_one w3 (.cells #[.int .i64 (at0 : Nat)] 3)))
        have HPA := Lib.hid (HP3.out.trans (Pass.of_below (below_one w3 (.cells #[.int .i64 (at0 : Nat)] 3))))
        have HLA := Lib.hid (HL3.out.kept (below_one w3 (.cells #[.int .i64 (at0 : Nat)] 3)))
        have HLEN : Hid (j = (bgRow W (M ++ [x.1]) top j).length) := Lib.hid (bgRow_len _ _ _ _).symm
        have hsz3 : bs + 2 ≤ w3.heap.size := by have := HP3.out.size; omega
        have zlt := HL3.out.lt
        gi_wp2_with (gi_at_builtin; (have RV7 := RV.out); refine wpListIn_append_rv (row := bgRow W (M ++ [x.1]) top j) rfl (.tmp 23) (.tmp 25) rfl (by rw [← HLEN.out]; rfl) RV7 (by rw [World.size_alloc]; omega) (by rw [← HLEN.out]; omega) ⟨w3.heap.size, 0, none⟩ (at0 : Int) rfl cc ?_; intro B7 cap7 w7 R7 G7 M7; have HR7 := Lib.hid R7; have HP7 := Lib.hid (HPA.out.trans (Pass.append RV.out G7 (by omega))); have HL7 := Lib.hid (HLA.out.of_block (G7.block _ HLA.out.lt (fun e => by have := (RV.out.blk_lt e.symm).1; omega))); have zf7 := HL7.out.frozen 0; have zt7 := HL7.out.lt; (have zl7 : w7.cell? ⟨bs + 1, 0, none⟩ = some (.slice B j cap) := HL7.out.cell 0); rw [← HLEN.out]; clear R7 G7 M7 RV cc RV7 zl zf)
        have L8 := HL7.out.set 0 (.slice B7 (j + 1) cap7)
        have hln8 := lenAt_of (show (w7.setCell ⟨bs + 1, 0, none⟩ (.slice B7 (j + 1) cap7)).cell? ⟨bs + 1, 0, none⟩ = some (.slice B7 (j + 1) cap7) from L8.cell 0)
        refine ⟨⟨B7, cap7, j + 1, by omega, by omega, HP7.out.trans (Pass.set _ _ _), L8, ?_⟩, ?_⟩
        · have h7 := HR7.out
          rw [HBG.out.symm, ← bgRow_more] at h7
          refine h7.kept fun k cs e hl => hl.far (p := ⟨bs + 1, 0, none⟩) ?_ _
          have := (h7.blk_lt e).1
          show k ≠ bs + 1
          omega
        · rw [hln8, HLN.out]; omega
      · have d0 : decide ((j : Int) ≤ (k0 : Int)) = false := by simp; omega
        gi_wp2_with fail
        have hP3 := HP3.out
        have hW3 : Below w.heap.size Wd w3 := by rw [HBS.out]; exact (hP3.below (by omega) (by omega)).mono (by omega)
        refine ⟨hP3.keeps.from _, KeepsQ.of_pass hP3 (by omega), HBW.out.trans hW3, hP3.lies HLW.out (by decide) (by omega), B, cap, j, HL3.out, ?_, ?_⟩
        · rw [HMAP.out]; exact HR3.out
        · rw [HMAP.out]; exact bgs_next HGW.out x.1 hnj (by rw [HX.out, HK0.out]; exact hj) (by rw [HX.out, HK0.out]; omega)
  case done =>
    rintro D ys Wd hD hys ⟨hB, hL, B, cap, n, hL5, hR, hG⟩ hK
    rw [hys] at hR hG
    have hnK : n ≤ K := by
      cases n with
      | zero => omega
      | succ n =>
        obtain ⟨y, hy, h2⟩ := hG.ge n (by omega)
        have h3 := adr_lt hy
        have h4 := HT.out
        have h5 : y.1 / W < K := by
          rw [HK.out, Nat.div_lt_iff_lt_mul (by omega), Nat.mul_comm]
          have h6 := Nat.div_add_mod (top + W - 1) W
          have h7 := Nat.mod_lt (top + W - 1) (show W > 0 by omega)
          omega
        omega
    have HBW := Lib.hid hB
    have HLW := Lib.hid hL
    have HGW := Lib.hid hG
    have HR0 := Lib.hid hR
    have HL5 := Lib.hid hL5
    have HD := Lib.hid hK
    have hD3 : bs + 2 < D := by rw [HS4.out] at hD; have := HBS.out; omega
    have hsz : bs + 2 ≤ Wd.heap.size := by have := (Array.getElem?_eq_some_iff.1 hK).1; omega
    clear hB hL hG hR hL5 hK hys
    go_wp2_with fail
    go_loopw [37] (fun _ wr => ∃ B cap j, n ≤ j ∧ j ≤ K + 1 ∧ Pass (bs + 1) (bs + 2) Wd wr ∧ Lies wr (bs + 1) 30 [.slice B j cap] ∧ Rv wr (bs + 2) B cap (bgRow W (adr 0 obs) top j)) (fun _ wr => K + 1 - lenAt wr ⟨bs + 1, 0, none⟩)
    case atStart => exact ⟨B, cap, n, Nat.le_refl _, by omega, Pass.of_below (Below.refl _ _), HL5.out, HR0.out⟩
    case round =>
      obtain ⟨B, cap, j, hnj, hj, hP, hL5, hR⟩ := hrel
      have hPB : Below w.heap.size w wr := HBW.out.trans (by rw [HBS.out]; exact (hP.below (by omega) (by omega)).mono (by omega))
      have HP := Lib.hid hP
      have HL := Lib.hid hL5
      have HR := Lib.hid hR
      have HPB := Lib.hid hPB
      have z0 := HF.out.c0 wr hPB
      have z1 := HF.out.c1 wr hPB
      have z2 := HF.out.c2 wr hPB
      have zS := HSB.out wr hPB
      have zl : wr.cell? ⟨bs + 1, 0, none⟩ = some (.slice B j cap) := hL5.cell 0
      have zb : wr.cell? ⟨bs, 0, none⟩ = some (.pointer (some ⟨Sb, 0, none⟩)) := (hP.lies HLW.out (by decide) (by omega)).cell 0
      have hln := lenAt_of zl
      have HLN := Lib.hid hln
      clear hPB hP hL5 hR hln
      go_upto_region 6 with fail
      have hmx : Tryz.prog.follows .mixedOrders = true := by kernel_rfl
      have y0 : ∀ d os, (grow (redrawn wr d) os).cell? ⟨b, 0, none⟩ = some (.int .i64 (W : Nat)) := fun d os => cell_regrown z0 d os
      have y1 : ∀ d os, (grow (redrawn wr d) os).cell? ⟨b, 1, none⟩ = some (.slice (some ⟨q, 0, none⟩) K K) := fun d os => cell_regrown z1 d os
      have y2 : ∀ d os, (grow (redrawn wr d) os).cell? ⟨b, 2, none⟩ = some (.int .i64 (T : Nat)) := fun d os => cell_regrown z2 d os
      have y3 : ∀ d os, (grow (redrawn wr d) os).cell? ⟨Sb, 0, none⟩ = some (.pointer (some ⟨b, 0, none⟩)) := fun d os => cell_regrown zS d os
      have y4 : ∀ d os, (grow (redrawn wr d) os).cell? ⟨bs, 0, none⟩ = some (.pointer (some ⟨Sb, 0, none⟩)) := fun d os => cell_regrown zb d os
      have y5 : ∀ d os, (grow (redrawn wr d) os).cell? ⟨bs + 1, 0, none⟩ = some (.slice B j cap) := fun d os => cell_regrown zl d os
      have c0 : ∀ d os, Hid (Calls Tryz.prog 50 #[.agg #[.int .i64 (W : Nat), .slice (some ⟨q, 0, none⟩) K K, .int .i64 (T : Nat)]] (grow (redrawn wr d) os) fun e w' => e = .returned (.int .i64 (K : Nat)) ∧ Below (grow (redrawn wr d) os).heap.size (grow (redrawn wr d) os) w') := fun d os => Lib.hid (HF.out.len _)
      refine wp_region_quiet_below hmx (by kernel_rfl) ?_
      repeat (with_reducible refine wpQuiet_step ?_; intro K hK; go_simp; first | (with_reducible refine hK _ ?_; clear hK K) | (with_reducible apply Exists.intro; with_reducible refine ⟨fun _ => ?_, hK _ ?_⟩; (first | (with_reducible exact Calls.regrown_of (c0 _ _).out)); clear hK K))
      with_reducible refine wpQuiet_nil ?_
      rintro w3 ⟨pp, rfl⟩
      have hb3 := below_regrown wr pp.d pp.os
      generalize grow (redrawn wr pp.d) pp.os = w3 at *
      have HP3 := Lib.hid (HP.out.trans (Pass.of_below hb3))
      have HL3 := Lib.hid (HL.out.kept hb3)
      have HR3 := Lib.hid (HR.out.below hb3)
      have HB3 := Lib.hid (on HPB.out HPB.out.size hb3)
      clear z0 z1 z2 zS zl zb y0 y1 y2 y3 y4 y5 c0 hb3
      by_cases hle : j ≤ K
      · have d0 : decide ((j : Int) ≤ (K : Int)) = true := by simp; omega
        have zl : w3.cell? ⟨bs + 1, 0, none⟩ = some (.slice B j cap) := HL3.out.cell 0
        have zlt := HL3.out.lt
        have HTN := Lib.hid (fun V (hV : Below w3.heap.size w3 V) => top_n (HSS.out.kept (on HB3.out HB3.out.size hV)) top HT.out)
        obtain ⟨w5, hw5⟩ : ∃ w5, w3.drew.alloc (.cells #[.int .i64 (top : Nat)] 3) = w5 := ⟨_, rfl⟩
        have b5 : Below w3.heap.size w3 w5 := by rw [← hw5]; exact ((Below.refl _ _).drew).alloc (Nat.le_refl _) _
        have cc : w5.cell? ⟨w3.heap.size, 0, none⟩ = some (.int .i64 (top : Nat)) := by rw [← hw5]; exact (Lies.new w3.drew 3 [_]).cell 0
        have L5 := HL3.out.kept b5
        have R5 := HR3.out.below b5
        have P5 := HP3.out.trans (Pass.of_below b5)
        have hln5 : (bgRow W (adr 0 obs) top j).length = j := bgRow_len _ _ _ _
        obtain ⟨B7, cap7, w7, hrun, R7, G7, M7⟩ := run_append_rv R5 (by have := b5.size; have := HP3.out.size; omega) (by rw [hln5]; omega) ⟨w3.heap.size, 0, none⟩ (top : Int) cc 30
        rw [hln5, ← hw5] at hrun
        have HP7 := Lib.hid (P5.trans (Pass.append R5 G7 (by omega)))
        have HL7 := Lib.hid (L5.of_block (G7.block _ L5.lt (fun e => by have := (R5.blk_lt e.symm).1; omega)))
        have HR7 := Lib.hid R7
        have zf7 := HL7.out.frozen 0
        have zt7 := HL7.out.lt
        have zl7 : w7.cell? ⟨bs + 1, 0, none⟩ = some (.slice B j cap) := HL7.out.cell 0
        clear hw5 b5 cc L5 R5 P5 hln5 R7 G7 M7
        go_upto_region 7 with fail
        have hen := enters_of (P := Tryz.prog) Tryz.func18 (by kernel_rfl) rfl
        have HRUN := Lib.hid hrun
        clear hrun
        refine wp_region_noPanic ?_
        go_region_law (first | (refine step_call rfl 18 #[.tmp 39] #[29] rfl #[.pointer (some ⟨g, 0, none⟩)] (by simp [Act.eval, Act.put]) hen (fun v w' => v = .int .i64 (top : Nat) ∧ _ = w') ((HTN.out _ (Below.refl _ _).drew).mono (by rintro e w' ⟨rfl, rfl⟩; exact ⟨_, rfl, rfl, rfl⟩)) ?_; rintro v w' ⟨rfl, rfl⟩) | (refine step_append30 rfl (.tmp 38) (.tmp 41) rfl _ _ _ (by simp [Act.eval, Act.put]) (by simp [Act.eval, Act.put]) HRUN.out ?_))
        all_goals
          refine NoPanic.normal ?_
          go_wp2_with fail
          have L8 := HL7.out.set 0 (.slice B7 (j + 1) cap7)
          have hln8 := lenAt_of (show (w7.setCell ⟨bs + 1, 0, none⟩ (.slice B7 (j + 1) cap7)).cell? ⟨bs + 1, 0, none⟩ = some (.slice B7 (j + 1) cap7) from L8.cell 0)
          refine ⟨⟨B7, cap7, j + 1, by omega, by omega, HP7.out.trans (Pass.set _ _ _), L8, ?_⟩, ?_⟩
          · have h7 := HR7.out
            have e : ((bgR W (adr 0 obs) top j : Nat) : Int) = (top : Int) := by rw [bg_none fun y hy => by have := HGW.out.lt y hy; omega]
            rw [← e, ← bgRow_more] at h7
            refine h7.kept fun k cs e hl => hl.far (p := ⟨bs + 1, 0, none⟩) ?_ _
            have := (h7.blk_lt e).1
            show k ≠ bs + 1
            omega
          · rw [hln8, HLN.out]; omega
      · have d0 : decide ((j : Int) ≤ (K : Int)) = false := by simp; omega
        obtain rfl : j = K + 1 := by omega
        have zl : w3.cell? ⟨bs + 1, 0, none⟩ = some (.slice B (K + 1) cap) := HL3.out.cell 0
        go_wp2_with fail
        have hKD := HP3.out.keeps.same D _ HD.out rfl
        refine ⟨by simp, .inl ⟨_, _, rfl, run_takeDeferred hKD, ?_⟩⟩
        have hgr := grownBy_putObj' w3 D (.deferred none)
        have hnc : ∀ r, some D = some r → ∃ o : Obj, w3.heap[r]? = some o ∧ o.isCells = false := fun r e => by cases e; exact ⟨_, hKD, rfl⟩
        have R9 : Rv (w3.putObj D (.deferred none)) (bs + 2) B cap (bgRow W (adr 0 obs) top (K + 1)) := HR3.out.kept fun b cs _ hl => hl.grown hgr hnc
        refine ⟨.slice B (K + 1) cap, ?_, B, cap, rfl, R9.wider (by have := HBS.out; omega), HB3.out.trans (belowK_b (w := w) (Nat.le_refl _) w3 D _ _ (by have := HBS.out; omega) hKD rfl rfl)⟩
        simp [results, Tryz.f29, go_sem]
  case stop =>
    intro D c pre W0 hD hS hF
    exact hF.elim
theorem begins_any {w : World} {g gw gb b q W K T top : Nat} {f : Nat → Bool} {obs : List Ob} {tail : List Int} (S : St w g gw gb obs tail) (F : Fq w b q W K T top f obs) (Sb : Nat) (hSb : ∀ V, Below w.heap.size w V → V.cell? ⟨Sb, 0, none⟩ = some (.pointer (some ⟨b, 0, none⟩))) (ht : (flat obs).length = top) (htop : top ≤ 65536) (hW1 : 1 ≤ W) (hK : K = (top + W - 1) / W) (hK65 : K ≤ 65536) :
    Calls Tryz.prog 29 #[.pointer (some ⟨Sb, 0, none⟩), .pointer (some ⟨g, 0, none⟩)] w fun e w' => ∃ B cap, e = .returned (.slice B (K + 1) cap) ∧ Rv w' w.heap.size B cap (beginsL W (adr 0 obs) top K) ∧ Below w.heap.size w w' :=
  callsIn_wide.1 (begins_in S F Sb hSb ht htop hW1 hK hK65)
end Go.Proofs.YtklhdilbmpndkaaGreat
