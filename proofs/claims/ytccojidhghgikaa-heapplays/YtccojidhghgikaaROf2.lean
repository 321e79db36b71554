/- What the reference's Of answers. -/
import Derived.Test.YtccojidhghgikaaROf1
import Derived.Deep.RegionLaw
import Derived.Deep.RegionHeld3
namespace Go.Proofs.Ytccojidhghgikaa
open Go.RowKit
set_option linter.unusedVariables false
set_option linter.unusedSimpArgs false

set_option maxRecDepth 100000 in
set_option maxHeartbeats 6000000 in
theorem rof_any (A : Option Addr) (c top : Nat) (zs : List Int) (w : World) (hr : Row w A zs) (h1 : 1 ≤ zs.length) (h2 : zs.length ≤ 65536) (h3 : top ≤ zs.length) (hc : zs.length ≤ c) :
    Calls Try.prog 30 #[.slice A zs.length c, .int .i64 (top : Int)] w fun e w' => OfPost zs top w e w' := by
  have HR := Lib.hid hr
  have d1 : decide ((zs.length : Int) < 1) = false := by simp; omega
  have d2 : decide ((65536 : Int) < (zs.length : Int)) = false := by simp; omega
  have d3 : decide ((top : Int) < 0) = false := by simp
  have d4 : decide ((zs.length : Int) < (top : Int)) = false := by simp; omega
  clear hr
  go_enter Try.func30, Try.ntmps30
  go_wp2
  go_loopw [7, 8, 9] (fun i _ _ wr => ∃ (a : Nat) (pre : List Ob) (v : Value) (xs : List Value), a ≤ top ∧ i = .int .i64 a ∧ OfI w zs a pre v xs wr) (fun i _ _ _ => top - (intOf i).toNat)
  case atStart =>
    refine ⟨0, [], .slice none 0 0, [], Nat.zero_le _, rfl, fun _ h => by simp at h, by simp [flat_nil], ?_, ?_, ⟨rfl, .inl ⟨rfl, rfl⟩⟩, rfl, ?_⟩
    · exact (Lies.new w 41 [.int .i64 0, .slice none 0 0]).alloc _
    · have := Lies.new (w.alloc (.cells #[.int .i64 0, .slice none 0 0] 41)) 41 [.int .i64 (zs.length : Nat), .slice none 0 0]
      simpa using this
    · exact ((Below.refl _ w).alloc (Nat.le_refl _) _).alloc (by simp) _
  case round =>
    obtain ⟨a, pre, v, xs, ha, rfl, hI⟩ := hrel
    by_cases hlt : a < top
    · obtain ⟨ad, rfl, hca⟩ := (HR.out.kept hI.old).at_ (i := a) (by omega)
      obtain ⟨z, hz⟩ : ∃ z, zs.getD a 0 = z := ⟨_, rfl⟩
      rw [hz] at hca
      have a0 : (0 : Int) ≤ (a : Int) := by omega
      have a1 : (a : Int) < (zs.length : Int) := by omega
      have HZ := Lib.hid hz
      clear hz
      cases hh : headB z with
      | false =>
        go_wp2_with fail
        refine (refUnpack_no z _ hh).mono ?_
        rintro e w2 ⟨rfl, hb2⟩
        have L2 := hI.res.below hb2 hI.res.lt
        have y0 : w2.cell? ⟨w.heap.size, 0, none⟩ = some (.int .i64 0) := L2.cell 0
        have y1 : w2.cell? ⟨w.heap.size, 1, none⟩ = some (.slice none 0 0) := L2.cell 1
        have y2 := L2.frozen 0
        have y3 := L2.frozen 1
        have y4 := L2.lt
        have B2 := on hI.old hI.old.size hb2
        have hno : ¬ Parses (zs.take top) := fun hp => by
          have := (parse_next hI.fine hI.flat_ hlt h3 hp).1
          rw [HZ.out, hh] at this
          cases this
        have HNo := Lib.hid hno
        have z5 := B2.size
        clear hno
        go_wp2
        exact bodyPost_ret (v := .tuple #[.agg #[.int .i64 0, .slice none 0 0], .int .i64 2]) (by simp [results, Try.results30, go_sem, y0, y1, y2, y3, y4]) rfl ⟨.inr ⟨HNo.out, rfl⟩, by
          repeat (first | exact B2 | refine Below.setCell ?_ (by simp <;> omega) _ | refine Below.alloc ?_ (by simp <;> omega) _)⟩
      | true =>
        have hq0 : 0 ≤ z / 65536 := by have := head_nn hh; omega
        have hq1 : z / 65536 ≤ 4095 := by have := len_le hh; unfold lenOf at this; omega
        obtain ⟨q, hq⟩ : ∃ q : Nat, z / 65536 = (q : Int) := ⟨(z / 65536).toNat, by omega⟩
        have hle : lenOf z = q := by unfold lenOf; omega
        have HQ := Lib.hid hq
        have HL := Lib.hid hle
        rw [hq] at hq0 hq1
        clear hq hle
        by_cases hfit : a + 1 + q ≤ top
        · by_cases hcap : c = a + 1
          · obtain rfl : q = 0 := by omega
            subst hcap
            have d5 : decide ((top : Int) < (a : Int) + 1 + (0 : Int)) = false := by simp; omega
            go_wp2_with fail
            refine (refUnpack_yes z _ hh).mono ?_
            rintro e w2 ⟨rfl, hb2⟩
            rw [HQ.out]
            have I2 := Lib.hid (hI.kept hb2)
            have HB2 := Lib.hid (on hI.old hI.old.size hb2)
            have y0 : w2.cell? ⟨w.heap.size + 1, 1, none⟩ = some v := I2.out.box.cell 1
            have y1 : w2.frozen? ⟨w.heap.size + 1, 1, none⟩ = false := I2.out.box.frozen 1
            have y2 : w.heap.size + 1 < w2.heap.size := I2.out.box.lt
            clear hI hb2 hca
            have b1 : (a : Int) + 1 ≤ (a : Int) + 1 + (0 : Int) := by omega
            have b2 : (a : Int) + 1 + (0 : Int) ≤ (zs.length : Int) := by omega
            have b3 : ((a : Int) + 1).toNat = a + 1 := by omega
            have b4 : ((a : Int) + 1 + (0 : Int)).toNat = a + 1 + 0 := by omega
            have b5 : (0 : Int) ≤ (a : Int) + 1 := by omega
            have b6 : (a : Int) + 1 + (0 : Int) ≤ (a : Int) + 1 := by omega
            have b7 : IntKind.i64.wrap ((a : Int) + 1) = (a : Int) + 1 := IntWalk.i64_in _ (by omega)
            have b8 : IntKind.i64.wrap ((a : Int) + 1 + (0 : Int)) = (a : Int) + 1 + (0 : Int) := IntWalk.i64_in _ (by omega)
            have b9 : (0 : Int) ≤ (a : Int) + 1 + (0 : Int) := by omega
            have b10 : max ((a : Int) + 1 + (0 : Int)) 0 = (a : Int) + 1 + (0 : Int) := by omega
            obtain ⟨X, hX⟩ : ∃ X : Obj, X = .cells #[.int .i64 (z % 16), .int .i64 (0 : Int), .int .i64 (z % 65536 / 16)] 23 := ⟨_, rfl⟩
            obtain ⟨Wb, hWb⟩ : ∃ Wb, Wb = ((w2.alloc X).alloc (.cells #[] 3)).drew := ⟨_, rfl⟩
            have hbw : Below w2.heap.size w2 Wb := by
              rw [hWb]
              have h1 := ((Below.refl w2.heap.size w2).alloc (Nat.le_refl _) X).alloc (by rw [World.size_alloc]; exact Nat.le_succ _) (.cells #[] 3)
              exact ⟨h1.os, h1.tape, h1.output, h1.size, h1.block⟩
            have hbs : w.heap.size + 1 + 1 ≤ w2.heap.size := y2
            have hoe : Wb.ownsRow (w.heap.size + 1 + 1) 3 1 (.slice (some ⟨w2.heap.size + 1, 0, none⟩) 0 0) 0 [] := by
              rw [hWb]
              have := World.ownsRow_lit (base := w.heap.size + 1 + 1) (e := 3) (size := 1) (w2.alloc X) #[] 0 (by rw [World.size_alloc]; omega) (by unfold maxLen; omega) rfl
              rw [World.size_alloc] at this
              exact this
            have hrow : Row Wb (some ad) ((zs.drop (a + 1)).take 0) := fun h0 => by simp at h0
            have hxb : Lies Wb w2.heap.size 23 [.int .i64 (z % 16), .int .i64 (0 : Int), .int .i64 (z % 65536 / 16)] := by
              rw [hWb, hX]
              exact ((Lies.new w2 23 [.int .i64 (z % 16), .int .i64 (0 : Int), .int .i64 (z % 65536 / 16)]).alloc _).drew
            have hbb : w.heap.size + 1 + 1 ≤ Wb.heap.size := by have := hbw.size; omega
            have hsz : Wb.heap.size = w2.heap.size + 1 + 1 := by rw [hWb]; simp
            have hbx : Wb.cell? ⟨w.heap.size + 1, 1, none⟩ = some v := (I2.out.kept hbw).box.cell 1
            have e1 : ¬ w.heap.size = w2.heap.size := by omega
            have e2 : w.heap.size < w2.heap.size := by omega
            have e3 : ¬ w.heap.size + 1 = w2.heap.size := by omega
            have e4 : w.heap.size + 1 < w2.heap.size + 1 := by omega
            have HBW := Lib.hid hbw
            have HHB := Lib.hid hbb
            have HXB := Lib.hid hxb
            have HRow := Lib.hid hrow
            have HOE := Lib.hid hoe
            have hyl : ((zs.drop (a + 1)).take 0).length = 0 := by simp
            have HYl := Lib.hid hyl
            rw [hX] at hWb
            rw [hWb] at HBW HHB HXB HRow HOE hbx
            clear hbw hbb hxb hrow hoe hyl hsz hWb hX
            generalize hys : (zs.drop (a + 1)).take 0 = ys at *
            have HYs := Lib.hid hys
            clear hys
            go_wp2_with fail
            refine wp_region_held_drew (S := (fun W => W.cell? ⟨w2.heap.size, 0, none⟩ = some (.int .i64 (z % 16)) ∧ W.cell? ⟨w2.heap.size, 1, none⟩ = some (.int .i64 (0 : Int)) ∧ W.cell? ⟨w2.heap.size, 2, none⟩ = some (.int .i64 (z % 65536 / 16)))) (by kernel_rfl) (by go_keep) (fun hH0 => ?_)
            refine wpAnyH_take (i := 0) (oi := { dst := some 55, op := Go.Op.fieldAddr 41 (Go.Operand.tmp 6) 1, type := 0, pos := "ref.go:159", after := #[], guard := none }) (v := ?_) rfl (by kernel_rfl) (by kernel_rfl) (by kernel_rfl) (fun _ _ _ h => h) (Or.inl ⟨by rfl, ?_⟩) (by assumption) ?_
            rotate_left
            · (intro w hSw; (try dsimp only at hSw); go_simp; (try with_reducible rfl))
            (try simp only [Act.put, List.setIfInBounds_toArray, List.set_cons_zero, List.set_cons_succ])
            refine wpAnyH_take (i := 2) (oi := { dst := some 57, op := Go.Op.move (Go.Operand.tmp 7), type := 3, pos := "ref.go:159", after := #[], guard := none }) (v := ?_) rfl (by kernel_rfl) (by kernel_rfl) (by kernel_rfl) (fun _ _ _ h => h) (Or.inl ⟨by rfl, ?_⟩) (by assumption) ?_
            rotate_left
            · (intro w hSw; (try dsimp only at hSw); go_simp; (try with_reducible rfl))
            (try simp only [Act.put, List.setIfInBounds_toArray, List.set_cons_zero, List.set_cons_succ])
            refine wpAnyH_take (i := 3) (oi := { dst := some 58, op := Go.Op.load 23 (Go.Operand.tmp 8), type := 23, pos := "ref.go:159", after := #[], guard := none }) (v := ?_) rfl (by kernel_rfl) (by kernel_rfl) (by kernel_rfl) (fun _ _ _ h => h) (Or.inl ⟨by rfl, ?_⟩) (by assumption) ?_
            rotate_left
            · (intro w hSw; (try dsimp only at hSw); go_simp; (try with_reducible rfl))
            (try simp only [Act.put, List.setIfInBounds_toArray, List.set_cons_zero, List.set_cons_succ])
            refine wpAnyH_take (i := 5) (oi := { dst := some 60, op := Go.Op.move (Go.Operand.tmp 0), type := 51, pos := "ref.go:159", after := #[], guard := none }) (v := ?_) rfl (by kernel_rfl) (by kernel_rfl) (by kernel_rfl) (fun _ _ _ h => h) (Or.inl ⟨by rfl, ?_⟩) (by assumption) ?_
            rotate_left
            · (intro w hSw; (try dsimp only at hSw); go_simp; (try with_reducible rfl))
            (try simp only [Act.put, List.setIfInBounds_toArray, List.set_cons_zero, List.set_cons_succ])
            refine wpAnyH_take (i := 6) (oi := { dst := some 61, op := Go.Op.move (Go.Operand.tmp 7), type := 3, pos := "ref.go:159", after := #[], guard := none }) (v := ?_) rfl (by kernel_rfl) (by kernel_rfl) (by kernel_rfl) (fun _ _ _ h => h) (Or.inl ⟨by rfl, ?_⟩) (by assumption) ?_
            rotate_left
            · (intro w hSw; (try dsimp only at hSw); go_simp; (try with_reducible rfl))
            (try simp only [Act.put, List.setIfInBounds_toArray, List.set_cons_zero, List.set_cons_succ])
            refine wpAnyH_take (i := 7) (oi := { dst := some 62, op := Go.Op.binOp Go.BinOp.add 3 (Go.Operand.tmp 61) (Go.Operand.const (Go.Value.int Go.IntKind.i64 1)) 3, type := 3, pos := "ref.go:159", after := #[{ on := 6, ground := Go.Ground.data }], guard := none }) (v := ?_) rfl (by kernel_rfl) (by kernel_rfl) (by kernel_rfl) (fun _ _ _ h => h) (Or.inl ⟨by rfl, ?_⟩) (by assumption) ?_
            rotate_left
            · (intro w hSw; (try dsimp only at hSw); go_simp; (try with_reducible rfl))
            (try simp only [Act.put, List.setIfInBounds_toArray, List.set_cons_zero, List.set_cons_succ])
            refine wpAnyH_take (i := 8) (oi := { dst := some 63, op := Go.Op.move (Go.Operand.tmp 7), type := 3, pos := "ref.go:159", after := #[], guard := none }) (v := ?_) rfl (by kernel_rfl) (by kernel_rfl) (by kernel_rfl) (fun _ _ _ h => h) (Or.inl ⟨by rfl, ?_⟩) (by assumption) ?_
            rotate_left
            · (intro w hSw; (try dsimp only at hSw); go_simp; (try with_reducible rfl))
            (try simp only [Act.put, List.setIfInBounds_toArray, List.set_cons_zero, List.set_cons_succ])
            refine wpAnyH_take (i := 9) (oi := { dst := some 64, op := Go.Op.binOp Go.BinOp.add 3 (Go.Operand.tmp 63) (Go.Operand.const (Go.Value.int Go.IntKind.i64 1)) 3, type := 3, pos := "ref.go:159", after := #[{ on := 8, ground := Go.Ground.data }], guard := none }) (v := ?_) rfl (by kernel_rfl) (by kernel_rfl) (by kernel_rfl) (fun _ _ _ h => h) (Or.inl ⟨by rfl, ?_⟩) (by assumption) ?_
            rotate_left
            · (intro w hSw; (try dsimp only at hSw); go_simp; (try with_reducible rfl))
            (try simp only [Act.put, List.setIfInBounds_toArray, List.set_cons_zero, List.set_cons_succ])
            refine wpAnyH_take (i := 10) (oi := { dst := some 65, op := Go.Op.fieldAddr 23 (Go.Operand.tmp 8) 1, type := 0, pos := "ref.go:159", after := #[], guard := none }) (v := ?_) rfl (by kernel_rfl) (by kernel_rfl) (by kernel_rfl) (fun _ _ _ h => h) (Or.inl ⟨by rfl, ?_⟩) (by assumption) ?_
            rotate_left
            · (intro w hSw; (try dsimp only at hSw); go_simp; (try with_reducible rfl))
            (try simp only [Act.put, List.setIfInBounds_toArray, List.set_cons_zero, List.set_cons_succ])
            refine wpAnyH_take (i := 11) (oi := { dst := some 66, op := Go.Op.load 3 (Go.Operand.tmp 65), type := 3, pos := "ref.go:159", after := #[{ on := 10, ground := Go.Ground.data }], guard := none }) (v := ?_) rfl (by kernel_rfl) (by kernel_rfl) (by kernel_rfl) (fun _ _ _ h => h) (Or.inl ⟨by rfl, ?_⟩) (by assumption) ?_
            rotate_left
            · (intro w hSw; (try dsimp only at hSw); go_simp; (try with_reducible rfl))
            (try simp only [Act.put, List.setIfInBounds_toArray, List.set_cons_zero, List.set_cons_succ])
            refine wpAnyH_take (i := 12) (oi := { dst := some 67, op := Go.Op.binOp Go.BinOp.add 3 (Go.Operand.tmp 64) (Go.Operand.tmp 66) 3, type := 3, pos := "ref.go:159", after := #[{ on := 9, ground := Go.Ground.data }, { on := 11, ground := Go.Ground.data }], guard := none }) (v := ?_) rfl (by kernel_rfl) (by kernel_rfl) (by kernel_rfl) (fun _ _ _ h => h) (Or.inl ⟨by rfl, ?_⟩) (by assumption) ?_
            rotate_left
            · (intro w hSw; (try dsimp only at hSw); go_simp; (try with_reducible rfl))
            (try simp only [Act.put, List.setIfInBounds_toArray, List.set_cons_zero, List.set_cons_succ])
            refine wpAnyH_take (i := 13) (oi := { dst := some 68, op := Go.Op.slice 51 (Go.Operand.tmp 60) (some (Go.Operand.tmp 62)) (some (Go.Operand.tmp 67)) none, type := 51, pos := "ref.go:159", after := #[{ on := 5, ground := Go.Ground.data }, { on := 7, ground := Go.Ground.data }, { on := 12, ground := Go.Ground.data }], guard := none }) (v := ?_) rfl (by kernel_rfl) (by kernel_rfl) (by kernel_rfl) (fun _ _ _ h => h) (Or.inl ⟨by rfl, ?_⟩) (by assumption) ?_
            rotate_left
            · (intro w hSw; (try dsimp only at hSw); go_simp; (try with_reducible rfl))
            (try simp only [Act.put, List.setIfInBounds_toArray, List.set_cons_zero, List.set_cons_succ])
            refine wpAnyH_ready (rs := [1, 4]) (by kernel_rfl) (by simp) ?_
            refine AllReadyH.cons (o := { dst := some 56, op := Go.Op.load 39 (Go.Operand.tmp 55), type := 39, pos := "ref.go:159", after := #[{ on := 0, ground := Go.Ground.data }], guard := none }) rfl (fun K hK => ?_) ?_
            · go_simp
              refine hK.out _ _ (by first | go_keep | exact ⟨r0, r1, r2⟩ | exact ⟨s0, s1, s2⟩) (fun hH1 => ?_)
              clear hK K
              clear hH0
              refine wpAnyH_ready (rs := [4]) (by kernel_rfl) (by simp) ?_
              refine AllReadyH.cons (o := { dst := some 59, op := Go.Op.buildSlice 51 0 #[], type := 51, pos := "ref.go:159", after := #[], guard := none }) rfl (fun K hK => ?_) ?_
              · go_simp
                refine hK.out _ _ (by first | go_keep | exact ⟨r0, r1, r2⟩ | exact ⟨s0, s1, s2⟩) (fun hH2 => ?_)
                clear hK K
                clear hH1
                refine wpAnyH_ready (rs := [14]) (by kernel_rfl) (by simp) ?_
                refine AllReadyH.cons (o := { dst := some 69, op := Go.Op.call { callee := Go.Callee.builtin Go.Builtin.append, args := #[Go.Operand.tmp 59, Go.Operand.tmp 68], argTypes := #[51, 51] }, type := 51, pos := "ref.go:159", after := #[{ on := 4, ground := Go.Ground.data }, { on := 13, ground := Go.Ground.data }], guard := none }) rfl (fun K hK => ?_) ?_
                · refine step_fresh rfl (.tmp 59) (.tmp 68) rfl (w.heap.size + 1 + 1) (w2.heap.size + 1) 0 rfl HOE.out _ 0 _ ys rfl HYl.out HRow.out (by omega) HHB.out ?_; intro g1 cap1 w3 O3 G3; have B3 := Lib.hid (HBW.out.grown G3 HBW.out.size (fun k e => by simp at e; omega)); have I3 := Lib.hid (I2.out.kept B3.out); have X3 := Lib.hid (lies_grown HXB.out HOE.out (by decide) G3); have r0 : w3.cell? ⟨w2.heap.size, 0, none⟩ = some (.int .i64 (z % 16)) := X3.out.cell 0; have r1 : w3.cell? ⟨w2.heap.size, 1, none⟩ = some (.int .i64 (0 : Int)) := X3.out.cell 1; have r2 : w3.cell? ⟨w2.heap.size, 2, none⟩ = some (.int .i64 (z % 65536 / 16)) := X3.out.cell 2; have r3 : w3.cell? ⟨w.heap.size + 1, 1, none⟩ = some v := I3.out.box.cell 1; have hz3 := B3.out.size; have e5 : ¬ w.heap.size + 1 = w3.heap.size := (by omega); have e6 : w.heap.size + 1 < w3.heap.size := (by omega); have e7 : ¬ w2.heap.size = w3.heap.size := (by have := X3.out.lt; omega); have e8 : w2.heap.size < w3.heap.size := X3.out.lt; clear hz3; have HO3 := Lib.hid O3; clear O3 G3
                  refine hK.out _ _ (by first | go_keep | exact ⟨r0, r1, r2⟩ | exact ⟨s0, s1, s2⟩) (fun hH3 => ?_)
                  clear hK K
                  clear hH2
                  refine wpAnyH_take (i := 15) (oi := { dst := some 70, op := Go.Op.build 53 #[(0, Go.Operand.tmp 57), (1, Go.Operand.tmp 58), (2, Go.Operand.tmp 69)], type := 53, pos := "ref.go:159", after := #[{ on := 2, ground := Go.Ground.data }, { on := 3, ground := Go.Ground.data }, { on := 14, ground := Go.Ground.data }], guard := none }) (v := ?_) rfl (by kernel_rfl) (by kernel_rfl) (by kernel_rfl) (fun _ _ _ h => h) (Or.inl ⟨by rfl, ?_⟩) (by assumption) ?_
                  rotate_left
                  · (intro w hSw; (try dsimp only at hSw); go_simp; (try with_reducible rfl))
                  (try simp only [Act.put, List.setIfInBounds_toArray, List.set_cons_zero, List.set_cons_succ])
                  refine wpAnyH_ready (rs := [16]) (by kernel_rfl) (by simp) ?_
                  refine AllReadyH.cons (o := { dst := some 71, op := Go.Op.buildSlice 39 1 #[(0, Go.Operand.tmp 70)], type := 39, pos := "ref.go:159", after := #[{ on := 15, ground := Go.Ground.data }], guard := none }) rfl (fun K hK => ?_) ?_
                  · go_simp
                    refine hK.out _ _ (by first | go_keep | exact ⟨r0, r1, r2⟩ | exact ⟨s0, s1, s2⟩) (fun hH4 => ?_)
                    clear hK K
                    clear hH3
                    refine wpAnyH_ready (rs := [17]) (by kernel_rfl) (by simp) ?_
                    refine AllReadyH.cons (o := { dst := some 72, op := Go.Op.call { callee := Go.Callee.builtin Go.Builtin.append, args := #[Go.Operand.tmp 56, Go.Operand.tmp 71], argTypes := #[39, 39] }, type := 39, pos := "ref.go:159", after := #[{ on := 1, ground := Go.Ground.data }, { on := 16, ground := Go.Ground.data }, { on := 14, ground := Go.Ground.chain }], guard := none }) rfl (fun K hK => ?_) ?_
                    · have hn5 := obj_new w3 a z ys g1 cap1 53 HQ.out HYl.out; have hb5 : w.heap.size + 1 + 1 ≤ (w3.alloc (.cells #[.int .i64 (a : Int), .int .i64 (z % 16), .int .i64 (0 : Int), .int .i64 (z % 65536 / 16), .slice (some ⟨g1, 0, none⟩) 0 cap1] 53)).heap.size := (by have := B3.out.size; rw [World.size_alloc]; omega); have ho5 := owns_any I3.out.own (below_one w3 (.cells #[.int .i64 (a : Int), .int .i64 (z % 16), .int .i64 (0 : Int), .int .i64 (z % 65536 / 16), .slice (some ⟨g1, 0, none⟩) 0 cap1] 53)); refine step_obj rfl (.tmp 56) (.tmp 71) rfl (w.heap.size + 1 + 1) v pre.length xs rfl ho5 w3.heap.size 1 1 (thing a (z, ys) (some ⟨g1, 0, none⟩) cap1).toArray (0, 0) 53 rfl hn5 rfl (one_thing _ _ _ _) (pre_le I3.out (by omega)) hb5 ?_; intro v5 w5 O5 G5; obtain ⟨g5, cap5, rfl, -, -⟩ := O5.form (by omega); have hx5 := lies_grown (I3.out.box.alloc _) ho5 (by decide) G5; have u0 : w5.cell? ⟨w.heap.size + 1, 1, none⟩ = some v := hx5.cell 1; have u1 : w5.frozen? ⟨w.heap.size + 1, 1, none⟩ = false := hx5.frozen 1; have hxx5 := lies_grown (X3.out.alloc (.cells #[.int .i64 (a : Int), .int .i64 (z % 16), .int .i64 (0 : Int), .int .i64 (z % 65536 / 16), .slice (some ⟨g1, 0, none⟩) 0 cap1] 53)) ho5 (by decide) G5; have s0 : w5.cell? ⟨w2.heap.size, 0, none⟩ = some (.int .i64 (z % 16)) := hxx5.cell 0; have s1 : w5.cell? ⟨w2.heap.size, 1, none⟩ = some (.int .i64 (0 : Int)) := hxx5.cell 1; have s2 : w5.cell? ⟨w2.heap.size, 2, none⟩ = some (.int .i64 (z % 65536 / 16)) := hxx5.cell 2; clear hxx5; have HX5 := Lib.hid hx5; have HO5 := Lib.hid O5; have HG5 := Lib.hid G5; have HOO5 := Lib.hid ho5; clear O5 G5 hx5 ho5 hn5 hb5
                      refine hK.out _ _ (by first | go_keep | exact ⟨r0, r1, r2⟩ | exact ⟨s0, s1, s2⟩) (fun hH5 => ?_)
                      clear hK K
                      clear hH4
                      refine wpAnyH_take (i := 18) (oi := { dst := some 73, op := Go.Op.fieldAddr 41 (Go.Operand.tmp 6) 1, type := 0, pos := "ref.go:159", after := #[{ on := 0, ground := Go.Ground.phase }, { on := 1, ground := Go.Ground.phase }, { on := 2, ground := Go.Ground.phase }, { on := 3, ground := Go.Ground.phase }, { on := 4, ground := Go.Ground.phase }, { on := 5, ground := Go.Ground.phase }, { on := 6, ground := Go.Ground.phase }, { on := 7, ground := Go.Ground.phase }, { on := 8, ground := Go.Ground.phase }, { on := 9, ground := Go.Ground.phase }, { on := 10, ground := Go.Ground.phase }, { on := 11, ground := Go.Ground.phase }, { on := 12, ground := Go.Ground.phase }, { on := 13, ground := Go.Ground.phase }, { on := 14, ground := Go.Ground.phase }, { on := 15, ground := Go.Ground.phase }, { on := 16, ground := Go.Ground.phase }, { on := 17, ground := Go.Ground.phase }], guard := none }) (v := ?_) rfl (by kernel_rfl) (by kernel_rfl) (by kernel_rfl) (fun _ _ _ h => h) (Or.inl ⟨by rfl, ?_⟩) (by assumption) ?_
                      rotate_left
                      · (intro w hSw; (try dsimp only at hSw); go_simp; (try with_reducible rfl))
                      (try simp only [Act.put, List.setIfInBounds_toArray, List.set_cons_zero, List.set_cons_succ])
                      refine wpAnyH_ready (rs := [19]) (by kernel_rfl) (by simp) ?_
                      refine AllReadyH.cons (o := { dst := none, op := Go.Op.store 39 (Go.Operand.tmp 73) (Go.Operand.tmp 72), type := 0, pos := "ref.go:159", after := #[{ on := 18, ground := Go.Ground.data }, { on := 17, ground := Go.Ground.data }, { on := 17, ground := Go.Ground.chain }, { on := 0, ground := Go.Ground.phase }, { on := 1, ground := Go.Ground.phase }, { on := 2, ground := Go.Ground.phase }, { on := 3, ground := Go.Ground.phase }, { on := 4, ground := Go.Ground.phase }, { on := 5, ground := Go.Ground.phase }, { on := 6, ground := Go.Ground.phase }, { on := 7, ground := Go.Ground.phase }, { on := 8, ground := Go.Ground.phase }, { on := 9, ground := Go.Ground.phase }, { on := 10, ground := Go.Ground.phase }, { on := 11, ground := Go.Ground.phase }, { on := 12, ground := Go.Ground.phase }, { on := 13, ground := Go.Ground.phase }, { on := 14, ground := Go.Ground.phase }, { on := 15, ground := Go.Ground.phase }, { on := 16, ground := Go.Ground.phase }, { on := 17, ground := Go.Ground.phase }], guard := none }) rfl (fun K hK => ?_) ?_
                      · go_simp
                        refine hK.out _ _ (by first | go_keep | exact ⟨r0, r1, r2⟩ | exact ⟨s0, s1, s2⟩) (fun hH6 => ?_)
                        clear hK K
                        clear hH5
                        refine wpAnyH_done (by kernel_rfl) ?_ _
                        have xb5 : Lies (w5.setCell ⟨w.heap.size + 1, 1, none⟩ (.slice (some ⟨g5, 0, none⟩) (pre.length + 1) cap5)) w2.heap.size 23 [.int .i64 (z % 16), .int .i64 (0 : Int), .int .i64 (z % 65536 / 16)] :=
                          (lies_grown (X3.out.alloc _) HOO5.out (by decide) HG5.out).far (p := ⟨w.heap.size + 1, 1, none⟩) (by simp; omega) _
                        have t1 : (w5.setCell ⟨w.heap.size + 1, 1, none⟩ (.slice (some ⟨g5, 0, none⟩) (pre.length + 1) cap5)).cell? ⟨w2.heap.size, 1, none⟩ = some (.int .i64 (0 : Int)) := xb5.cell 1
                        have hnx := next_ob (zs := zs) I3.out.flat_ hlt h3 (by rw [HZ.out, HL.out]; omega)
                        rw [HZ.out, HL.out, HYs.out] at hnx
                        have HNx := Lib.hid hnx
                        clear hnx xb5
                        go_wp2
                        exact ⟨⟨a + 1 + 0, hfit, by go_num, pre ++ [(z, ys)], .slice (some ⟨g5, 0, none⟩) (pre.length + 1) cap5, xs ++ thing a (z, ys) (some ⟨g1, 0, none⟩) cap1, OfI.next _ I3.out (by omega) hh HYl.out HL.out HNx.out HO3.out HOO5.out HG5.out HO5.out HX5.out⟩, by simp [intOf]; omega⟩
                      exact AllReadyH.nil
                    exact AllReadyH.nil
                  exact AllReadyH.nil
                exact AllReadyH.nil
              exact AllReadyH.nil
            refine AllReadyH.cons (o := { dst := some 59, op := Go.Op.buildSlice 51 0 #[], type := 51, pos := "ref.go:159", after := #[], guard := none }) rfl (fun K hK => ?_) ?_
            · go_simp
              refine hK.out _ _ (by first | go_keep | exact ⟨r0, r1, r2⟩ | exact ⟨s0, s1, s2⟩) (fun hH1 => ?_)
              clear hK K
              clear hH0
              refine wpAnyH_ready (rs := [1, 14]) (by kernel_rfl) (by simp) ?_
              refine AllReadyH.cons (o := { dst := some 56, op := Go.Op.load 39 (Go.Operand.tmp 55), type := 39, pos := "ref.go:159", after := #[{ on := 0, ground := Go.Ground.data }], guard := none }) rfl (fun K hK => ?_) ?_
              · go_simp
                refine hK.out _ _ (by first | go_keep | exact ⟨r0, r1, r2⟩ | exact ⟨s0, s1, s2⟩) (fun hH2 => ?_)
                clear hK K
                clear hH1
                refine wpAnyH_ready (rs := [14]) (by kernel_rfl) (by simp) ?_
                refine AllReadyH.cons (o := { dst := some 69, op := Go.Op.call { callee := Go.Callee.builtin Go.Builtin.append, args := #[Go.Operand.tmp 59, Go.Operand.tmp 68], argTypes := #[51, 51] }, type := 51, pos := "ref.go:159", after := #[{ on := 4, ground := Go.Ground.data }, { on := 13, ground := Go.Ground.data }], guard := none }) rfl (fun K hK => ?_) ?_
                · refine step_fresh rfl (.tmp 59) (.tmp 68) rfl (w.heap.size + 1 + 1) (w2.heap.size + 1) 0 rfl HOE.out _ 0 _ ys rfl HYl.out HRow.out (by omega) HHB.out ?_; intro g1 cap1 w3 O3 G3; have B3 := Lib.hid (HBW.out.grown G3 HBW.out.size (fun k e => by simp at e; omega)); have I3 := Lib.hid (I2.out.kept B3.out); have X3 := Lib.hid (lies_grown HXB.out HOE.out (by decide) G3); have r0 : w3.cell? ⟨w2.heap.size, 0, none⟩ = some (.int .i64 (z % 16)) := X3.out.cell 0; have r1 : w3.cell? ⟨w2.heap.size, 1, none⟩ = some (.int .i64 (0 : Int)) := X3.out.cell 1; have r2 : w3.cell? ⟨w2.heap.size, 2, none⟩ = some (.int .i64 (z % 65536 / 16)) := X3.out.cell 2; have r3 : w3.cell? ⟨w.heap.size + 1, 1, none⟩ = some v := I3.out.box.cell 1; have hz3 := B3.out.size; have e5 : ¬ w.heap.size + 1 = w3.heap.size := (by omega); have e6 : w.heap.size + 1 < w3.heap.size := (by omega); have e7 : ¬ w2.heap.size = w3.heap.size := (by have := X3.out.lt; omega); have e8 : w2.heap.size < w3.heap.size := X3.out.lt; clear hz3; have HO3 := Lib.hid O3; clear O3 G3
                  refine hK.out _ _ (by first | go_keep | exact ⟨r0, r1, r2⟩ | exact ⟨s0, s1, s2⟩) (fun hH3 => ?_)
                  clear hK K
                  clear hH2
                  refine wpAnyH_take (i := 15) (oi := { dst := some 70, op := Go.Op.build 53 #[(0, Go.Operand.tmp 57), (1, Go.Operand.tmp 58), (2, Go.Operand.tmp 69)], type := 53, pos := "ref.go:159", after := #[{ on := 2, ground := Go.Ground.data }, { on := 3, ground := Go.Ground.data }, { on := 14, ground := Go.Ground.data }], guard := none }) (v := ?_) rfl (by kernel_rfl) (by kernel_rfl) (by kernel_rfl) (fun _ _ _ h => h) (Or.inl ⟨by rfl, ?_⟩) (by assumption) ?_
                  rotate_left
                  · (intro w hSw; (try dsimp only at hSw); go_simp; (try with_reducible rfl))
                  (try simp only [Act.put, List.setIfInBounds_toArray, List.set_cons_zero, List.set_cons_succ])
                  refine wpAnyH_ready (rs := [16]) (by kernel_rfl) (by simp) ?_
                  refine AllReadyH.cons (o := { dst := some 71, op := Go.Op.buildSlice 39 1 #[(0, Go.Operand.tmp 70)], type := 39, pos := "ref.go:159", after := #[{ on := 15, ground := Go.Ground.data }], guard := none }) rfl (fun K hK => ?_) ?_
                  · go_simp
                    refine hK.out _ _ (by first | go_keep | exact ⟨r0, r1, r2⟩ | exact ⟨s0, s1, s2⟩) (fun hH4 => ?_)
                    clear hK K
                    clear hH3
                    refine wpAnyH_ready (rs := [17]) (by kernel_rfl) (by simp) ?_
                    refine AllReadyH.cons (o := { dst := some 72, op := Go.Op.call { callee := Go.Callee.builtin Go.Builtin.append, args := #[Go.Operand.tmp 56, Go.Operand.tmp 71], argTypes := #[39, 39] }, type := 39, pos := "ref.go:159", after := #[{ on := 1, ground := Go.Ground.data }, { on := 16, ground := Go.Ground.data }, { on := 14, ground := Go.Ground.chain }], guard := none }) rfl (fun K hK => ?_) ?_
                    · have hn5 := obj_new w3 a z ys g1 cap1 53 HQ.out HYl.out; have hb5 : w.heap.size + 1 + 1 ≤ (w3.alloc (.cells #[.int .i64 (a : Int), .int .i64 (z % 16), .int .i64 (0 : Int), .int .i64 (z % 65536 / 16), .slice (some ⟨g1, 0, none⟩) 0 cap1] 53)).heap.size := (by have := B3.out.size; rw [World.size_alloc]; omega); have ho5 := owns_any I3.out.own (below_one w3 (.cells #[.int .i64 (a : Int), .int .i64 (z % 16), .int .i64 (0 : Int), .int .i64 (z % 65536 / 16), .slice (some ⟨g1, 0, none⟩) 0 cap1] 53)); refine step_obj rfl (.tmp 56) (.tmp 71) rfl (w.heap.size + 1 + 1) v pre.length xs rfl ho5 w3.heap.size 1 1 (thing a (z, ys) (some ⟨g1, 0, none⟩) cap1).toArray (0, 0) 53 rfl hn5 rfl (one_thing _ _ _ _) (pre_le I3.out (by omega)) hb5 ?_; intro v5 w5 O5 G5; obtain ⟨g5, cap5, rfl, -, -⟩ := O5.form (by omega); have hx5 := lies_grown (I3.out.box.alloc _) ho5 (by decide) G5; have u0 : w5.cell? ⟨w.heap.size + 1, 1, none⟩ = some v := hx5.cell 1; have u1 : w5.frozen? ⟨w.heap.size + 1, 1, none⟩ = false := hx5.frozen 1; have hxx5 := lies_grown (X3.out.alloc (.cells #[.int .i64 (a : Int), .int .i64 (z % 16), .int .i64 (0 : Int), .int .i64 (z % 65536 / 16), .slice (some ⟨g1, 0, none⟩) 0 cap1] 53)) ho5 (by decide) G5; have s0 : w5.cell? ⟨w2.heap.size, 0, none⟩ = some (.int .i64 (z % 16)) := hxx5.cell 0; have s1 : w5.cell? ⟨w2.heap.size, 1, none⟩ = some (.int .i64 (0 : Int)) := hxx5.cell 1; have s2 : w5.cell? ⟨w2.heap.size, 2, none⟩ = some (.int .i64 (z % 65536 / 16)) := hxx5.cell 2; clear hxx5; have HX5 := Lib.hid hx5; have HO5 := Lib.hid O5; have HG5 := Lib.hid G5; have HOO5 := Lib.hid ho5; clear O5 G5 hx5 ho5 hn5 hb5
                      refine hK.out _ _ (by first | go_keep | exact ⟨r0, r1, r2⟩ | exact ⟨s0, s1, s2⟩) (fun hH5 => ?_)
                      clear hK K
                      clear hH4
                      refine wpAnyH_take (i := 18) (oi := { dst := some 73, op := Go.Op.fieldAddr 41 (Go.Operand.tmp 6) 1, type := 0, pos := "ref.go:159", after := #[{ on := 0, ground := Go.Ground.phase }, { on := 1, ground := Go.Ground.phase }, { on := 2, ground := Go.Ground.phase }, { on := 3, ground := Go.Ground.phase }, { on := 4, ground := Go.Ground.phase }, { on := 5, ground := Go.Ground.phase }, { on := 6, ground := Go.Ground.phase }, { on := 7, ground := Go.Ground.phase }, { on := 8, ground := Go.Ground.phase }, { on := 9, ground := Go.Ground.phase }, { on := 10, ground := Go.Ground.phase }, { on := 11, ground := Go.Ground.phase }, { on := 12, ground := Go.Ground.phase }, { on := 13, ground := Go.Ground.phase }, { on := 14, ground := Go.Ground.phase }, { on := 15, ground := Go.Ground.phase }, { on := 16, ground := Go.Ground.phase }, { on := 17, ground := Go.Ground.phase }], guard := none }) (v := ?_) rfl (by kernel_rfl) (by kernel_rfl) (by kernel_rfl) (fun _ _ _ h => h) (Or.inl ⟨by rfl, ?_⟩) (by assumption) ?_
                      rotate_left
                      · (intro w hSw; (try dsimp only at hSw); go_simp; (try with_reducible rfl))
                      (try simp only [Act.put, List.setIfInBounds_toArray, List.set_cons_zero, List.set_cons_succ])
                      refine wpAnyH_ready (rs := [19]) (by kernel_rfl) (by simp) ?_
                      refine AllReadyH.cons (o := { dst := none, op := Go.Op.store 39 (Go.Operand.tmp 73) (Go.Operand.tmp 72), type := 0, pos := "ref.go:159", after := #[{ on := 18, ground := Go.Ground.data }, { on := 17, ground := Go.Ground.data }, { on := 17, ground := Go.Ground.chain }, { on := 0, ground := Go.Ground.phase }, { on := 1, ground := Go.Ground.phase }, { on := 2, ground := Go.Ground.phase }, { on := 3, ground := Go.Ground.phase }, { on := 4, ground := Go.Ground.phase }, { on := 5, ground := Go.Ground.phase }, { on := 6, ground := Go.Ground.phase }, { on := 7, ground := Go.Ground.phase }, { on := 8, ground := Go.Ground.phase }, { on := 9, ground := Go.Ground.phase }, { on := 10, ground := Go.Ground.phase }, { on := 11, ground := Go.Ground.phase }, { on := 12, ground := Go.Ground.phase }, { on := 13, ground := Go.Ground.phase }, { on := 14, ground := Go.Ground.phase }, { on := 15, ground := Go.Ground.phase }, { on := 16, ground := Go.Ground.phase }, { on := 17, ground := Go.Ground.phase }], guard := none }) rfl (fun K hK => ?_) ?_
                      · go_simp
                        refine hK.out _ _ (by first | go_keep | exact ⟨r0, r1, r2⟩ | exact ⟨s0, s1, s2⟩) (fun hH6 => ?_)
                        clear hK K
                        clear hH5
                        refine wpAnyH_done (by kernel_rfl) ?_ _
                        have xb5 : Lies (w5.setCell ⟨w.heap.size + 1, 1, none⟩ (.slice (some ⟨g5, 0, none⟩) (pre.length + 1) cap5)) w2.heap.size 23 [.int .i64 (z % 16), .int .i64 (0 : Int), .int .i64 (z % 65536 / 16)] :=
                          (lies_grown (X3.out.alloc _) HOO5.out (by decide) HG5.out).far (p := ⟨w.heap.size + 1, 1, none⟩) (by simp; omega) _
                        have t1 : (w5.setCell ⟨w.heap.size + 1, 1, none⟩ (.slice (some ⟨g5, 0, none⟩) (pre.length + 1) cap5)).cell? ⟨w2.heap.size, 1, none⟩ = some (.int .i64 (0 : Int)) := xb5.cell 1
                        have hnx := next_ob (zs := zs) I3.out.flat_ hlt h3 (by rw [HZ.out, HL.out]; omega)
                        rw [HZ.out, HL.out, HYs.out] at hnx
                        have HNx := Lib.hid hnx
                        clear hnx xb5
                        go_wp2
                        exact ⟨⟨a + 1 + 0, hfit, by go_num, pre ++ [(z, ys)], .slice (some ⟨g5, 0, none⟩) (pre.length + 1) cap5, xs ++ thing a (z, ys) (some ⟨g1, 0, none⟩) cap1, OfI.next _ I3.out (by omega) hh HYl.out HL.out HNx.out HO3.out HOO5.out HG5.out HO5.out HX5.out⟩, by simp [intOf]; omega⟩
                      exact AllReadyH.nil
                    exact AllReadyH.nil
                  exact AllReadyH.nil
                exact AllReadyH.nil
              refine AllReadyH.cons (o := { dst := some 69, op := Go.Op.call { callee := Go.Callee.builtin Go.Builtin.append, args := #[Go.Operand.tmp 59, Go.Operand.tmp 68], argTypes := #[51, 51] }, type := 51, pos := "ref.go:159", after := #[{ on := 4, ground := Go.Ground.data }, { on := 13, ground := Go.Ground.data }], guard := none }) rfl (fun K hK => ?_) ?_
              · refine step_fresh rfl (.tmp 59) (.tmp 68) rfl (w.heap.size + 1 + 1) (w2.heap.size + 1) 0 rfl HOE.out _ 0 _ ys rfl HYl.out HRow.out (by omega) HHB.out ?_; intro g1 cap1 w3 O3 G3; have B3 := Lib.hid (HBW.out.grown G3 HBW.out.size (fun k e => by simp at e; omega)); have I3 := Lib.hid (I2.out.kept B3.out); have X3 := Lib.hid (lies_grown HXB.out HOE.out (by decide) G3); have r0 : w3.cell? ⟨w2.heap.size, 0, none⟩ = some (.int .i64 (z % 16)) := X3.out.cell 0; have r1 : w3.cell? ⟨w2.heap.size, 1, none⟩ = some (.int .i64 (0 : Int)) := X3.out.cell 1; have r2 : w3.cell? ⟨w2.heap.size, 2, none⟩ = some (.int .i64 (z % 65536 / 16)) := X3.out.cell 2; have r3 : w3.cell? ⟨w.heap.size + 1, 1, none⟩ = some v := I3.out.box.cell 1; have hz3 := B3.out.size; have e5 : ¬ w.heap.size + 1 = w3.heap.size := (by omega); have e6 : w.heap.size + 1 < w3.heap.size := (by omega); have e7 : ¬ w2.heap.size = w3.heap.size := (by have := X3.out.lt; omega); have e8 : w2.heap.size < w3.heap.size := X3.out.lt; clear hz3; have HO3 := Lib.hid O3; clear O3 G3
                refine hK.out _ _ (by first | go_keep | exact ⟨r0, r1, r2⟩ | exact ⟨s0, s1, s2⟩) (fun hH2 => ?_)
                clear hK K
                clear hH1
                refine wpAnyH_take (i := 15) (oi := { dst := some 70, op := Go.Op.build 53 #[(0, Go.Operand.tmp 57), (1, Go.Operand.tmp 58), (2, Go.Operand.tmp 69)], type := 53, pos := "ref.go:159", after := #[{ on := 2, ground := Go.Ground.data }, { on := 3, ground := Go.Ground.data }, { on := 14, ground := Go.Ground.data }], guard := none }) (v := ?_) rfl (by kernel_rfl) (by kernel_rfl) (by kernel_rfl) (fun _ _ _ h => h) (Or.inl ⟨by rfl, ?_⟩) (by assumption) ?_
                rotate_left
                · (intro w hSw; (try dsimp only at hSw); go_simp; (try with_reducible rfl))
                (try simp only [Act.put, List.setIfInBounds_toArray, List.set_cons_zero, List.set_cons_succ])
                refine wpAnyH_ready (rs := [1, 16]) (by kernel_rfl) (by simp) ?_
                refine AllReadyH.cons (o := { dst := some 56, op := Go.Op.load 39 (Go.Operand.tmp 55), type := 39, pos := "ref.go:159", after := #[{ on := 0, ground := Go.Ground.data }], guard := none }) rfl (fun K hK => ?_) ?_
                · go_simp
                  refine hK.out _ _ (by first | go_keep | exact ⟨r0, r1, r2⟩ | exact ⟨s0, s1, s2⟩) (fun hH3 => ?_)
                  clear hK K
                  clear hH2
                  refine wpAnyH_ready (rs := [16]) (by kernel_rfl) (by simp) ?_
                  refine AllReadyH.cons (o := { dst := some 71, op := Go.Op.buildSlice 39 1 #[(0, Go.Operand.tmp 70)], type := 39, pos := "ref.go:159", after := #[{ on := 15, ground := Go.Ground.data }], guard := none }) rfl (fun K hK => ?_) ?_
                  · go_simp
                    refine hK.out _ _ (by first | go_keep | exact ⟨r0, r1, r2⟩ | exact ⟨s0, s1, s2⟩) (fun hH4 => ?_)
                    clear hK K
                    clear hH3
                    refine wpAnyH_ready (rs := [17]) (by kernel_rfl) (by simp) ?_
                    refine AllReadyH.cons (o := { dst := some 72, op := Go.Op.call { callee := Go.Callee.builtin Go.Builtin.append, args := #[Go.Operand.tmp 56, Go.Operand.tmp 71], argTypes := #[39, 39] }, type := 39, pos := "ref.go:159", after := #[{ on := 1, ground := Go.Ground.data }, { on := 16, ground := Go.Ground.data }, { on := 14, ground := Go.Ground.chain }], guard := none }) rfl (fun K hK => ?_) ?_
                    · have hn5 := obj_new w3 a z ys g1 cap1 53 HQ.out HYl.out; have hb5 : w.heap.size + 1 + 1 ≤ (w3.alloc (.cells #[.int .i64 (a : Int), .int .i64 (z % 16), .int .i64 (0 : Int), .int .i64 (z % 65536 / 16), .slice (some ⟨g1, 0, none⟩) 0 cap1] 53)).heap.size := (by have := B3.out.size; rw [World.size_alloc]; omega); have ho5 := owns_any I3.out.own (below_one w3 (.cells #[.int .i64 (a : Int), .int .i64 (z % 16), .int .i64 (0 : Int), .int .i64 (z % 65536 / 16), .slice (some ⟨g1, 0, none⟩) 0 cap1] 53)); refine step_obj rfl (.tmp 56) (.tmp 71) rfl (w.heap.size + 1 + 1) v pre.length xs rfl ho5 w3.heap.size 1 1 (thing a (z, ys) (some ⟨g1, 0, none⟩) cap1).toArray (0, 0) 53 rfl hn5 rfl (one_thing _ _ _ _) (pre_le I3.out (by omega)) hb5 ?_; intro v5 w5 O5 G5; obtain ⟨g5, cap5, rfl, -, -⟩ := O5.form (by omega); have hx5 := lies_grown (I3.out.box.alloc _) ho5 (by decide) G5; have u0 : w5.cell? ⟨w.heap.size + 1, 1, none⟩ = some v := hx5.cell 1; have u1 : w5.frozen? ⟨w.heap.size + 1, 1, none⟩ = false := hx5.frozen 1; have hxx5 := lies_grown (X3.out.alloc (.cells #[.int .i64 (a : Int), .int .i64 (z % 16), .int .i64 (0 : Int), .int .i64 (z % 65536 / 16), .slice (some ⟨g1, 0, none⟩) 0 cap1] 53)) ho5 (by decide) G5; have s0 : w5.cell? ⟨w2.heap.size, 0, none⟩ = some (.int .i64 (z % 16)) := hxx5.cell 0; have s1 : w5.cell? ⟨w2.heap.size, 1, none⟩ = some (.int .i64 (0 : Int)) := hxx5.cell 1; have s2 : w5.cell? ⟨w2.heap.size, 2, none⟩ = some (.int .i64 (z % 65536 / 16)) := hxx5.cell 2; clear hxx5; have HX5 := Lib.hid hx5; have HO5 := Lib.hid O5; have HG5 := Lib.hid G5; have HOO5 := Lib.hid ho5; clear O5 G5 hx5 ho5 hn5 hb5
                      refine hK.out _ _ (by first | go_keep | exact ⟨r0, r1, r2⟩ | exact ⟨s0, s1, s2⟩) (fun hH5 => ?_)
                      clear hK K
                      clear hH4
                      refine wpAnyH_take (i := 18) (oi := { dst := some 73, op := Go.Op.fieldAddr 41 (Go.Operand.tmp 6) 1, type := 0, pos := "ref.go:159", after := #[{ on := 0, ground := Go.Ground.phase }, { on := 1, ground := Go.Ground.phase }, { on := 2, ground := Go.Ground.phase }, { on := 3, ground := Go.Ground.phase }, { on := 4, ground := Go.Ground.phase }, { on := 5, ground := Go.Ground.phase }, { on := 6, ground := Go.Ground.phase }, { on := 7, ground := Go.Ground.phase }, { on := 8, ground := Go.Ground.phase }, { on := 9, ground := Go.Ground.phase }, { on := 10, ground := Go.Ground.phase }, { on := 11, ground := Go.Ground.phase }, { on := 12, ground := Go.Ground.phase }, { on := 13, ground := Go.Ground.phase }, { on := 14, ground := Go.Ground.phase }, { on := 15, ground := Go.Ground.phase }, { on := 16, ground := Go.Ground.phase }, { on := 17, ground := Go.Ground.phase }], guard := none }) (v := ?_) rfl (by kernel_rfl) (by kernel_rfl) (by kernel_rfl) (fun _ _ _ h => h) (Or.inl ⟨by rfl, ?_⟩) (by assumption) ?_
                      rotate_left
                      · (intro w hSw; (try dsimp only at hSw); go_simp; (try with_reducible rfl))
                      (try simp only [Act.put, List.setIfInBounds_toArray, List.set_cons_zero, List.set_cons_succ])
                      refine wpAnyH_ready (rs := [19]) (by kernel_rfl) (by simp) ?_
                      refine AllReadyH.cons (o := { dst := none, op := Go.Op.store 39 (Go.Operand.tmp 73) (Go.Operand.tmp 72), type := 0, pos := "ref.go:159", after := #[{ on := 18, ground := Go.Ground.data }, { on := 17, ground := Go.Ground.data }, { on := 17, ground := Go.Ground.chain }, { on := 0, ground := Go.Ground.phase }, { on := 1, ground := Go.Ground.phase }, { on := 2, ground := Go.Ground.phase }, { on := 3, ground := Go.Ground.phase }, { on := 4, ground := Go.Ground.phase }, { on := 5, ground := Go.Ground.phase }, { on := 6, ground := Go.Ground.phase }, { on := 7, ground := Go.Ground.phase }, { on := 8, ground := Go.Ground.phase }, { on := 9, ground := Go.Ground.phase }, { on := 10, ground := Go.Ground.phase }, { on := 11, ground := Go.Ground.phase }, { on := 12, ground := Go.Ground.phase }, { on := 13, ground := Go.Ground.phase }, { on := 14, ground := Go.Ground.phase }, { on := 15, ground := Go.Ground.phase }, { on := 16, ground := Go.Ground.phase }, { on := 17, ground := Go.Ground.phase }], guard := none }) rfl (fun K hK => ?_) ?_
                      · go_simp
                        refine hK.out _ _ (by first | go_keep | exact ⟨r0, r1, r2⟩ | exact ⟨s0, s1, s2⟩) (fun hH6 => ?_)
                        clear hK K
                        clear hH5
                        refine wpAnyH_done (by kernel_rfl) ?_ _
                        have xb5 : Lies (w5.setCell ⟨w.heap.size + 1, 1, none⟩ (.slice (some ⟨g5, 0, none⟩) (pre.length + 1) cap5)) w2.heap.size 23 [.int .i64 (z % 16), .int .i64 (0 : Int), .int .i64 (z % 65536 / 16)] :=
                          (lies_grown (X3.out.alloc _) HOO5.out (by decide) HG5.out).far (p := ⟨w.heap.size + 1, 1, none⟩) (by simp; omega) _
                        have t1 : (w5.setCell ⟨w.heap.size + 1, 1, none⟩ (.slice (some ⟨g5, 0, none⟩) (pre.length + 1) cap5)).cell? ⟨w2.heap.size, 1, none⟩ = some (.int .i64 (0 : Int)) := xb5.cell 1
                        have hnx := next_ob (zs := zs) I3.out.flat_ hlt h3 (by rw [HZ.out, HL.out]; omega)
                        rw [HZ.out, HL.out, HYs.out] at hnx
                        have HNx := Lib.hid hnx
                        clear hnx xb5
                        go_wp2
                        exact ⟨⟨a + 1 + 0, hfit, by go_num, pre ++ [(z, ys)], .slice (some ⟨g5, 0, none⟩) (pre.length + 1) cap5, xs ++ thing a (z, ys) (some ⟨g1, 0, none⟩) cap1, OfI.next _ I3.out (by omega) hh HYl.out HL.out HNx.out HO3.out HOO5.out HG5.out HO5.out HX5.out⟩, by simp [intOf]; omega⟩
                      exact AllReadyH.nil
                    exact AllReadyH.nil
                  exact AllReadyH.nil
                refine AllReadyH.cons (o := { dst := some 71, op := Go.Op.buildSlice 39 1 #[(0, Go.Operand.tmp 70)], type := 39, pos := "ref.go:159", after := #[{ on := 15, ground := Go.Ground.data }], guard := none }) rfl (fun K hK => ?_) ?_
                · go_simp
                  refine hK.out _ _ (by first | go_keep | exact ⟨r0, r1, r2⟩ | exact ⟨s0, s1, s2⟩) (fun hH3 => ?_)
                  clear hK K
                  clear hH2
                  refine wpAnyH_ready (rs := [1]) (by kernel_rfl) (by simp) ?_
                  refine AllReadyH.cons (o := { dst := some 56, op := Go.Op.load 39 (Go.Operand.tmp 55), type := 39, pos := "ref.go:159", after := #[{ on := 0, ground := Go.Ground.data }], guard := none }) rfl (fun K hK => ?_) ?_
                  · go_simp
                    refine hK.out _ _ (by first | go_keep | exact ⟨r0, r1, r2⟩ | exact ⟨s0, s1, s2⟩) (fun hH4 => ?_)
                    clear hK K
                    clear hH3
                    refine wpAnyH_ready (rs := [17]) (by kernel_rfl) (by simp) ?_
                    refine AllReadyH.cons (o := { dst := some 72, op := Go.Op.call { callee := Go.Callee.builtin Go.Builtin.append, args := #[Go.Operand.tmp 56, Go.Operand.tmp 71], argTypes := #[39, 39] }, type := 39, pos := "ref.go:159", after := #[{ on := 1, ground := Go.Ground.data }, { on := 16, ground := Go.Ground.data }, { on := 14, ground := Go.Ground.chain }], guard := none }) rfl (fun K hK => ?_) ?_
                    · have hn5 := obj_new w3 a z ys g1 cap1 53 HQ.out HYl.out; have hb5 : w.heap.size + 1 + 1 ≤ (w3.alloc (.cells #[.int .i64 (a : Int), .int .i64 (z % 16), .int .i64 (0 : Int), .int .i64 (z % 65536 / 16), .slice (some ⟨g1, 0, none⟩) 0 cap1] 53)).heap.size := (by have := B3.out.size; rw [World.size_alloc]; omega); have ho5 := owns_any I3.out.own (below_one w3 (.cells #[.int .i64 (a : Int), .int .i64 (z % 16), .int .i64 (0 : Int), .int .i64 (z % 65536 / 16), .slice (some ⟨g1, 0, none⟩) 0 cap1] 53)); refine step_obj rfl (.tmp 56) (.tmp 71) rfl (w.heap.size + 1 + 1) v pre.length xs rfl ho5 w3.heap.size 1 1 (thing a (z, ys) (some ⟨g1, 0, none⟩) cap1).toArray (0, 0) 53 rfl hn5 rfl (one_thing _ _ _ _) (pre_le I3.out (by omega)) hb5 ?_; intro v5 w5 O5 G5; obtain ⟨g5, cap5, rfl, -, -⟩ := O5.form (by omega); have hx5 := lies_grown (I3.out.box.alloc _) ho5 (by decide) G5; have u0 : w5.cell? ⟨w.heap.size + 1, 1, none⟩ = some v := hx5.cell 1; have u1 : w5.frozen? ⟨w.heap.size + 1, 1, none⟩ = false := hx5.frozen 1; have hxx5 := lies_grown (X3.out.alloc (.cells #[.int .i64 (a : Int), .int .i64 (z % 16), .int .i64 (0 : Int), .int .i64 (z % 65536 / 16), .slice (some ⟨g1, 0, none⟩) 0 cap1] 53)) ho5 (by decide) G5; have s0 : w5.cell? ⟨w2.heap.size, 0, none⟩ = some (.int .i64 (z % 16)) := hxx5.cell 0; have s1 : w5.cell? ⟨w2.heap.size, 1, none⟩ = some (.int .i64 (0 : Int)) := hxx5.cell 1; have s2 : w5.cell? ⟨w2.heap.size, 2, none⟩ = some (.int .i64 (z % 65536 / 16)) := hxx5.cell 2; clear hxx5; have HX5 := Lib.hid hx5; have HO5 := Lib.hid O5; have HG5 := Lib.hid G5; have HOO5 := Lib.hid ho5; clear O5 G5 hx5 ho5 hn5 hb5
                      refine hK.out _ _ (by first | go_keep | exact ⟨r0, r1, r2⟩ | exact ⟨s0, s1, s2⟩) (fun hH5 => ?_)
                      clear hK K
                      clear hH4
                      refine wpAnyH_take (i := 18) (oi := { dst := some 73, op := Go.Op.fieldAddr 41 (Go.Operand.tmp 6) 1, type := 0, pos := "ref.go:159", after := #[{ on := 0, ground := Go.Ground.phase }, { on := 1, ground := Go.Ground.phase }, { on := 2, ground := Go.Ground.phase }, { on := 3, ground := Go.Ground.phase }, { on := 4, ground := Go.Ground.phase }, { on := 5, ground := Go.Ground.phase }, { on := 6, ground := Go.Ground.phase }, { on := 7, ground := Go.Ground.phase }, { on := 8, ground := Go.Ground.phase }, { on := 9, ground := Go.Ground.phase }, { on := 10, ground := Go.Ground.phase }, { on := 11, ground := Go.Ground.phase }, { on := 12, ground := Go.Ground.phase }, { on := 13, ground := Go.Ground.phase }, { on := 14, ground := Go.Ground.phase }, { on := 15, ground := Go.Ground.phase }, { on := 16, ground := Go.Ground.phase }, { on := 17, ground := Go.Ground.phase }], guard := none }) (v := ?_) rfl (by kernel_rfl) (by kernel_rfl) (by kernel_rfl) (fun _ _ _ h => h) (Or.inl ⟨by rfl, ?_⟩) (by assumption) ?_
                      rotate_left
                      · (intro w hSw; (try dsimp only at hSw); go_simp; (try with_reducible rfl))
                      (try simp only [Act.put, List.setIfInBounds_toArray, List.set_cons_zero, List.set_cons_succ])
                      refine wpAnyH_ready (rs := [19]) (by kernel_rfl) (by simp) ?_
                      refine AllReadyH.cons (o := { dst := none, op := Go.Op.store 39 (Go.Operand.tmp 73) (Go.Operand.tmp 72), type := 0, pos := "ref.go:159", after := #[{ on := 18, ground := Go.Ground.data }, { on := 17, ground := Go.Ground.data }, { on := 17, ground := Go.Ground.chain }, { on := 0, ground := Go.Ground.phase }, { on := 1, ground := Go.Ground.phase }, { on := 2, ground := Go.Ground.phase }, { on := 3, ground := Go.Ground.phase }, { on := 4, ground := Go.Ground.phase }, { on := 5, ground := Go.Ground.phase }, { on := 6, ground := Go.Ground.phase }, { on := 7, ground := Go.Ground.phase }, { on := 8, ground := Go.Ground.phase }, { on := 9, ground := Go.Ground.phase }, { on := 10, ground := Go.Ground.phase }, { on := 11, ground := Go.Ground.phase }, { on := 12, ground := Go.Ground.phase }, { on := 13, ground := Go.Ground.phase }, { on := 14, ground := Go.Ground.phase }, { on := 15, ground := Go.Ground.phase }, { on := 16, ground := Go.Ground.phase }, { on := 17, ground := Go.Ground.phase }], guard := none }) rfl (fun K hK => ?_) ?_
                      · go_simp
                        refine hK.out _ _ (by first | go_keep | exact ⟨r0, r1, r2⟩ | exact ⟨s0, s1, s2⟩) (fun hH6 => ?_)
                        clear hK K
                        clear hH5
                        refine wpAnyH_done (by kernel_rfl) ?_ _
                        have xb5 : Lies (w5.setCell ⟨w.heap.size + 1, 1, none⟩ (.slice (some ⟨g5, 0, none⟩) (pre.length + 1) cap5)) w2.heap.size 23 [.int .i64 (z % 16), .int .i64 (0 : Int), .int .i64 (z % 65536 / 16)] :=
                          (lies_grown (X3.out.alloc _) HOO5.out (by decide) HG5.out).far (p := ⟨w.heap.size + 1, 1, none⟩) (by simp; omega) _
                        have t1 : (w5.setCell ⟨w.heap.size + 1, 1, none⟩ (.slice (some ⟨g5, 0, none⟩) (pre.length + 1) cap5)).cell? ⟨w2.heap.size, 1, none⟩ = some (.int .i64 (0 : Int)) := xb5.cell 1
                        have hnx := next_ob (zs := zs) I3.out.flat_ hlt h3 (by rw [HZ.out, HL.out]; omega)
                        rw [HZ.out, HL.out, HYs.out] at hnx
                        have HNx := Lib.hid hnx
                        clear hnx xb5
                        go_wp2
                        exact ⟨⟨a + 1 + 0, hfit, by go_num, pre ++ [(z, ys)], .slice (some ⟨g5, 0, none⟩) (pre.length + 1) cap5, xs ++ thing a (z, ys) (some ⟨g1, 0, none⟩) cap1, OfI.next _ I3.out (by omega) hh HYl.out HL.out HNx.out HO3.out HOO5.out HG5.out HO5.out HX5.out⟩, by simp [intOf]; omega⟩
                      exact AllReadyH.nil
                    exact AllReadyH.nil
                  exact AllReadyH.nil
                exact AllReadyH.nil
              exact AllReadyH.nil
            exact AllReadyH.nil
          · have hcap' := hcap
            have d5 : decide ((top : Int) < (a : Int) + 1 + (q : Int)) = false := by simp; omega
            go_wp2_with fail
            refine (refUnpack_yes z _ hh).mono ?_
            rintro e w2 ⟨rfl, hb2⟩
            rw [HQ.out]
            have I2 := Lib.hid (hI.kept hb2)
            have HB2 := Lib.hid (on hI.old hI.old.size hb2)
            have y0 : w2.cell? ⟨w.heap.size + 1, 1, none⟩ = some v := I2.out.box.cell 1
            have y1 : w2.frozen? ⟨w.heap.size + 1, 1, none⟩ = false := I2.out.box.frozen 1
            have y2 : w.heap.size + 1 < w2.heap.size := I2.out.box.lt
            clear hI hb2 hca
            have b1 : (a : Int) + 1 ≤ (a : Int) + 1 + (q : Int) := by omega
            have b2 : (a : Int) + 1 + (q : Int) ≤ (zs.length : Int) := by omega
            have b3 : ((a : Int) + 1).toNat = a + 1 := by omega
            have b4 : ((a : Int) + 1 + (q : Int)).toNat = a + 1 + q := by omega
            have b5 : (0 : Int) ≤ (a : Int) + 1 := by omega
            have b6 : (a : Int) + 1 + (q : Int) ≤ (c : Int) := by omega
            have b7 : IntKind.i64.wrap ((a : Int) + 1) = (a : Int) + 1 := IntWalk.i64_in _ (by omega)
            have b8 : IntKind.i64.wrap ((a : Int) + 1 + (q : Int)) = (a : Int) + 1 + (q : Int) := IntWalk.i64_in _ (by omega)
            have b9 : (0 : Int) ≤ (a : Int) + 1 + (q : Int) := by omega
            have b10 : max ((a : Int) + 1 + (q : Int)) 0 = (a : Int) + 1 + (q : Int) := by omega
            obtain ⟨X, hX⟩ : ∃ X : Obj, X = .cells #[.int .i64 (z % 16), .int .i64 (q : Int), .int .i64 (z % 65536 / 16)] 23 := ⟨_, rfl⟩
            obtain ⟨Wb, hWb⟩ : ∃ Wb, Wb = ((w2.alloc X).alloc (.cells #[] 3)).drew := ⟨_, rfl⟩
            have hbw : Below w2.heap.size w2 Wb := by
              rw [hWb]
              have h1 := ((Below.refl w2.heap.size w2).alloc (Nat.le_refl _) X).alloc (by rw [World.size_alloc]; exact Nat.le_succ _) (.cells #[] 3)
              exact ⟨h1.os, h1.tape, h1.output, h1.size, h1.block⟩
            have hbs : w.heap.size + 1 + 1 ≤ w2.heap.size := y2
            have hoe : Wb.ownsRow (w.heap.size + 1 + 1) 3 1 (.slice (some ⟨w2.heap.size + 1, 0, none⟩) 0 0) 0 [] := by
              rw [hWb]
              have := World.ownsRow_lit (base := w.heap.size + 1 + 1) (e := 3) (size := 1) (w2.alloc X) #[] 0 (by rw [World.size_alloc]; omega) (by unfold maxLen; omega) rfl
              rw [World.size_alloc] at this
              exact this
            have hrow : Row Wb (some ⟨ad.block, ad.off + (a + 1), none⟩) ((zs.drop (a + 1)).take q) := row_drop (HR.out.kept (on HB2.out HB2.out.size hbw)) (a + 1) q (by omega)
            have hxb : Lies Wb w2.heap.size 23 [.int .i64 (z % 16), .int .i64 (q : Int), .int .i64 (z % 65536 / 16)] := by
              rw [hWb, hX]
              exact ((Lies.new w2 23 [.int .i64 (z % 16), .int .i64 (q : Int), .int .i64 (z % 65536 / 16)]).alloc _).drew
            have hbb : w.heap.size + 1 + 1 ≤ Wb.heap.size := by have := hbw.size; omega
            have hsz : Wb.heap.size = w2.heap.size + 1 + 1 := by rw [hWb]; simp
            have hbx : Wb.cell? ⟨w.heap.size + 1, 1, none⟩ = some v := (I2.out.kept hbw).box.cell 1
            have e1 : ¬ w.heap.size = w2.heap.size := by omega
            have e2 : w.heap.size < w2.heap.size := by omega
            have e3 : ¬ w.heap.size + 1 = w2.heap.size := by omega
            have e4 : w.heap.size + 1 < w2.heap.size + 1 := by omega
            have HBW := Lib.hid hbw
            have HHB := Lib.hid hbb
            have HXB := Lib.hid hxb
            have HRow := Lib.hid hrow
            have HOE := Lib.hid hoe
            have hyl : ((zs.drop (a + 1)).take q).length = q := by simp; omega
            have HYl := Lib.hid hyl
            rw [hX] at hWb
            rw [hWb] at HBW HHB HXB HRow HOE hbx
            clear hbw hbb hxb hrow hoe hyl hsz hWb hX
            generalize hys : (zs.drop (a + 1)).take q = ys at *
            have HYs := Lib.hid hys
            clear hys
            go_wp2_with fail
            refine wp_region_held_drew (S := (fun W => W.cell? ⟨w2.heap.size, 0, none⟩ = some (.int .i64 (z % 16)) ∧ W.cell? ⟨w2.heap.size, 1, none⟩ = some (.int .i64 (q : Int)) ∧ W.cell? ⟨w2.heap.size, 2, none⟩ = some (.int .i64 (z % 65536 / 16)))) (by kernel_rfl) (by go_keep) (fun hH0 => ?_)
            refine wpAnyH_take (i := 0) (oi := { dst := some 55, op := Go.Op.fieldAddr 41 (Go.Operand.tmp 6) 1, type := 0, pos := "ref.go:159", after := #[], guard := none }) (v := ?_) rfl (by kernel_rfl) (by kernel_rfl) (by kernel_rfl) (fun _ _ _ h => h) (Or.inl ⟨by rfl, ?_⟩) (by assumption) ?_
            rotate_left
            · (intro w hSw; (try dsimp only at hSw); go_simp; (try with_reducible rfl))
            (try simp only [Act.put, List.setIfInBounds_toArray, List.set_cons_zero, List.set_cons_succ])
            refine wpAnyH_take (i := 2) (oi := { dst := some 57, op := Go.Op.move (Go.Operand.tmp 7), type := 3, pos := "ref.go:159", after := #[], guard := none }) (v := ?_) rfl (by kernel_rfl) (by kernel_rfl) (by kernel_rfl) (fun _ _ _ h => h) (Or.inl ⟨by rfl, ?_⟩) (by assumption) ?_
            rotate_left
            · (intro w hSw; (try dsimp only at hSw); go_simp; (try with_reducible rfl))
            (try simp only [Act.put, List.setIfInBounds_toArray, List.set_cons_zero, List.set_cons_succ])
            refine wpAnyH_take (i := 3) (oi := { dst := some 58, op := Go.Op.load 23 (Go.Operand.tmp 8), type := 23, pos := "ref.go:159", after := #[], guard := none }) (v := ?_) rfl (by kernel_rfl) (by kernel_rfl) (by kernel_rfl) (fun _ _ _ h => h) (Or.inl ⟨by rfl, ?_⟩) (by assumption) ?_
            rotate_left
            · (intro w hSw; (try dsimp only at hSw); go_simp; (try with_reducible rfl))
            (try simp only [Act.put, List.setIfInBounds_toArray, List.set_cons_zero, List.set_cons_succ])
            refine wpAnyH_take (i := 5) (oi := { dst := some 60, op := Go.Op.move (Go.Operand.tmp 0), type := 51, pos := "ref.go:159", after := #[], guard := none }) (v := ?_) rfl (by kernel_rfl) (by kernel_rfl) (by kernel_rfl) (fun _ _ _ h => h) (Or.inl ⟨by rfl, ?_⟩) (by assumption) ?_
            rotate_left
            · (intro w hSw; (try dsimp only at hSw); go_simp; (try with_reducible rfl))
            (try simp only [Act.put, List.setIfInBounds_toArray, List.set_cons_zero, List.set_cons_succ])
            refine wpAnyH_take (i := 6) (oi := { dst := some 61, op := Go.Op.move (Go.Operand.tmp 7), type := 3, pos := "ref.go:159", after := #[], guard := none }) (v := ?_) rfl (by kernel_rfl) (by kernel_rfl) (by kernel_rfl) (fun _ _ _ h => h) (Or.inl ⟨by rfl, ?_⟩) (by assumption) ?_
            rotate_left
            · (intro w hSw; (try dsimp only at hSw); go_simp; (try with_reducible rfl))
            (try simp only [Act.put, List.setIfInBounds_toArray, List.set_cons_zero, List.set_cons_succ])
            refine wpAnyH_take (i := 7) (oi := { dst := some 62, op := Go.Op.binOp Go.BinOp.add 3 (Go.Operand.tmp 61) (Go.Operand.const (Go.Value.int Go.IntKind.i64 1)) 3, type := 3, pos := "ref.go:159", after := #[{ on := 6, ground := Go.Ground.data }], guard := none }) (v := ?_) rfl (by kernel_rfl) (by kernel_rfl) (by kernel_rfl) (fun _ _ _ h => h) (Or.inl ⟨by rfl, ?_⟩) (by assumption) ?_
            rotate_left
            · (intro w hSw; (try dsimp only at hSw); go_simp; (try with_reducible rfl))
            (try simp only [Act.put, List.setIfInBounds_toArray, List.set_cons_zero, List.set_cons_succ])
            refine wpAnyH_take (i := 8) (oi := { dst := some 63, op := Go.Op.move (Go.Operand.tmp 7), type := 3, pos := "ref.go:159", after := #[], guard := none }) (v := ?_) rfl (by kernel_rfl) (by kernel_rfl) (by kernel_rfl) (fun _ _ _ h => h) (Or.inl ⟨by rfl, ?_⟩) (by assumption) ?_
            rotate_left
            · (intro w hSw; (try dsimp only at hSw); go_simp; (try with_reducible rfl))
            (try simp only [Act.put, List.setIfInBounds_toArray, List.set_cons_zero, List.set_cons_succ])
            refine wpAnyH_take (i := 9) (oi := { dst := some 64, op := Go.Op.binOp Go.BinOp.add 3 (Go.Operand.tmp 63) (Go.Operand.const (Go.Value.int Go.IntKind.i64 1)) 3, type := 3, pos := "ref.go:159", after := #[{ on := 8, ground := Go.Ground.data }], guard := none }) (v := ?_) rfl (by kernel_rfl) (by kernel_rfl) (by kernel_rfl) (fun _ _ _ h => h) (Or.inl ⟨by rfl, ?_⟩) (by assumption) ?_
            rotate_left
            · (intro w hSw; (try dsimp only at hSw); go_simp; (try with_reducible rfl))
            (try simp only [Act.put, List.setIfInBounds_toArray, List.set_cons_zero, List.set_cons_succ])
            refine wpAnyH_take (i := 10) (oi := { dst := some 65, op := Go.Op.fieldAddr 23 (Go.Operand.tmp 8) 1, type := 0, pos := "ref.go:159", after := #[], guard := none }) (v := ?_) rfl (by kernel_rfl) (by kernel_rfl) (by kernel_rfl) (fun _ _ _ h => h) (Or.inl ⟨by rfl, ?_⟩) (by assumption) ?_
            rotate_left
            · (intro w hSw; (try dsimp only at hSw); go_simp; (try with_reducible rfl))
            (try simp only [Act.put, List.setIfInBounds_toArray, List.set_cons_zero, List.set_cons_succ])
            refine wpAnyH_take (i := 11) (oi := { dst := some 66, op := Go.Op.load 3 (Go.Operand.tmp 65), type := 3, pos := "ref.go:159", after := #[{ on := 10, ground := Go.Ground.data }], guard := none }) (v := ?_) rfl (by kernel_rfl) (by kernel_rfl) (by kernel_rfl) (fun _ _ _ h => h) (Or.inl ⟨by rfl, ?_⟩) (by assumption) ?_
            rotate_left
            · (intro w hSw; (try dsimp only at hSw); go_simp; (try with_reducible rfl))
            (try simp only [Act.put, List.setIfInBounds_toArray, List.set_cons_zero, List.set_cons_succ])
            refine wpAnyH_take (i := 12) (oi := { dst := some 67, op := Go.Op.binOp Go.BinOp.add 3 (Go.Operand.tmp 64) (Go.Operand.tmp 66) 3, type := 3, pos := "ref.go:159", after := #[{ on := 9, ground := Go.Ground.data }, { on := 11, ground := Go.Ground.data }], guard := none }) (v := ?_) rfl (by kernel_rfl) (by kernel_rfl) (by kernel_rfl) (fun _ _ _ h => h) (Or.inl ⟨by rfl, ?_⟩) (by assumption) ?_
            rotate_left
            · (intro w hSw; (try dsimp only at hSw); go_simp; (try with_reducible rfl))
            (try simp only [Act.put, List.setIfInBounds_toArray, List.set_cons_zero, List.set_cons_succ])
            refine wpAnyH_take (i := 13) (oi := { dst := some 68, op := Go.Op.slice 51 (Go.Operand.tmp 60) (some (Go.Operand.tmp 62)) (some (Go.Operand.tmp 67)) none, type := 51, pos := "ref.go:159", after := #[{ on := 5, ground := Go.Ground.data }, { on := 7, ground := Go.Ground.data }, { on := 12, ground := Go.Ground.data }], guard := none }) (v := ?_) rfl (by kernel_rfl) (by kernel_rfl) (by kernel_rfl) (fun _ _ _ h => h) (Or.inl ⟨by rfl, ?_⟩) (by assumption) ?_
            rotate_left
            · (intro w hSw; (try dsimp only at hSw); go_simp; (try with_reducible rfl))
            (try simp only [Act.put, List.setIfInBounds_toArray, List.set_cons_zero, List.set_cons_succ])
            refine wpAnyH_ready (rs := [1, 4]) (by kernel_rfl) (by simp) ?_
            refine AllReadyH.cons (o := { dst := some 56, op := Go.Op.load 39 (Go.Operand.tmp 55), type := 39, pos := "ref.go:159", after := #[{ on := 0, ground := Go.Ground.data }], guard := none }) rfl (fun K hK => ?_) ?_
            · go_simp
              refine hK.out _ _ (by first | go_keep | exact ⟨r0, r1, r2⟩ | exact ⟨s0, s1, s2⟩) (fun hH1 => ?_)
              clear hK K
              clear hH0
              refine wpAnyH_ready (rs := [4]) (by kernel_rfl) (by simp) ?_
              refine AllReadyH.cons (o := { dst := some 59, op := Go.Op.buildSlice 51 0 #[], type := 51, pos := "ref.go:159", after := #[], guard := none }) rfl (fun K hK => ?_) ?_
              · go_simp
                refine hK.out _ _ (by first | go_keep | exact ⟨r0, r1, r2⟩ | exact ⟨s0, s1, s2⟩) (fun hH2 => ?_)
                clear hK K
                clear hH1
                refine wpAnyH_ready (rs := [14]) (by kernel_rfl) (by simp) ?_
                refine AllReadyH.cons (o := { dst := some 69, op := Go.Op.call { callee := Go.Callee.builtin Go.Builtin.append, args := #[Go.Operand.tmp 59, Go.Operand.tmp 68], argTypes := #[51, 51] }, type := 51, pos := "ref.go:159", after := #[{ on := 4, ground := Go.Ground.data }, { on := 13, ground := Go.Ground.data }], guard := none }) rfl (fun K hK => ?_) ?_
                · refine step_fresh rfl (.tmp 59) (.tmp 68) rfl (w.heap.size + 1 + 1) (w2.heap.size + 1) 0 rfl HOE.out _ q _ ys rfl HYl.out HRow.out (by omega) HHB.out ?_; intro g1 cap1 w3 O3 G3; have B3 := Lib.hid (HBW.out.grown G3 HBW.out.size (fun k e => by simp at e; omega)); have I3 := Lib.hid (I2.out.kept B3.out); have X3 := Lib.hid (lies_grown HXB.out HOE.out (by decide) G3); have r0 : w3.cell? ⟨w2.heap.size, 0, none⟩ = some (.int .i64 (z % 16)) := X3.out.cell 0; have r1 : w3.cell? ⟨w2.heap.size, 1, none⟩ = some (.int .i64 (q : Int)) := X3.out.cell 1; have r2 : w3.cell? ⟨w2.heap.size, 2, none⟩ = some (.int .i64 (z % 65536 / 16)) := X3.out.cell 2; have r3 : w3.cell? ⟨w.heap.size + 1, 1, none⟩ = some v := I3.out.box.cell 1; have hz3 := B3.out.size; have e5 : ¬ w.heap.size + 1 = w3.heap.size := (by omega); have e6 : w.heap.size + 1 < w3.heap.size := (by omega); have e7 : ¬ w2.heap.size = w3.heap.size := (by have := X3.out.lt; omega); have e8 : w2.heap.size < w3.heap.size := X3.out.lt; clear hz3; have HO3 := Lib.hid O3; clear O3 G3
                  refine hK.out _ _ (by first | go_keep | exact ⟨r0, r1, r2⟩ | exact ⟨s0, s1, s2⟩) (fun hH3 => ?_)
                  clear hK K
                  clear hH2
                  refine wpAnyH_take (i := 15) (oi := { dst := some 70, op := Go.Op.build 53 #[(0, Go.Operand.tmp 57), (1, Go.Operand.tmp 58), (2, Go.Operand.tmp 69)], type := 53, pos := "ref.go:159", after := #[{ on := 2, ground := Go.Ground.data }, { on := 3, ground := Go.Ground.data }, { on := 14, ground := Go.Ground.data }], guard := none }) (v := ?_) rfl (by kernel_rfl) (by kernel_rfl) (by kernel_rfl) (fun _ _ _ h => h) (Or.inl ⟨by rfl, ?_⟩) (by assumption) ?_
                  rotate_left
                  · (intro w hSw; (try dsimp only at hSw); go_simp; (try with_reducible rfl))
                  (try simp only [Act.put, List.setIfInBounds_toArray, List.set_cons_zero, List.set_cons_succ])
                  refine wpAnyH_ready (rs := [16]) (by kernel_rfl) (by simp) ?_
                  refine AllReadyH.cons (o := { dst := some 71, op := Go.Op.buildSlice 39 1 #[(0, Go.Operand.tmp 70)], type := 39, pos := "ref.go:159", after := #[{ on := 15, ground := Go.Ground.data }], guard := none }) rfl (fun K hK => ?_) ?_
                  · go_simp
                    refine hK.out _ _ (by first | go_keep | exact ⟨r0, r1, r2⟩ | exact ⟨s0, s1, s2⟩) (fun hH4 => ?_)
                    clear hK K
                    clear hH3
                    refine wpAnyH_ready (rs := [17]) (by kernel_rfl) (by simp) ?_
                    refine AllReadyH.cons (o := { dst := some 72, op := Go.Op.call { callee := Go.Callee.builtin Go.Builtin.append, args := #[Go.Operand.tmp 56, Go.Operand.tmp 71], argTypes := #[39, 39] }, type := 39, pos := "ref.go:159", after := #[{ on := 1, ground := Go.Ground.data }, { on := 16, ground := Go.Ground.data }, { on := 14, ground := Go.Ground.chain }], guard := none }) rfl (fun K hK => ?_) ?_
                    · have hn5 := obj_new w3 a z ys g1 cap1 53 HQ.out HYl.out; have hb5 : w.heap.size + 1 + 1 ≤ (w3.alloc (.cells #[.int .i64 (a : Int), .int .i64 (z % 16), .int .i64 (q : Int), .int .i64 (z % 65536 / 16), .slice (some ⟨g1, 0, none⟩) q cap1] 53)).heap.size := (by have := B3.out.size; rw [World.size_alloc]; omega); have ho5 := owns_any I3.out.own (below_one w3 (.cells #[.int .i64 (a : Int), .int .i64 (z % 16), .int .i64 (q : Int), .int .i64 (z % 65536 / 16), .slice (some ⟨g1, 0, none⟩) q cap1] 53)); refine step_obj rfl (.tmp 56) (.tmp 71) rfl (w.heap.size + 1 + 1) v pre.length xs rfl ho5 w3.heap.size 1 1 (thing a (z, ys) (some ⟨g1, 0, none⟩) cap1).toArray (0, 0) 53 rfl hn5 rfl (one_thing _ _ _ _) (pre_le I3.out (by omega)) hb5 ?_; intro v5 w5 O5 G5; obtain ⟨g5, cap5, rfl, -, -⟩ := O5.form (by omega); have hx5 := lies_grown (I3.out.box.alloc _) ho5 (by decide) G5; have u0 : w5.cell? ⟨w.heap.size + 1, 1, none⟩ = some v := hx5.cell 1; have u1 : w5.frozen? ⟨w.heap.size + 1, 1, none⟩ = false := hx5.frozen 1; have hxx5 := lies_grown (X3.out.alloc (.cells #[.int .i64 (a : Int), .int .i64 (z % 16), .int .i64 (q : Int), .int .i64 (z % 65536 / 16), .slice (some ⟨g1, 0, none⟩) q cap1] 53)) ho5 (by decide) G5; have s0 : w5.cell? ⟨w2.heap.size, 0, none⟩ = some (.int .i64 (z % 16)) := hxx5.cell 0; have s1 : w5.cell? ⟨w2.heap.size, 1, none⟩ = some (.int .i64 (q : Int)) := hxx5.cell 1; have s2 : w5.cell? ⟨w2.heap.size, 2, none⟩ = some (.int .i64 (z % 65536 / 16)) := hxx5.cell 2; clear hxx5; have HX5 := Lib.hid hx5; have HO5 := Lib.hid O5; have HG5 := Lib.hid G5; have HOO5 := Lib.hid ho5; clear O5 G5 hx5 ho5 hn5 hb5
                      refine hK.out _ _ (by first | go_keep | exact ⟨r0, r1, r2⟩ | exact ⟨s0, s1, s2⟩) (fun hH5 => ?_)
                      clear hK K
                      clear hH4
                      refine wpAnyH_take (i := 18) (oi := { dst := some 73, op := Go.Op.fieldAddr 41 (Go.Operand.tmp 6) 1, type := 0, pos := "ref.go:159", after := #[{ on := 0, ground := Go.Ground.phase }, { on := 1, ground := Go.Ground.phase }, { on := 2, ground := Go.Ground.phase }, { on := 3, ground := Go.Ground.phase }, { on := 4, ground := Go.Ground.phase }, { on := 5, ground := Go.Ground.phase }, { on := 6, ground := Go.Ground.phase }, { on := 7, ground := Go.Ground.phase }, { on := 8, ground := Go.Ground.phase }, { on := 9, ground := Go.Ground.phase }, { on := 10, ground := Go.Ground.phase }, { on := 11, ground := Go.Ground.phase }, { on := 12, ground := Go.Ground.phase }, { on := 13, ground := Go.Ground.phase }, { on := 14, ground := Go.Ground.phase }, { on := 15, ground := Go.Ground.phase }, { on := 16, ground := Go.Ground.phase }, { on := 17, ground := Go.Ground.phase }], guard := none }) (v := ?_) rfl (by kernel_rfl) (by kernel_rfl) (by kernel_rfl) (fun _ _ _ h => h) (Or.inl ⟨by rfl, ?_⟩) (by assumption) ?_
                      rotate_left
                      · (intro w hSw; (try dsimp only at hSw); go_simp; (try with_reducible rfl))
                      (try simp only [Act.put, List.setIfInBounds_toArray, List.set_cons_zero, List.set_cons_succ])
                      refine wpAnyH_ready (rs := [19]) (by kernel_rfl) (by simp) ?_
                      refine AllReadyH.cons (o := { dst := none, op := Go.Op.store 39 (Go.Operand.tmp 73) (Go.Operand.tmp 72), type := 0, pos := "ref.go:159", after := #[{ on := 18, ground := Go.Ground.data }, { on := 17, ground := Go.Ground.data }, { on := 17, ground := Go.Ground.chain }, { on := 0, ground := Go.Ground.phase }, { on := 1, ground := Go.Ground.phase }, { on := 2, ground := Go.Ground.phase }, { on := 3, ground := Go.Ground.phase }, { on := 4, ground := Go.Ground.phase }, { on := 5, ground := Go.Ground.phase }, { on := 6, ground := Go.Ground.phase }, { on := 7, ground := Go.Ground.phase }, { on := 8, ground := Go.Ground.phase }, { on := 9, ground := Go.Ground.phase }, { on := 10, ground := Go.Ground.phase }, { on := 11, ground := Go.Ground.phase }, { on := 12, ground := Go.Ground.phase }, { on := 13, ground := Go.Ground.phase }, { on := 14, ground := Go.Ground.phase }, { on := 15, ground := Go.Ground.phase }, { on := 16, ground := Go.Ground.phase }, { on := 17, ground := Go.Ground.phase }], guard := none }) rfl (fun K hK => ?_) ?_
                      · go_simp
                        refine hK.out _ _ (by first | go_keep | exact ⟨r0, r1, r2⟩ | exact ⟨s0, s1, s2⟩) (fun hH6 => ?_)
                        clear hK K
                        clear hH5
                        refine wpAnyH_done (by kernel_rfl) ?_ _
                        have xb5 : Lies (w5.setCell ⟨w.heap.size + 1, 1, none⟩ (.slice (some ⟨g5, 0, none⟩) (pre.length + 1) cap5)) w2.heap.size 23 [.int .i64 (z % 16), .int .i64 (q : Int), .int .i64 (z % 65536 / 16)] :=
                          (lies_grown (X3.out.alloc _) HOO5.out (by decide) HG5.out).far (p := ⟨w.heap.size + 1, 1, none⟩) (by simp; omega) _
                        have t1 : (w5.setCell ⟨w.heap.size + 1, 1, none⟩ (.slice (some ⟨g5, 0, none⟩) (pre.length + 1) cap5)).cell? ⟨w2.heap.size, 1, none⟩ = some (.int .i64 (q : Int)) := xb5.cell 1
                        have hnx := next_ob (zs := zs) I3.out.flat_ hlt h3 (by rw [HZ.out, HL.out]; omega)
                        rw [HZ.out, HL.out, HYs.out] at hnx
                        have HNx := Lib.hid hnx
                        clear hnx xb5
                        go_wp2
                        exact ⟨⟨a + 1 + q, hfit, by go_num, pre ++ [(z, ys)], .slice (some ⟨g5, 0, none⟩) (pre.length + 1) cap5, xs ++ thing a (z, ys) (some ⟨g1, 0, none⟩) cap1, OfI.next _ I3.out (by omega) hh HYl.out HL.out HNx.out HO3.out HOO5.out HG5.out HO5.out HX5.out⟩, by simp [intOf]; omega⟩
                      exact AllReadyH.nil
                    exact AllReadyH.nil
                  exact AllReadyH.nil
                exact AllReadyH.nil
              exact AllReadyH.nil
            refine AllReadyH.cons (o := { dst := some 59, op := Go.Op.buildSlice 51 0 #[], type := 51, pos := "ref.go:159", after := #[], guard := none }) rfl (fun K hK => ?_) ?_
            · go_simp
              refine hK.out _ _ (by first | go_keep | exact ⟨r0, r1, r2⟩ | exact ⟨s0, s1, s2⟩) (fun hH1 => ?_)
              clear hK K
              clear hH0
              refine wpAnyH_ready (rs := [1, 14]) (by kernel_rfl) (by simp) ?_
              refine AllReadyH.cons (o := { dst := some 56, op := Go.Op.load 39 (Go.Operand.tmp 55), type := 39, pos := "ref.go:159", after := #[{ on := 0, ground := Go.Ground.data }], guard := none }) rfl (fun K hK => ?_) ?_
              · go_simp
                refine hK.out _ _ (by first | go_keep | exact ⟨r0, r1, r2⟩ | exact ⟨s0, s1, s2⟩) (fun hH2 => ?_)
                clear hK K
                clear hH1
                refine wpAnyH_ready (rs := [14]) (by kernel_rfl) (by simp) ?_
                refine AllReadyH.cons (o := { dst := some 69, op := Go.Op.call { callee := Go.Callee.builtin Go.Builtin.append, args := #[Go.Operand.tmp 59, Go.Operand.tmp 68], argTypes := #[51, 51] }, type := 51, pos := "ref.go:159", after := #[{ on := 4, ground := Go.Ground.data }, { on := 13, ground := Go.Ground.data }], guard := none }) rfl (fun K hK => ?_) ?_
                · refine step_fresh rfl (.tmp 59) (.tmp 68) rfl (w.heap.size + 1 + 1) (w2.heap.size + 1) 0 rfl HOE.out _ q _ ys rfl HYl.out HRow.out (by omega) HHB.out ?_; intro g1 cap1 w3 O3 G3; have B3 := Lib.hid (HBW.out.grown G3 HBW.out.size (fun k e => by simp at e; omega)); have I3 := Lib.hid (I2.out.kept B3.out); have X3 := Lib.hid (lies_grown HXB.out HOE.out (by decide) G3); have r0 : w3.cell? ⟨w2.heap.size, 0, none⟩ = some (.int .i64 (z % 16)) := X3.out.cell 0; have r1 : w3.cell? ⟨w2.heap.size, 1, none⟩ = some (.int .i64 (q : Int)) := X3.out.cell 1; have r2 : w3.cell? ⟨w2.heap.size, 2, none⟩ = some (.int .i64 (z % 65536 / 16)) := X3.out.cell 2; have r3 : w3.cell? ⟨w.heap.size + 1, 1, none⟩ = some v := I3.out.box.cell 1; have hz3 := B3.out.size; have e5 : ¬ w.heap.size + 1 = w3.heap.size := (by omega); have e6 : w.heap.size + 1 < w3.heap.size := (by omega); have e7 : ¬ w2.heap.size = w3.heap.size := (by have := X3.out.lt; omega); have e8 : w2.heap.size < w3.heap.size := X3.out.lt; clear hz3; have HO3 := Lib.hid O3; clear O3 G3
                  refine hK.out _ _ (by first | go_keep | exact ⟨r0, r1, r2⟩ | exact ⟨s0, s1, s2⟩) (fun hH3 => ?_)
                  clear hK K
                  clear hH2
                  refine wpAnyH_take (i := 15) (oi := { dst := some 70, op := Go.Op.build 53 #[(0, Go.Operand.tmp 57), (1, Go.Operand.tmp 58), (2, Go.Operand.tmp 69)], type := 53, pos := "ref.go:159", after := #[{ on := 2, ground := Go.Ground.data }, { on := 3, ground := Go.Ground.data }, { on := 14, ground := Go.Ground.data }], guard := none }) (v := ?_) rfl (by kernel_rfl) (by kernel_rfl) (by kernel_rfl) (fun _ _ _ h => h) (Or.inl ⟨by rfl, ?_⟩) (by assumption) ?_
                  rotate_left
                  · (intro w hSw; (try dsimp only at hSw); go_simp; (try with_reducible rfl))
                  (try simp only [Act.put, List.setIfInBounds_toArray, List.set_cons_zero, List.set_cons_succ])
                  refine wpAnyH_ready (rs := [16]) (by kernel_rfl) (by simp) ?_
                  refine AllReadyH.cons (o := { dst := some 71, op := Go.Op.buildSlice 39 1 #[(0, Go.Operand.tmp 70)], type := 39, pos := "ref.go:159", after := #[{ on := 15, ground := Go.Ground.data }], guard := none }) rfl (fun K hK => ?_) ?_
                  · go_simp
                    refine hK.out _ _ (by first | go_keep | exact ⟨r0, r1, r2⟩ | exact ⟨s0, s1, s2⟩) (fun hH4 => ?_)
                    clear hK K
                    clear hH3
                    refine wpAnyH_ready (rs := [17]) (by kernel_rfl) (by simp) ?_
                    refine AllReadyH.cons (o := { dst := some 72, op := Go.Op.call { callee := Go.Callee.builtin Go.Builtin.append, args := #[Go.Operand.tmp 56, Go.Operand.tmp 71], argTypes := #[39, 39] }, type := 39, pos := "ref.go:159", after := #[{ on := 1, ground := Go.Ground.data }, { on := 16, ground := Go.Ground.data }, { on := 14, ground := Go.Ground.chain }], guard := none }) rfl (fun K hK => ?_) ?_
                    · have hn5 := obj_new w3 a z ys g1 cap1 53 HQ.out HYl.out; have hb5 : w.heap.size + 1 + 1 ≤ (w3.alloc (.cells #[.int .i64 (a : Int), .int .i64 (z % 16), .int .i64 (q : Int), .int .i64 (z % 65536 / 16), .slice (some ⟨g1, 0, none⟩) q cap1] 53)).heap.size := (by have := B3.out.size; rw [World.size_alloc]; omega); have ho5 := owns_any I3.out.own (below_one w3 (.cells #[.int .i64 (a : Int), .int .i64 (z % 16), .int .i64 (q : Int), .int .i64 (z % 65536 / 16), .slice (some ⟨g1, 0, none⟩) q cap1] 53)); refine step_obj rfl (.tmp 56) (.tmp 71) rfl (w.heap.size + 1 + 1) v pre.length xs rfl ho5 w3.heap.size 1 1 (thing a (z, ys) (some ⟨g1, 0, none⟩) cap1).toArray (0, 0) 53 rfl hn5 rfl (one_thing _ _ _ _) (pre_le I3.out (by omega)) hb5 ?_; intro v5 w5 O5 G5; obtain ⟨g5, cap5, rfl, -, -⟩ := O5.form (by omega); have hx5 := lies_grown (I3.out.box.alloc _) ho5 (by decide) G5; have u0 : w5.cell? ⟨w.heap.size + 1, 1, none⟩ = some v := hx5.cell 1; have u1 : w5.frozen? ⟨w.heap.size + 1, 1, none⟩ = false := hx5.frozen 1; have hxx5 := lies_grown (X3.out.alloc (.cells #[.int .i64 (a : Int), .int .i64 (z % 16), .int .i64 (q : Int), .int .i64 (z % 65536 / 16), .slice (some ⟨g1, 0, none⟩) q cap1] 53)) ho5 (by decide) G5; have s0 : w5.cell? ⟨w2.heap.size, 0, none⟩ = some (.int .i64 (z % 16)) := hxx5.cell 0; have s1 : w5.cell? ⟨w2.heap.size, 1, none⟩ = some (.int .i64 (q : Int)) := hxx5.cell 1; have s2 : w5.cell? ⟨w2.heap.size, 2, none⟩ = some (.int .i64 (z % 65536 / 16)) := hxx5.cell 2; clear hxx5; have HX5 := Lib.hid hx5; have HO5 := Lib.hid O5; have HG5 := Lib.hid G5; have HOO5 := Lib.hid ho5; clear O5 G5 hx5 ho5 hn5 hb5
                      refine hK.out _ _ (by first | go_keep | exact ⟨r0, r1, r2⟩ | exact ⟨s0, s1, s2⟩) (fun hH5 => ?_)
                      clear hK K
                      clear hH4
                      refine wpAnyH_take (i := 18) (oi := { dst := some 73, op := Go.Op.fieldAddr 41 (Go.Operand.tmp 6) 1, type := 0, pos := "ref.go:159", after := #[{ on := 0, ground := Go.Ground.phase }, { on := 1, ground := Go.Ground.phase }, { on := 2, ground := Go.Ground.phase }, { on := 3, ground := Go.Ground.phase }, { on := 4, ground := Go.Ground.phase }, { on := 5, ground := Go.Ground.phase }, { on := 6, ground := Go.Ground.phase }, { on := 7, ground := Go.Ground.phase }, { on := 8, ground := Go.Ground.phase }, { on := 9, ground := Go.Ground.phase }, { on := 10, ground := Go.Ground.phase }, { on := 11, ground := Go.Ground.phase }, { on := 12, ground := Go.Ground.phase }, { on := 13, ground := Go.Ground.phase }, { on := 14, ground := Go.Ground.phase }, { on := 15, ground := Go.Ground.phase }, { on := 16, ground := Go.Ground.phase }, { on := 17, ground := Go.Ground.phase }], guard := none }) (v := ?_) rfl (by kernel_rfl) (by kernel_rfl) (by kernel_rfl) (fun _ _ _ h => h) (Or.inl ⟨by rfl, ?_⟩) (by assumption) ?_
                      rotate_left
                      · (intro w hSw; (try dsimp only at hSw); go_simp; (try with_reducible rfl))
                      (try simp only [Act.put, List.setIfInBounds_toArray, List.set_cons_zero, List.set_cons_succ])
                      refine wpAnyH_ready (rs := [19]) (by kernel_rfl) (by simp) ?_
                      refine AllReadyH.cons (o := { dst := none, op := Go.Op.store 39 (Go.Operand.tmp 73) (Go.Operand.tmp 72), type := 0, pos := "ref.go:159", after := #[{ on := 18, ground := Go.Ground.data }, { on := 17, ground := Go.Ground.data }, { on := 17, ground := Go.Ground.chain }, { on := 0, ground := Go.Ground.phase }, { on := 1, ground := Go.Ground.phase }, { on := 2, ground := Go.Ground.phase }, { on := 3, ground := Go.Ground.phase }, { on := 4, ground := Go.Ground.phase }, { on := 5, ground := Go.Ground.phase }, { on := 6, ground := Go.Ground.phase }, { on := 7, ground := Go.Ground.phase }, { on := 8, ground := Go.Ground.phase }, { on := 9, ground := Go.Ground.phase }, { on := 10, ground := Go.Ground.phase }, { on := 11, ground := Go.Ground.phase }, { on := 12, ground := Go.Ground.phase }, { on := 13, ground := Go.Ground.phase }, { on := 14, ground := Go.Ground.phase }, { on := 15, ground := Go.Ground.phase }, { on := 16, ground := Go.Ground.phase }, { on := 17, ground := Go.Ground.phase }], guard := none }) rfl (fun K hK => ?_) ?_
                      · go_simp
                        refine hK.out _ _ (by first | go_keep | exact ⟨r0, r1, r2⟩ | exact ⟨s0, s1, s2⟩) (fun hH6 => ?_)
                        clear hK K
                        clear hH5
                        refine wpAnyH_done (by kernel_rfl) ?_ _
                        have xb5 : Lies (w5.setCell ⟨w.heap.size + 1, 1, none⟩ (.slice (some ⟨g5, 0, none⟩) (pre.length + 1) cap5)) w2.heap.size 23 [.int .i64 (z % 16), .int .i64 (q : Int), .int .i64 (z % 65536 / 16)] :=
                          (lies_grown (X3.out.alloc _) HOO5.out (by decide) HG5.out).far (p := ⟨w.heap.size + 1, 1, none⟩) (by simp; omega) _
                        have t1 : (w5.setCell ⟨w.heap.size + 1, 1, none⟩ (.slice (some ⟨g5, 0, none⟩) (pre.length + 1) cap5)).cell? ⟨w2.heap.size, 1, none⟩ = some (.int .i64 (q : Int)) := xb5.cell 1
                        have hnx := next_ob (zs := zs) I3.out.flat_ hlt h3 (by rw [HZ.out, HL.out]; omega)
                        rw [HZ.out, HL.out, HYs.out] at hnx
                        have HNx := Lib.hid hnx
                        clear hnx xb5
                        go_wp2
                        exact ⟨⟨a + 1 + q, hfit, by go_num, pre ++ [(z, ys)], .slice (some ⟨g5, 0, none⟩) (pre.length + 1) cap5, xs ++ thing a (z, ys) (some ⟨g1, 0, none⟩) cap1, OfI.next _ I3.out (by omega) hh HYl.out HL.out HNx.out HO3.out HOO5.out HG5.out HO5.out HX5.out⟩, by simp [intOf]; omega⟩
                      exact AllReadyH.nil
                    exact AllReadyH.nil
                  exact AllReadyH.nil
                exact AllReadyH.nil
              refine AllReadyH.cons (o := { dst := some 69, op := Go.Op.call { callee := Go.Callee.builtin Go.Builtin.append, args := #[Go.Operand.tmp 59, Go.Operand.tmp 68], argTypes := #[51, 51] }, type := 51, pos := "ref.go:159", after := #[{ on := 4, ground := Go.Ground.data }, { on := 13, ground := Go.Ground.data }], guard := none }) rfl (fun K hK => ?_) ?_
              · refine step_fresh rfl (.tmp 59) (.tmp 68) rfl (w.heap.size + 1 + 1) (w2.heap.size + 1) 0 rfl HOE.out _ q _ ys rfl HYl.out HRow.out (by omega) HHB.out ?_; intro g1 cap1 w3 O3 G3; have B3 := Lib.hid (HBW.out.grown G3 HBW.out.size (fun k e => by simp at e; omega)); have I3 := Lib.hid (I2.out.kept B3.out); have X3 := Lib.hid (lies_grown HXB.out HOE.out (by decide) G3); have r0 : w3.cell? ⟨w2.heap.size, 0, none⟩ = some (.int .i64 (z % 16)) := X3.out.cell 0; have r1 : w3.cell? ⟨w2.heap.size, 1, none⟩ = some (.int .i64 (q : Int)) := X3.out.cell 1; have r2 : w3.cell? ⟨w2.heap.size, 2, none⟩ = some (.int .i64 (z % 65536 / 16)) := X3.out.cell 2; have r3 : w3.cell? ⟨w.heap.size + 1, 1, none⟩ = some v := I3.out.box.cell 1; have hz3 := B3.out.size; have e5 : ¬ w.heap.size + 1 = w3.heap.size := (by omega); have e6 : w.heap.size + 1 < w3.heap.size := (by omega); have e7 : ¬ w2.heap.size = w3.heap.size := (by have := X3.out.lt; omega); have e8 : w2.heap.size < w3.heap.size := X3.out.lt; clear hz3; have HO3 := Lib.hid O3; clear O3 G3
                refine hK.out _ _ (by first | go_keep | exact ⟨r0, r1, r2⟩ | exact ⟨s0, s1, s2⟩) (fun hH2 => ?_)
                clear hK K
                clear hH1
                refine wpAnyH_take (i := 15) (oi := { dst := some 70, op := Go.Op.build 53 #[(0, Go.Operand.tmp 57), (1, Go.Operand.tmp 58), (2, Go.Operand.tmp 69)], type := 53, pos := "ref.go:159", after := #[{ on := 2, ground := Go.Ground.data }, { on := 3, ground := Go.Ground.data }, { on := 14, ground := Go.Ground.data }], guard := none }) (v := ?_) rfl (by kernel_rfl) (by kernel_rfl) (by kernel_rfl) (fun _ _ _ h => h) (Or.inl ⟨by rfl, ?_⟩) (by assumption) ?_
                rotate_left
                · (intro w hSw; (try dsimp only at hSw); go_simp; (try with_reducible rfl))
                (try simp only [Act.put, List.setIfInBounds_toArray, List.set_cons_zero, List.set_cons_succ])
                refine wpAnyH_ready (rs := [1, 16]) (by kernel_rfl) (by simp) ?_
                refine AllReadyH.cons (o := { dst := some 56, op := Go.Op.load 39 (Go.Operand.tmp 55), type := 39, pos := "ref.go:159", after := #[{ on := 0, ground := Go.Ground.data }], guard := none }) rfl (fun K hK => ?_) ?_
                · go_simp
                  refine hK.out _ _ (by first | go_keep | exact ⟨r0, r1, r2⟩ | exact ⟨s0, s1, s2⟩) (fun hH3 => ?_)
                  clear hK K
                  clear hH2
                  refine wpAnyH_ready (rs := [16]) (by kernel_rfl) (by simp) ?_
                  refine AllReadyH.cons (o := { dst := some 71, op := Go.Op.buildSlice 39 1 #[(0, Go.Operand.tmp 70)], type := 39, pos := "ref.go:159", after := #[{ on := 15, ground := Go.Ground.data }], guard := none }) rfl (fun K hK => ?_) ?_
                  · go_simp
                    refine hK.out _ _ (by first | go_keep | exact ⟨r0, r1, r2⟩ | exact ⟨s0, s1, s2⟩) (fun hH4 => ?_)
                    clear hK K
                    clear hH3
                    refine wpAnyH_ready (rs := [17]) (by kernel_rfl) (by simp) ?_
                    refine AllReadyH.cons (o := { dst := some 72, op := Go.Op.call { callee := Go.Callee.builtin Go.Builtin.append, args := #[Go.Operand.tmp 56, Go.Operand.tmp 71], argTypes := #[39, 39] }, type := 39, pos := "ref.go:159", after := #[{ on := 1, ground := Go.Ground.data }, { on := 16, ground := Go.Ground.data }, { on := 14, ground := Go.Ground.chain }], guard := none }) rfl (fun K hK => ?_) ?_
                    · have hn5 := obj_new w3 a z ys g1 cap1 53 HQ.out HYl.out; have hb5 : w.heap.size + 1 + 1 ≤ (w3.alloc (.cells #[.int .i64 (a : Int), .int .i64 (z % 16), .int .i64 (q : Int), .int .i64 (z % 65536 / 16), .slice (some ⟨g1, 0, none⟩) q cap1] 53)).heap.size := (by have := B3.out.size; rw [World.size_alloc]; omega); have ho5 := owns_any I3.out.own (below_one w3 (.cells #[.int .i64 (a : Int), .int .i64 (z % 16), .int .i64 (q : Int), .int .i64 (z % 65536 / 16), .slice (some ⟨g1, 0, none⟩) q cap1] 53)); refine step_obj rfl (.tmp 56) (.tmp 71) rfl (w.heap.size + 1 + 1) v pre.length xs rfl ho5 w3.heap.size 1 1 (thing a (z, ys) (some ⟨g1, 0, none⟩) cap1).toArray (0, 0) 53 rfl hn5 rfl (one_thing _ _ _ _) (pre_le I3.out (by omega)) hb5 ?_; intro v5 w5 O5 G5; obtain ⟨g5, cap5, rfl, -, -⟩ := O5.form (by omega); have hx5 := lies_grown (I3.out.box.alloc _) ho5 (by decide) G5; have u0 : w5.cell? ⟨w.heap.size + 1, 1, none⟩ = some v := hx5.cell 1; have u1 : w5.frozen? ⟨w.heap.size + 1, 1, none⟩ = false := hx5.frozen 1; have hxx5 := lies_grown (X3.out.alloc (.cells #[.int .i64 (a : Int), .int .i64 (z % 16), .int .i64 (q : Int), .int .i64 (z % 65536 / 16), .slice (some ⟨g1, 0, none⟩) q cap1] 53)) ho5 (by decide) G5; have s0 : w5.cell? ⟨w2.heap.size, 0, none⟩ = some (.int .i64 (z % 16)) := hxx5.cell 0; have s1 : w5.cell? ⟨w2.heap.size, 1, none⟩ = some (.int .i64 (q : Int)) := hxx5.cell 1; have s2 : w5.cell? ⟨w2.heap.size, 2, none⟩ = some (.int .i64 (z % 65536 / 16)) := hxx5.cell 2; clear hxx5; have HX5 := Lib.hid hx5; have HO5 := Lib.hid O5; have HG5 := Lib.hid G5; have HOO5 := Lib.hid ho5; clear O5 G5 hx5 ho5 hn5 hb5
                      refine hK.out _ _ (by first | go_keep | exact ⟨r0, r1, r2⟩ | exact ⟨s0, s1, s2⟩) (fun hH5 => ?_)
                      clear hK K
                      clear hH4
                      refine wpAnyH_take (i := 18) (oi := { dst := some 73, op := Go.Op.fieldAddr 41 (Go.Operand.tmp 6) 1, type := 0, pos := "ref.go:159", after := #[{ on := 0, ground := Go.Ground.phase }, { on := 1, ground := Go.Ground.phase }, { on := 2, ground := Go.Ground.phase }, { on := 3, ground := Go.Ground.phase }, { on := 4, ground := Go.Ground.phase }, { on := 5, ground := Go.Ground.phase }, { on := 6, ground := Go.Ground.phase }, { on := 7, ground := Go.Ground.phase }, { on := 8, ground := Go.Ground.phase }, { on := 9, ground := Go.Ground.phase }, { on := 10, ground := Go.Ground.phase }, { on := 11, ground := Go.Ground.phase }, { on := 12, ground := Go.Ground.phase }, { on := 13, ground := Go.Ground.phase }, { on := 14, ground := Go.Ground.phase }, { on := 15, ground := Go.Ground.phase }, { on := 16, ground := Go.Ground.phase }, { on := 17, ground := Go.Ground.phase }], guard := none }) (v := ?_) rfl (by kernel_rfl) (by kernel_rfl) (by kernel_rfl) (fun _ _ _ h => h) (Or.inl ⟨by rfl, ?_⟩) (by assumption) ?_
                      rotate_left
                      · (intro w hSw; (try dsimp only at hSw); go_simp; (try with_reducible rfl))
                      (try simp only [Act.put, List.setIfInBounds_toArray, List.set_cons_zero, List.set_cons_succ])
                      refine wpAnyH_ready (rs := [19]) (by kernel_rfl) (by simp) ?_
                      refine AllReadyH.cons (o := { dst := none, op := Go.Op.store 39 (Go.Operand.tmp 73) (Go.Operand.tmp 72), type := 0, pos := "ref.go:159", after := #[{ on := 18, ground := Go.Ground.data }, { on := 17, ground := Go.Ground.data }, { on := 17, ground := Go.Ground.chain }, { on := 0, ground := Go.Ground.phase }, { on := 1, ground := Go.Ground.phase }, { on := 2, ground := Go.Ground.phase }, { on := 3, ground := Go.Ground.phase }, { on := 4, ground := Go.Ground.phase }, { on := 5, ground := Go.Ground.phase }, { on := 6, ground := Go.Ground.phase }, { on := 7, ground := Go.Ground.phase }, { on := 8, ground := Go.Ground.phase }, { on := 9, ground := Go.Ground.phase }, { on := 10, ground := Go.Ground.phase }, { on := 11, ground := Go.Ground.phase }, { on := 12, ground := Go.Ground.phase }, { on := 13, ground := Go.Ground.phase }, { on := 14, ground := Go.Ground.phase }, { on := 15, ground := Go.Ground.phase }, { on := 16, ground := Go.Ground.phase }, { on := 17, ground := Go.Ground.phase }], guard := none }) rfl (fun K hK => ?_) ?_
                      · go_simp
                        refine hK.out _ _ (by first | go_keep | exact ⟨r0, r1, r2⟩ | exact ⟨s0, s1, s2⟩) (fun hH6 => ?_)
                        clear hK K
                        clear hH5
                        refine wpAnyH_done (by kernel_rfl) ?_ _
                        have xb5 : Lies (w5.setCell ⟨w.heap.size + 1, 1, none⟩ (.slice (some ⟨g5, 0, none⟩) (pre.length + 1) cap5)) w2.heap.size 23 [.int .i64 (z % 16), .int .i64 (q : Int), .int .i64 (z % 65536 / 16)] :=
                          (lies_grown (X3.out.alloc _) HOO5.out (by decide) HG5.out).far (p := ⟨w.heap.size + 1, 1, none⟩) (by simp; omega) _
                        have t1 : (w5.setCell ⟨w.heap.size + 1, 1, none⟩ (.slice (some ⟨g5, 0, none⟩) (pre.length + 1) cap5)).cell? ⟨w2.heap.size, 1, none⟩ = some (.int .i64 (q : Int)) := xb5.cell 1
                        have hnx := next_ob (zs := zs) I3.out.flat_ hlt h3 (by rw [HZ.out, HL.out]; omega)
                        rw [HZ.out, HL.out, HYs.out] at hnx
                        have HNx := Lib.hid hnx
                        clear hnx xb5
                        go_wp2
                        exact ⟨⟨a + 1 + q, hfit, by go_num, pre ++ [(z, ys)], .slice (some ⟨g5, 0, none⟩) (pre.length + 1) cap5, xs ++ thing a (z, ys) (some ⟨g1, 0, none⟩) cap1, OfI.next _ I3.out (by omega) hh HYl.out HL.out HNx.out HO3.out HOO5.out HG5.out HO5.out HX5.out⟩, by simp [intOf]; omega⟩
                      exact AllReadyH.nil
                    exact AllReadyH.nil
                  exact AllReadyH.nil
                refine AllReadyH.cons (o := { dst := some 71, op := Go.Op.buildSlice 39 1 #[(0, Go.Operand.tmp 70)], type := 39, pos := "ref.go:159", after := #[{ on := 15, ground := Go.Ground.data }], guard := none }) rfl (fun K hK => ?_) ?_
                · go_simp
                  refine hK.out _ _ (by first | go_keep | exact ⟨r0, r1, r2⟩ | exact ⟨s0, s1, s2⟩) (fun hH3 => ?_)
                  clear hK K
                  clear hH2
                  refine wpAnyH_ready (rs := [1]) (by kernel_rfl) (by simp) ?_
                  refine AllReadyH.cons (o := { dst := some 56, op := Go.Op.load 39 (Go.Operand.tmp 55), type := 39, pos := "ref.go:159", after := #[{ on := 0, ground := Go.Ground.data }], guard := none }) rfl (fun K hK => ?_) ?_
                  · go_simp
                    refine hK.out _ _ (by first | go_keep | exact ⟨r0, r1, r2⟩ | exact ⟨s0, s1, s2⟩) (fun hH4 => ?_)
                    clear hK K
                    clear hH3
                    refine wpAnyH_ready (rs := [17]) (by kernel_rfl) (by simp) ?_
                    refine AllReadyH.cons (o := { dst := some 72, op := Go.Op.call { callee := Go.Callee.builtin Go.Builtin.append, args := #[Go.Operand.tmp 56, Go.Operand.tmp 71], argTypes := #[39, 39] }, type := 39, pos := "ref.go:159", after := #[{ on := 1, ground := Go.Ground.data }, { on := 16, ground := Go.Ground.data }, { on := 14, ground := Go.Ground.chain }], guard := none }) rfl (fun K hK => ?_) ?_
                    · have hn5 := obj_new w3 a z ys g1 cap1 53 HQ.out HYl.out; have hb5 : w.heap.size + 1 + 1 ≤ (w3.alloc (.cells #[.int .i64 (a : Int), .int .i64 (z % 16), .int .i64 (q : Int), .int .i64 (z % 65536 / 16), .slice (some ⟨g1, 0, none⟩) q cap1] 53)).heap.size := (by have := B3.out.size; rw [World.size_alloc]; omega); have ho5 := owns_any I3.out.own (below_one w3 (.cells #[.int .i64 (a : Int), .int .i64 (z % 16), .int .i64 (q : Int), .int .i64 (z % 65536 / 16), .slice (some ⟨g1, 0, none⟩) q cap1] 53)); refine step_obj rfl (.tmp 56) (.tmp 71) rfl (w.heap.size + 1 + 1) v pre.length xs rfl ho5 w3.heap.size 1 1 (thing a (z, ys) (some ⟨g1, 0, none⟩) cap1).toArray (0, 0) 53 rfl hn5 rfl (one_thing _ _ _ _) (pre_le I3.out (by omega)) hb5 ?_; intro v5 w5 O5 G5; obtain ⟨g5, cap5, rfl, -, -⟩ := O5.form (by omega); have hx5 := lies_grown (I3.out.box.alloc _) ho5 (by decide) G5; have u0 : w5.cell? ⟨w.heap.size + 1, 1, none⟩ = some v := hx5.cell 1; have u1 : w5.frozen? ⟨w.heap.size + 1, 1, none⟩ = false := hx5.frozen 1; have hxx5 := lies_grown (X3.out.alloc (.cells #[.int .i64 (a : Int), .int .i64 (z % 16), .int .i64 (q : Int), .int .i64 (z % 65536 / 16), .slice (some ⟨g1, 0, none⟩) q cap1] 53)) ho5 (by decide) G5; have s0 : w5.cell? ⟨w2.heap.size, 0, none⟩ = some (.int .i64 (z % 16)) := hxx5.cell 0; have s1 : w5.cell? ⟨w2.heap.size, 1, none⟩ = some (.int .i64 (q : Int)) := hxx5.cell 1; have s2 : w5.cell? ⟨w2.heap.size, 2, none⟩ = some (.int .i64 (z % 65536 / 16)) := hxx5.cell 2; clear hxx5; have HX5 := Lib.hid hx5; have HO5 := Lib.hid O5; have HG5 := Lib.hid G5; have HOO5 := Lib.hid ho5; clear O5 G5 hx5 ho5 hn5 hb5
                      refine hK.out _ _ (by first | go_keep | exact ⟨r0, r1, r2⟩ | exact ⟨s0, s1, s2⟩) (fun hH5 => ?_)
                      clear hK K
                      clear hH4
                      refine wpAnyH_take (i := 18) (oi := { dst := some 73, op := Go.Op.fieldAddr 41 (Go.Operand.tmp 6) 1, type := 0, pos := "ref.go:159", after := #[{ on := 0, ground := Go.Ground.phase }, { on := 1, ground := Go.Ground.phase }, { on := 2, ground := Go.Ground.phase }, { on := 3, ground := Go.Ground.phase }, { on := 4, ground := Go.Ground.phase }, { on := 5, ground := Go.Ground.phase }, { on := 6, ground := Go.Ground.phase }, { on := 7, ground := Go.Ground.phase }, { on := 8, ground := Go.Ground.phase }, { on := 9, ground := Go.Ground.phase }, { on := 10, ground := Go.Ground.phase }, { on := 11, ground := Go.Ground.phase }, { on := 12, ground := Go.Ground.phase }, { on := 13, ground := Go.Ground.phase }, { on := 14, ground := Go.Ground.phase }, { on := 15, ground := Go.Ground.phase }, { on := 16, ground := Go.Ground.phase }, { on := 17, ground := Go.Ground.phase }], guard := none }) (v := ?_) rfl (by kernel_rfl) (by kernel_rfl) (by kernel_rfl) (fun _ _ _ h => h) (Or.inl ⟨by rfl, ?_⟩) (by assumption) ?_
                      rotate_left
                      · (intro w hSw; (try dsimp only at hSw); go_simp; (try with_reducible rfl))
                      (try simp only [Act.put, List.setIfInBounds_toArray, List.set_cons_zero, List.set_cons_succ])
                      refine wpAnyH_ready (rs := [19]) (by kernel_rfl) (by simp) ?_
                      refine AllReadyH.cons (o := { dst := none, op := Go.Op.store 39 (Go.Operand.tmp 73) (Go.Operand.tmp 72), type := 0, pos := "ref.go:159", after := #[{ on := 18, ground := Go.Ground.data }, { on := 17, ground := Go.Ground.data }, { on := 17, ground := Go.Ground.chain }, { on := 0, ground := Go.Ground.phase }, { on := 1, ground := Go.Ground.phase }, { on := 2, ground := Go.Ground.phase }, { on := 3, ground := Go.Ground.phase }, { on := 4, ground := Go.Ground.phase }, { on := 5, ground := Go.Ground.phase }, { on := 6, ground := Go.Ground.phase }, { on := 7, ground := Go.Ground.phase }, { on := 8, ground := Go.Ground.phase }, { on := 9, ground := Go.Ground.phase }, { on := 10, ground := Go.Ground.phase }, { on := 11, ground := Go.Ground.phase }, { on := 12, ground := Go.Ground.phase }, { on := 13, ground := Go.Ground.phase }, { on := 14, ground := Go.Ground.phase }, { on := 15, ground := Go.Ground.phase }, { on := 16, ground := Go.Ground.phase }, { on := 17, ground := Go.Ground.phase }], guard := none }) rfl (fun K hK => ?_) ?_
                      · go_simp
                        refine hK.out _ _ (by first | go_keep | exact ⟨r0, r1, r2⟩ | exact ⟨s0, s1, s2⟩) (fun hH6 => ?_)
                        clear hK K
                        clear hH5
                        refine wpAnyH_done (by kernel_rfl) ?_ _
                        have xb5 : Lies (w5.setCell ⟨w.heap.size + 1, 1, none⟩ (.slice (some ⟨g5, 0, none⟩) (pre.length + 1) cap5)) w2.heap.size 23 [.int .i64 (z % 16), .int .i64 (q : Int), .int .i64 (z % 65536 / 16)] :=
                          (lies_grown (X3.out.alloc _) HOO5.out (by decide) HG5.out).far (p := ⟨w.heap.size + 1, 1, none⟩) (by simp; omega) _
                        have t1 : (w5.setCell ⟨w.heap.size + 1, 1, none⟩ (.slice (some ⟨g5, 0, none⟩) (pre.length + 1) cap5)).cell? ⟨w2.heap.size, 1, none⟩ = some (.int .i64 (q : Int)) := xb5.cell 1
                        have hnx := next_ob (zs := zs) I3.out.flat_ hlt h3 (by rw [HZ.out, HL.out]; omega)
                        rw [HZ.out, HL.out, HYs.out] at hnx
                        have HNx := Lib.hid hnx
                        clear hnx xb5
                        go_wp2
                        exact ⟨⟨a + 1 + q, hfit, by go_num, pre ++ [(z, ys)], .slice (some ⟨g5, 0, none⟩) (pre.length + 1) cap5, xs ++ thing a (z, ys) (some ⟨g1, 0, none⟩) cap1, OfI.next _ I3.out (by omega) hh HYl.out HL.out HNx.out HO3.out HOO5.out HG5.out HO5.out HX5.out⟩, by simp [intOf]; omega⟩
                      exact AllReadyH.nil
                    exact AllReadyH.nil
                  exact AllReadyH.nil
                exact AllReadyH.nil
              exact AllReadyH.nil
            exact AllReadyH.nil
        · have d5 : decide ((top : Int) < (a : Int) + 1 + (q : Int)) = true := by simp; omega
          go_wp2_with fail
          refine (refUnpack_yes z _ hh).mono ?_
          rintro e w2 ⟨rfl, hb2⟩
          rw [HQ.out]
          have L2 := hI.res.below hb2 hI.res.lt
          have y0 : w2.cell? ⟨w.heap.size, 0, none⟩ = some (.int .i64 0) := L2.cell 0
          have y1 : w2.cell? ⟨w.heap.size, 1, none⟩ = some (.slice none 0 0) := L2.cell 1
          have y2 := L2.frozen 0
          have y3 := L2.frozen 1
          have y4 := L2.lt
          have B2 := on hI.old hI.old.size hb2
          have hno : ¬ Parses (zs.take top) := fun hp => by
            have := (parse_next hI.fine hI.flat_ hlt h3 hp).2
            rw [HZ.out, HL.out] at this
            omega
          have HNo := Lib.hid hno
          have z5 := B2.size
          clear hno
          go_wp2
          exact bodyPost_ret (v := .tuple #[.agg #[.int .i64 0, .slice none 0 0], .int .i64 2]) (by simp [results, Try.results30, go_sem, y0, y1, y2, y3, y4]) rfl ⟨.inr ⟨HNo.out, rfl⟩, by
            repeat (first | exact B2 | refine Below.setCell ?_ (by simp <;> omega) _ | refine Below.alloc ?_ (by simp <;> omega) _)⟩
    · obtain rfl : a = top := by omega
      obtain ⟨A', c', rfl, hT⟩ := things_own hI.own hI.cells.cells
      have y0 : wr.cell? ⟨w.heap.size + 1, 0, none⟩ = some (.int .i64 (zs.length : Nat)) := hI.box.cell 0
      have y1 : wr.cell? ⟨w.heap.size + 1, 1, none⟩ = some (.slice A' pre.length c') := hI.box.cell 1
      have y2 : wr.cell? ⟨w.heap.size, 0, none⟩ = some (.int .i64 0) := hI.res.cell 0
      have y3 : wr.cell? ⟨w.heap.size, 1, none⟩ = some (.slice none 0 0) := hI.res.cell 1
      have y4 := hI.res.frozen 0
      have y5 := hI.res.frozen 1
      have y6 := hI.res.lt
      have y7 := hI.box.lt
      have own' := owns_far (owns_far hI.own hI.res (by decide) 0 (.int .i64 (zs.length : Nat))) (hI.res.set 0 (.int .i64 (zs.length : Nat))) (by decide) 1 (.slice A' pre.length c')
      have cells' := (hI.cells.far hI.res (by decide) 0 (.int .i64 (zs.length : Nat))).far (hI.res.set 0 (.int .i64 (zs.length : Nat))) (by decide) 1 (.slice A' pre.length c')
      have HT := Lib.hid (Owned.mk own' cells')
      have HI := Lib.hid hI
      clear hT hI own' cells'
      go_wp2
      refine bodyPost_ret (v := .tuple #[.agg #[.int .i64 (zs.length : Nat), .slice A' pre.length c'], .int .i64 0]) (by simp [results, Try.results30, go_sem, y2, y3, y4, y5, y6]) rfl ⟨.inl ⟨⟨pre, HI.out.fine, HI.out.flat_⟩, ⟨A', pre.length, c', pre, xs, rfl, HI.out.fine, HI.out.flat_, rfl, ?_⟩⟩, ?_⟩
      · exact HT.out
      · have := HI.out.old
        repeat (first | exact this | refine Below.setCell ?_ (by simp <;> omega) _)
end Go.Proofs.Ytccojidhghgikaa
