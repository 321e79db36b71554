/- What the reference's Place answers where it places one more. -/
import Derived.Test.YtklhdilbmpndkaaGreatGf
import Derived.Test.YtklhdilbmpndkaaGreatHe
namespace Go.Proofs.YtklhdilbmpndkaaGreat
set_option maxRecDepth 20000
open Go.RowKit
set_option linter.unusedVariables false
set_option linter.unusedSimpArgs false

theorem named2 {Q : Exit → Act → World → Prop} {e : Exit} {a : Act} {w : World} (h : ∀ w', w' = w → Q e a w') : Q e a w := h w rfl
theorem one_cells (a b c d : Int) (v : Option Addr) {m n : Nat} : ∀ u ∈ [Value.int .i64 a, .int .i64 b, .int .i64 c, .int .i64 d, .slice v m n], u.oneCell' = true := by
  intro u hu
  simp at hu
  rcases hu with rfl | rfl | rfl | rfl | rfl <;> rfl
theorem owns_ge {w : World} {base n n' sz g cap : Nat} {t : TypeId} {xs : List Value} (h : w.ownsRow base t sz (.slice (some ⟨g, 0, none⟩) n cap) n' xs) : base ≤ g := by
  rcases h.2 with ⟨e, _⟩ | ⟨g', cap', cur, e, h2, _⟩
  · cases e
  · injection e with e1
    injection e1 with e1
    injection e1 with e1
    omega
theorem owns_lies {w : World} {base b l : Nat} (h : Lies w b 3 (noughts l)) (hb : base ≤ b) (hl : l ≤ 65536) : w.ownsRow base 3 1 (.slice (some ⟨b, 0, none⟩) l l) l ((zeros (l : Int)).map (Value.int .i64)) := by
  refine ⟨by simp [zeros], .inr ⟨b, l, (noughts l).toArray, rfl, hb, h, Nat.le_refl _, by unfold maxLen; omega, by simp [noughts], ?_⟩⟩
  simp [noughts, zeros]
theorem place_owned {U0 U : World} {base n c l g cap bm N : Nat} {A : Option Addr} {obs : List Ob} {xs : List Value} {k p : Int} (OWN : Owned U0 base A n c obs xs) (HB : Below U0.heap.size U0 U)
    (O : U.ownsRow U0.heap.size 66 5 (.slice (some ⟨g, 0, none⟩) (n + 1) cap) (n + 1) (xs ++ [.int .i64 (N : Int), .int .i64 k, .int .i64 (l : Int), .int .i64 p, .slice (some ⟨bm, 0, none⟩) l l])) (MK : Lies U bm 3 (noughts l)) (hb : base ≤ U0.heap.size) (hbm : U0.heap.size ≤ bm) (hN : (flat obs).length = N) (hg : goodB k (l : Int) p = true) :
    Owned U base (some ⟨g, 0, none⟩) (n + 1) cap (obs ++ [(packW k (l : Int) p, zeros (l : Int))]) (xs ++ [.int .i64 (N : Int), .int .i64 k, .int .i64 (l : Int), .int .i64 p, .slice (some ⟨bm, 0, none⟩) l l]) ∧
      ∀ N0, N0 < U0.heap.size → Off N0 A xs → Off N0 (some ⟨g, 0, none⟩) (xs ++ [.int .i64 (N : Int), .int .i64 k, .int .i64 (l : Int), .int .i64 p, .slice (some ⟨bm, 0, none⟩) l l]) := by
  obtain ⟨_, h1, h2, h3⟩ := head_pack hg
  have hl := ((good_iff _ _ _).1 hg).2.2.2.1
  refine ⟨⟨owns_base O hb, (OWN.cells.kept HB).append ?_⟩, fun N0 h0 ho => ho.place (Nat.lt_of_lt_of_le h0 (owns_ge O)) (Nat.lt_of_lt_of_le h0 hbm)⟩
  rw [Nat.zero_add, hN]
  refine ⟨bm, l, [], ?_, ?_, rfl⟩
  · simp [thing, h1, h2, h3, zeros]
  · have := owns_lies MK (base := base) (by omega) (by omega)
    simpa [zeros] using this
theorem Owned.far {w : World} {base n c b : Nat} {A : Option Addr} {obs : List Ob} {xs : List Value} {t' : TypeId} {cs : List Value} (h : Owned w base A n c obs xs) (hl : Lies w b t' cs) (h53 : (66 : TypeId) ≠ t') (h3 : (3 : TypeId) ≠ t') (i : Nat) (u : Value) : Owned (w.setCell ⟨b, i, none⟩ u) base A n c obs xs :=
  ⟨owns_far h.own hl h53 i u, h.cells.far hl h3 i u⟩

set_option maxRecDepth 100000 in
set_option maxHeartbeats 8000000 in
theorem rplace_yes {w : World} {base : Nat} {xs : List Value} (Z : Nat) (A : Option Addr) (n c N l : Nat) (k p : Int) (obs : List Ob) (hf : Fine obs) (T : Owned w base A n c obs xs) (hbase : base ≤ w.heap.size) (hn : obs.length = n) (hN : (flat obs).length = N) (hNZ : N ≤ Z) (hZ : Z ≤ 65536) (hg : goodB k (l : Int) p = true) (hfit : N + 1 + l ≤ Z) :
    Calls Tryz.prog 41 #[.agg #[.int .i64 (Z : Int), .slice A n c], .agg #[.int .i64 k, .int .i64 (l : Int), .int .i64 p]] w fun e w' => (∃ A' c' xs', e = .returned (.tuple #[.agg #[.int .i64 (Z : Int), .slice A' (n + 1) c'], .int .i64 (N : Int), .int .i64 0]) ∧ Owned w' base A' (n + 1) c' (obs ++ [(packW k (l : Int) p, zeros (l : Int))]) xs' ∧ ∀ N0, N0 < w.heap.size → Off N0 A xs → Off N0 A' xs') ∧ Below w.heap.size w w' := by
  have hl := ((good_iff _ _ _).1 hg).2.2.2.1
  have d5 : decide ((Z : Int) < (N : Int) + 1 + (l : Int)) = false := by simp; omega
  have HF := Lib.hid hf
  have HT := Lib.hid T
  have Hn := Lib.hid hn
  have HN := Lib.hid hN
  have HM := Lib.hid (show (flat obs).length ≤ 65536 by omega)
  clear hf T hn hN
  go_enter Tryz.func41, Tryz.ntmps41
  go_wp2_with fail
  refine (good_any k l p _).mono ?_
  rintro e w1 ⟨rfl, rfl⟩
  rw [hg]
  obtain ⟨Wp, hWp⟩ : ∃ Wp, Wp = (((w.alloc (.cells #[.int .i64 (Z : Int), .slice A n c] 34)).alloc (.cells #[.int .i64 k, .int .i64 (l : Int), .int .i64 p] 64)).alloc (.cells #[.int .i64 0, .slice none 0 0] 34)).alloc (.cells #[.int .i64 k, .int .i64 (l : Int), .int .i64 p] 64) := ⟨_, rfl⟩
  have bp : Below w.heap.size w Wp := by
    rw [hWp]
    repeat (first | exact Below.refl _ _ | refine Below.alloc ?_ (by simp <;> omega) _)
  have Lh : Lies Wp w.heap.size 34 [.int .i64 (Z : Int), .slice A n c] := by rw [hWp]; exact (((Lies.new w 34 [_, _]).alloc _).alloc _).alloc _
  have Lx : Lies Wp (w.heap.size + 1) 64 [.int .i64 k, .int .i64 (l : Int), .int .i64 p] := by
    rw [hWp]
    have := ((Lies.new (w.alloc (.cells #[.int .i64 (Z : Int), .slice A n c] 34)) 64 [.int .i64 k, .int .i64 (l : Int), .int .i64 p]).alloc (.cells #[.int .i64 0, .slice none 0 0] 34)).alloc (.cells #[.int .i64 k, .int .i64 (l : Int), .int .i64 p] 64)
    rw [World.size_alloc] at this; exact this
  have Lr : Lies Wp (w.heap.size + 1 + 1) 34 [.int .i64 0, .slice none 0 0] := by
    rw [hWp]
    have := (Lies.new ((w.alloc (.cells #[.int .i64 (Z : Int), .slice A n c] 34)).alloc (.cells #[.int .i64 k, .int .i64 (l : Int), .int .i64 p] 64)) 34 [.int .i64 0, .slice none 0 0]).alloc (.cells #[.int .i64 k, .int .i64 (l : Int), .int .i64 p] 64)
    rw [World.size_alloc, World.size_alloc] at this; exact this
  have HPh := Lib.hid Lh
  have HPx := Lib.hid Lx
  have HPr := Lib.hid Lr
  have Hbp := Lib.hid bp
  have HWp := Lib.hid hWp
  clear Lh Lx Lr bp hWp
  go_wp2_with fail
  rw [← HWp.out]
  refine (rtop_any (Z : Int) n c HF.out (HT.out.things.kept Hbp.out) Hn.out HM.out).mono ?_
  rintro e w2 ⟨rfl, hb2⟩
  rw [HN.out]
  have Lh2 := HPh.out.below hb2 HPh.out.lt
  have Lx2 := HPx.out.below hb2 HPx.out.lt
  have Lr2 := HPr.out.below hb2 HPr.out.lt
  have y0 : w2.cell? ⟨w.heap.size, 0, none⟩ = some (.int .i64 (Z : Int)) := Lh2.cell 0
  have y1 : w2.cell? ⟨w.heap.size, 1, none⟩ = some (.slice A n c) := Lh2.cell 1
  have x1 : w2.cell? ⟨w.heap.size + 1, 1, none⟩ = some (.int .i64 (l : Int)) := Lx2.cell 1
  have r0 : w2.cell? ⟨w.heap.size + 1 + 1, 0, none⟩ = some (.int .i64 0) := Lr2.cell 0
  have r1 : w2.cell? ⟨w.heap.size + 1 + 1, 1, none⟩ = some (.slice none 0 0) := Lr2.cell 1
  have f0 := Lr2.frozen 0
  have f1 := Lr2.frozen 1
  have lt := Lr2.lt
  have B2 := on Hbp.out Hbp.out.size hb2
  have x0 : w2.cell? ⟨w.heap.size + 1, 0, none⟩ = some (.int .i64 k) := Lx2.cell 0
  have x2 : w2.cell? ⟨w.heap.size + 1, 2, none⟩ = some (.int .i64 p) := Lx2.cell 2
  have HB2 := Lib.hid B2
  have HO2 := Lib.hid ((HT.out.kept Hbp.out).kept hb2)
  have HLh2 := Lib.hid Lh2
  have HLr2 := Lib.hid Lr2
  have lx2 := Lx2.lt
  have lh2 := Lh2.lt
  have yf := Lh2.frozen 1
  clear Lh2 Lx2 Lr2 hb2 B2
  have hmk := make51 l (by omega)
  have hn7 : n ≤ 65536 := by have := count_le obs; rw [Hn.out, HN.out] at this; omega
  have ONE := Lib.hid (HT.out.cells.cells.flatOne)
  obtain ⟨U0, hU0⟩ : ∃ U0, U0 = w2.drew := ⟨_, rfl⟩
  have xu0 : U0.cell? ⟨w.heap.size + 1, 0, none⟩ = some (.int .i64 k) := by rw [hU0]; exact x0
  have xu1 : U0.cell? ⟨w.heap.size + 1, 1, none⟩ = some (.int .i64 (l : Int)) := by rw [hU0]; exact x1
  have xu2 : U0.cell? ⟨w.heap.size + 1, 2, none⟩ = some (.int .i64 p) := by rw [hU0]; exact x2
  have yu1 : U0.cell? ⟨w.heap.size, 1, none⟩ = some (.slice A n c) := by rw [hU0]; exact y1
  have yf1 : U0.frozen? ⟨w.heap.size, 1, none⟩ = false := by rw [hU0]; exact yf
  have HLh := Lib.hid (show Lies U0 w.heap.size 34 [.int .i64 (Z : Int), .slice A n c] by rw [hU0]; exact HLh2.out)
  have HLr := Lib.hid (show Lies U0 (w.heap.size + 1 + 1) 34 [.int .i64 0, .slice none 0 0] by rw [hU0]; exact HLr2.out)
  have OWN := Lib.hid (show Owned U0 base A n c obs xs by rw [hU0]; exact HO2.out.kept (Below.refl _ _).drew)
  have B0 := Lib.hid (show Below w.heap.size w U0 by rw [hU0]; exact HB2.out.drew)
  have hlx : w.heap.size + 1 < U0.heap.size := by rw [hU0]; exact lx2
  have hlh : w.heap.size < U0.heap.size := by omega
  have hbU : base ≤ U0.heap.size := by omega
  have HB0 := Lib.hid (Below.refl U0.heap.size U0)
  go_wp2_with fail
  refine wp_region_held_drew (S := fun W => W.cell? ⟨w.heap.size + 1, 0, none⟩ = some (.int .i64 k) ∧ W.cell? ⟨w.heap.size + 1, 1, none⟩ = some (.int .i64 (l : Int)) ∧ W.cell? ⟨w.heap.size + 1, 2, none⟩ = some (.int .i64 p)) (by kernel_rfl) ⟨x0, x1, x2⟩ (fun hS0 => ?_)
  rw [← hU0] at hS0 ⊢
  have hb0 := yu1
  clear x0 x1 x2 y0 y1 yf r0 r1 f0 f1 lt HB2 HO2 HLh2 HLr2 lx2 lh2 hU0
  refine wpAnyH_take (i := 1) (oi := { dst := some 24, op := Go.Op.fieldAddr 34 (Go.Operand.tmp 2) 1, type := 0, pos := "ref.go:96", after := #[], guard := none }) (v := ?_) rfl (by kernel_rfl) (by kernel_rfl) (by kernel_rfl) (fun _ _ _ h => h) (Or.inl ⟨by rfl, ?_⟩) hS0 ?_
  rotate_left
  · (intro w hSw; (try dsimp only at hSw); go_simp; (try with_reducible rfl))
  (try simp only [Act.put, List.setIfInBounds_toArray, List.set_cons_zero, List.set_cons_succ])
  refine wpAnyH_take (i := 4) (oi := { dst := some 27, op := Go.Op.move (Go.Operand.tmp 7), type := 3, pos := "ref.go:96", after := #[], guard := none }) (v := ?_) rfl (by kernel_rfl) (by kernel_rfl) (by kernel_rfl) (fun _ _ _ h => h) (Or.inl ⟨by rfl, ?_⟩) hS0 ?_
  rotate_left
  · (intro w hSw; (try dsimp only at hSw); go_simp; (try with_reducible rfl))
  (try simp only [Act.put, List.setIfInBounds_toArray, List.set_cons_zero, List.set_cons_succ])
  refine wpAnyH_take (i := 5) (oi := { dst := some 28, op := Go.Op.load 64 (Go.Operand.tmp 3), type := 64, pos := "ref.go:96", after := #[], guard := none }) (v := ?_) rfl (by kernel_rfl) (by kernel_rfl) (by kernel_rfl) (fun _ _ _ h => h) (Or.inl ⟨by rfl, ?_⟩) hS0 ?_
  rotate_left
  · (intro w hSw; (try dsimp only at hSw); go_simp; (try with_reducible rfl))
  (try simp only [Act.put, List.setIfInBounds_toArray, List.set_cons_zero, List.set_cons_succ])
  refine wpAnyH_take (i := 6) (oi := { dst := some 29, op := Go.Op.fieldAddr 64 (Go.Operand.tmp 3) 1, type := 0, pos := "ref.go:96", after := #[], guard := none }) (v := ?_) rfl (by kernel_rfl) (by kernel_rfl) (by kernel_rfl) (fun _ _ _ h => h) (Or.inl ⟨by rfl, ?_⟩) hS0 ?_
  rotate_left
  · (intro w hSw; (try dsimp only at hSw); go_simp; (try with_reducible rfl))
  (try simp only [Act.put, List.setIfInBounds_toArray, List.set_cons_zero, List.set_cons_succ])
  refine wpAnyH_take (i := 7) (oi := { dst := some 30, op := Go.Op.load 3 (Go.Operand.tmp 29), type := 3, pos := "ref.go:96", after := #[{ on := 6, ground := Go.Ground.data }], guard := none }) (v := ?_) rfl (by kernel_rfl) (by kernel_rfl) (by kernel_rfl) (fun _ _ _ h => h) (Or.inl ⟨by rfl, ?_⟩) hS0 ?_
  rotate_left
  · (intro w hSw; (try dsimp only at hSw); go_simp; (try with_reducible rfl))
  (try simp only [Act.put, List.setIfInBounds_toArray, List.set_cons_zero, List.set_cons_succ])
  refine wpAnyH_ready (rs := [0, 2, 8]) (by kernel_rfl) (by simp) ?_
  refine AllReadyH.cons (o := { dst := some 23, op := Go.Op.buildSlice 32 0 #[], type := 32, pos := "ref.go:96", after := #[], guard := none }) rfl (fun K hK => ?_) ?_
  · skip
    go_simp
    refine named (fun U1 hU => ?_)
    have HB1 := Lib.hid (show Below U0.heap.size U0 U1 by rw [hU]; exact HB0.out.alloc HB0.out.size _)
    have hs1 : U0.heap.size < U1.heap.size := by rw [hU]; simp
    have O23_1 := Lib.hid (show U1.ownsRow U0.heap.size 66 5 (.slice (some ⟨U0.heap.size, 0, none⟩) 0 0) 0 [] by rw [hU]; exact own_new53 U0 HB0.out.size)
    clear hU
    clear HB0
    have hb1 : U1.cell? ⟨w.heap.size, 1, none⟩ = some (.slice A n c) := (HB1.out.cell (p := ⟨w.heap.size, 1, none⟩) hlh).trans yu1
    clear hb0
    refine hK.out _ _ ⟨(HB1.out.cell (p := ⟨w.heap.size + 1, 0, none⟩) hlx).trans xu0, (HB1.out.cell (p := ⟨w.heap.size + 1, 1, none⟩) hlx).trans xu1, (HB1.out.cell (p := ⟨w.heap.size + 1, 2, none⟩) hlx).trans xu2⟩ (fun hH5 => ?_)
    clear hK K
    refine wpAnyH_ready (rs := [2, 8]) (by kernel_rfl) (by simp) ?_
    refine AllReadyH.cons (o := { dst := some 25, op := Go.Op.load 32 (Go.Operand.tmp 24), type := 32, pos := "ref.go:96", after := #[{ on := 1, ground := Go.Ground.data }], guard := none }) rfl (fun K hK => ?_) ?_
    · skip
      go_simp
      refine hK.out _ _ ⟨(HB1.out.cell (p := ⟨w.heap.size + 1, 0, none⟩) hlx).trans xu0, (HB1.out.cell (p := ⟨w.heap.size + 1, 1, none⟩) hlx).trans xu1, (HB1.out.cell (p := ⟨w.heap.size + 1, 2, none⟩) hlx).trans xu2⟩ (fun hH6 => ?_)
      clear hK K
      clear hH5
      refine wpAnyH_ready (rs := [3, 8]) (by kernel_rfl) (by simp) ?_
      refine AllReadyH.cons (o := { dst := some 26, op := Go.Op.call { callee := Go.Callee.builtin Go.Builtin.append, args := #[Go.Operand.tmp 23, Go.Operand.tmp 25], argTypes := #[32, 32] }, type := 32, pos := "ref.go:96", after := #[{ on := 0, ground := Go.Ground.data }, { on := 2, ground := Go.Ground.data }], guard := none }) rfl (fun K hK => ?_) ?_
      · skip
        refine step_list rfl (.tmp 23) (.tmp 25) rfl U0.heap.size U0.heap.size 0 rfl O23_1.out base A n c xs rfl (owns_any OWN.out.own HB1.out) ONE.out (by omega) HB1.out.size ?_
        intro g26 cap26 U2 O26 G26
        have HB2 := Lib.hid (below_row HB1.out HB1.out.size G26 (by omega))
        have hs2 : U1.heap.size ≤ U2.heap.size := G26.size
        have O26_2 := Lib.hid O26
        clear O26 G26
        clear HB1 O23_1
        (try clear hb1)
        refine hK.out _ _ ⟨(HB2.out.cell (p := ⟨w.heap.size + 1, 0, none⟩) hlx).trans xu0, (HB2.out.cell (p := ⟨w.heap.size + 1, 1, none⟩) hlx).trans xu1, (HB2.out.cell (p := ⟨w.heap.size + 1, 2, none⟩) hlx).trans xu2⟩ (fun hH7 => ?_)
        clear hK K
        clear hH6
        refine wpAnyH_ready (rs := [8]) (by kernel_rfl) (by simp) ?_
        refine AllReadyH.cons (o := { dst := some 31, op := Go.Op.makeSlice 30 (Go.Operand.tmp 30) (Go.Operand.tmp 30), type := 30, pos := "ref.go:96", after := #[{ on := 7, ground := Go.Ground.data }, { on := 7, ground := Go.Ground.data }], guard := none }) rfl (fun K hK => ?_) ?_
        · skip
          go_simp
          refine named (fun U3 hU => ?_)
          have HB3 := Lib.hid (show Below U0.heap.size U0 U3 by rw [hU]; exact HB2.out.alloc HB2.out.size _)
          have hs3 : U2.heap.size < U3.heap.size := by rw [hU]; simp
          have O26_3 := Lib.hid (show U3.ownsRow U0.heap.size 66 5 (.slice (some ⟨g26, 0, none⟩) n cap26) n xs by rw [hU]; exact owns_any O26_2.out (below_one _ _))
          have MK_3 := Lib.hid (show Lies U3 U2.heap.size 3 (noughts l) by rw [hU]; exact Lies.new U2 3 (noughts l))
          clear hU
          clear HB2 O26_2
          refine hK.out _ _ ⟨(HB3.out.cell (p := ⟨w.heap.size + 1, 0, none⟩) hlx).trans xu0, (HB3.out.cell (p := ⟨w.heap.size + 1, 1, none⟩) hlx).trans xu1, (HB3.out.cell (p := ⟨w.heap.size + 1, 2, none⟩) hlx).trans xu2⟩ (fun hH8 => ?_)
          clear hK K
          clear hH7
          refine wpAnyH_take (i := 9) (oi := { dst := some 32, op := Go.Op.build 66 #[(0, Go.Operand.tmp 27), (1, Go.Operand.tmp 28), (2, Go.Operand.tmp 31)], type := 66, pos := "ref.go:96", after := #[{ on := 4, ground := Go.Ground.data }, { on := 5, ground := Go.Ground.data }, { on := 8, ground := Go.Ground.data }], guard := none }) (v := ?_) rfl (by kernel_rfl) (by kernel_rfl) (by kernel_rfl) (fun _ _ _ h => h) (Or.inl ⟨by rfl, ?_⟩) hH8 ?_
          rotate_left
          · (intro w hSw; (try dsimp only at hSw); go_simp; (try with_reducible rfl))
          (try simp only [Act.put, List.setIfInBounds_toArray, List.set_cons_zero, List.set_cons_succ])
          refine wpAnyH_ready (rs := [10]) (by kernel_rfl) (by simp) ?_
          refine AllReadyH.cons (o := { dst := some 33, op := Go.Op.buildSlice 32 1 #[(0, Go.Operand.tmp 32)], type := 32, pos := "ref.go:96", after := #[{ on := 9, ground := Go.Ground.data }], guard := none }) rfl (fun K hK => ?_) ?_
          · skip
            go_simp
            refine named (fun U4 hU => ?_)
            have HB4 := Lib.hid (show Below U0.heap.size U0 U4 by rw [hU]; exact HB3.out.alloc HB3.out.size _)
            have hs4 : U3.heap.size < U4.heap.size := by rw [hU]; simp
            have O26_4 := Lib.hid (show U4.ownsRow U0.heap.size 66 5 (.slice (some ⟨g26, 0, none⟩) n cap26) n xs by rw [hU]; exact owns_any O26_3.out (below_one _ _))
            have MK_4 := Lib.hid (show Lies U4 U2.heap.size 3 (noughts l) by rw [hU]; exact MK_3.out.alloc _)
            have OB_4 := Lib.hid (show Lies U4 U3.heap.size 66 [.int .i64 (N : Int), .int .i64 k, .int .i64 (l : Int), .int .i64 p, .slice (some ⟨U2.heap.size, 0, none⟩) l l] by rw [hU]; exact Lies.new U3 66 [.int .i64 (N : Int), .int .i64 k, .int .i64 (l : Int), .int .i64 p, .slice (some ⟨U2.heap.size, 0, none⟩) l l])
            clear hU
            clear HB3 O26_3 MK_3
            refine hK.out _ _ ⟨(HB4.out.cell (p := ⟨w.heap.size + 1, 0, none⟩) hlx).trans xu0, (HB4.out.cell (p := ⟨w.heap.size + 1, 1, none⟩) hlx).trans xu1, (HB4.out.cell (p := ⟨w.heap.size + 1, 2, none⟩) hlx).trans xu2⟩ (fun hH10 => ?_)
            clear hK K
            clear hH8
            refine wpAnyH_ready (rs := [11]) (by kernel_rfl) (by simp) ?_
            refine AllReadyH.cons (o := { dst := some 34, op := Go.Op.call { callee := Go.Callee.builtin Go.Builtin.append, args := #[Go.Operand.tmp 26, Go.Operand.tmp 33], argTypes := #[32, 32] }, type := 32, pos := "ref.go:96", after := #[{ on := 3, ground := Go.Ground.data }, { on := 10, ground := Go.Ground.data }, { on := 3, ground := Go.Ground.chain }], guard := none }) rfl (fun K hK => ?_) ?_
            · skip
              refine step_one rfl (.tmp 26) (.tmp 33) rfl U0.heap.size g26 n cap26 xs rfl O26_4.out U3.heap.size 1 [.int .i64 (N : Int), .int .i64 k, .int .i64 (l : Int), .int .i64 p, .slice (some ⟨U2.heap.size, 0, none⟩) l l] rfl OB_4.out rfl (one_cells _ _ _ _ _) (by omega) HB4.out.size ?_
              intro g34 cap34 U5 O34 G34
              have HB5 := Lib.hid (below_row HB4.out HB4.out.size G34 (owns_ge O26_4.out))
              have MK_5 := Lib.hid (show Lies U5 U2.heap.size 3 (noughts l) from lies_grown MK_4.out O26_4.out (by decide) G34)
              have FIN := Lib.hid (place_owned OWN.out HB5.out O34 MK_5.out hbU (by omega) HN.out hg).1
              have OFF := Lib.hid (place_owned OWN.out HB5.out O34 MK_5.out hbU (by omega) HN.out hg).2
              clear O34 G34
              clear HB4 O26_4 MK_4 OB_4
              clear MK_5
              have hb5 : U5.cell? ⟨w.heap.size, 1, none⟩ = some (.slice A n c) := (HB5.out.cell (p := ⟨w.heap.size, 1, none⟩) hlh).trans yu1
              have hf5 : U5.frozen? ⟨w.heap.size, 1, none⟩ = false := (HB5.out.frozen (p := ⟨w.heap.size, 1, none⟩) hlh).trans yf1
              refine hK.out _ _ ⟨(HB5.out.cell (p := ⟨w.heap.size + 1, 0, none⟩) hlx).trans xu0, (HB5.out.cell (p := ⟨w.heap.size + 1, 1, none⟩) hlx).trans xu1, (HB5.out.cell (p := ⟨w.heap.size + 1, 2, none⟩) hlx).trans xu2⟩ (fun hH11 => ?_)
              clear hK K
              clear hH10
              refine wpAnyH_take (i := 12) (oi := { dst := some 35, op := Go.Op.fieldAddr 34 (Go.Operand.tmp 2) 1, type := 0, pos := "ref.go:96", after := #[{ on := 0, ground := Go.Ground.phase }, { on := 1, ground := Go.Ground.phase }, { on := 2, ground := Go.Ground.phase }, { on := 3, ground := Go.Ground.phase }, { on := 4, ground := Go.Ground.phase }, { on := 5, ground := Go.Ground.phase }, { on := 6, ground := Go.Ground.phase }, { on := 7, ground := Go.Ground.phase }, { on := 8, ground := Go.Ground.phase }, { on := 9, ground := Go.Ground.phase }, { on := 10, ground := Go.Ground.phase }, { on := 11, ground := Go.Ground.phase }], guard := none }) (v := ?_) rfl (by kernel_rfl) (by kernel_rfl) (by kernel_rfl) (fun _ _ _ h => h) (Or.inl ⟨by rfl, ?_⟩) hH11 ?_
              rotate_left
              · (intro w hSw; (try dsimp only at hSw); go_simp; (try with_reducible rfl))
              (try simp only [Act.put, List.setIfInBounds_toArray, List.set_cons_zero, List.set_cons_succ])
              refine wpAnyH_ready (rs := [13]) (by kernel_rfl) (by simp) ?_
              refine AllReadyH.cons (o := { dst := none, op := Go.Op.store 32 (Go.Operand.tmp 35) (Go.Operand.tmp 34), type := 0, pos := "ref.go:96", after := #[{ on := 12, ground := Go.Ground.data }, { on := 11, ground := Go.Ground.data }, { on := 11, ground := Go.Ground.chain }, { on := 0, ground := Go.Ground.phase }, { on := 1, ground := Go.Ground.phase }, { on := 2, ground := Go.Ground.phase }, { on := 3, ground := Go.Ground.phase }, { on := 4, ground := Go.Ground.phase }, { on := 5, ground := Go.Ground.phase }, { on := 6, ground := Go.Ground.phase }, { on := 7, ground := Go.Ground.phase }, { on := 8, ground := Go.Ground.phase }, { on := 9, ground := Go.Ground.phase }, { on := 10, ground := Go.Ground.phase }, { on := 11, ground := Go.Ground.phase }], guard := none }) rfl (fun K hK => ?_) ?_
              · skip
                go_simp
                refine hK.out _ _ ⟨(World.cell?_setCell_far _ _ _ _ (by simp)).trans ((HB5.out.cell (p := ⟨w.heap.size + 1, 0, none⟩) hlx).trans xu0), (World.cell?_setCell_far _ _ _ _ (by simp)).trans ((HB5.out.cell (p := ⟨w.heap.size + 1, 1, none⟩) hlx).trans xu1), (World.cell?_setCell_far _ _ _ _ (by simp)).trans ((HB5.out.cell (p := ⟨w.heap.size + 1, 2, none⟩) hlx).trans xu2)⟩ (fun hH13 => ?_)
                clear hK K
                clear hH11
                refine wpAnyH_done (by kernel_rfl) ?_ _
                have Lh9 := (HLh.out.below HB5.out HLh.out.lt).set 1 (.slice (some ⟨g34, 0, none⟩) (n + 1) cap34)
                have Lr9 := (HLr.out.below HB5.out HLr.out.lt).far (p := ⟨w.heap.size, 1, none⟩) (by simp; omega) (.slice (some ⟨g34, 0, none⟩) (n + 1) cap34)
                have FIN9 := Lib.hid (Owned.far FIN.out (HLh.out.below HB5.out HLh.out.lt) (by decide) (by decide) 1 (.slice (some ⟨g34, 0, none⟩) (n + 1) cap34))
                have B9 := Lib.hid ((on B0.out B0.out.size HB5.out).setCell (p := ⟨w.heap.size, 1, none⟩) (by simp) (.slice (some ⟨g34, 0, none⟩) (n + 1) cap34))
                clear hb5 hf5
                refine named2 (fun V hV => ?_)
                rw [← hV] at Lh9 Lr9 FIN9 B9
                clear hV
                have a0 : V.cell? ⟨w.heap.size, 0, none⟩ = some (.int .i64 (Z : Int)) := Lh9.cell 0
                have a1 : V.cell? ⟨w.heap.size, 1, none⟩ = some (.slice (some ⟨g34, 0, none⟩) (n + 1) cap34) := Lh9.cell 1
                have c0 : V.cell? ⟨w.heap.size + 1 + 1, 0, none⟩ = some (.int .i64 0) := Lr9.cell 0
                have c1 : V.cell? ⟨w.heap.size + 1 + 1, 1, none⟩ = some (.slice none 0 0) := Lr9.cell 1
                have c2 := Lr9.frozen 0
                have c3 := Lr9.frozen 1
                have c4 := Lr9.lt
                have HLr9 := Lib.hid Lr9
                clear Lh9 Lr9
                go_wp2
                exact bodyPost_ret (v := .tuple #[.agg #[.int .i64 (Z : Int), .slice (some ⟨g34, 0, none⟩) (n + 1) cap34], .int .i64 (N : Int), .int .i64 0]) (by simp [results, Tryz.results41, go_sem, a0, a1, c0, c1, c2, c3, c4]) rfl ⟨⟨_, _, _, rfl, Owned.far (Owned.far FIN9.out HLr9.out (by decide) (by decide) 0 _) (HLr9.out.set 0 _) (by decide) (by decide) 1 _, fun N0 h0 ho => OFF.out N0 (Nat.lt_of_lt_of_le h0 B0.out.size) ho⟩, by
                  have := B9.out
                  repeat (first | exact this | refine Below.setCell ?_ (by simp <;> omega) _)⟩
              exact AllReadyH.nil
            exact AllReadyH.nil
          exact AllReadyH.nil
        exact AllReadyH.nil
      refine AllReadyH.cons (o := { dst := some 31, op := Go.Op.makeSlice 30 (Go.Operand.tmp 30) (Go.Operand.tmp 30), type := 30, pos := "ref.go:96", after := #[{ on := 7, ground := Go.Ground.data }, { on := 7, ground := Go.Ground.data }], guard := none }) rfl (fun K hK => ?_) ?_
      · skip
        go_simp
        refine named (fun U2 hU => ?_)
        have HB2 := Lib.hid (show Below U0.heap.size U0 U2 by rw [hU]; exact HB1.out.alloc HB1.out.size _)
        have hs2 : U1.heap.size < U2.heap.size := by rw [hU]; simp
        have O23_2 := Lib.hid (show U2.ownsRow U0.heap.size 66 5 (.slice (some ⟨U0.heap.size, 0, none⟩) 0 0) 0 [] by rw [hU]; exact owns_any O23_1.out (below_one _ _))
        have MK_2 := Lib.hid (show Lies U2 U1.heap.size 3 (noughts l) by rw [hU]; exact Lies.new U1 3 (noughts l))
        clear hU
        clear HB1 O23_1
        refine hK.out _ _ ⟨(HB2.out.cell (p := ⟨w.heap.size + 1, 0, none⟩) hlx).trans xu0, (HB2.out.cell (p := ⟨w.heap.size + 1, 1, none⟩) hlx).trans xu1, (HB2.out.cell (p := ⟨w.heap.size + 1, 2, none⟩) hlx).trans xu2⟩ (fun hH7 => ?_)
        clear hK K
        clear hH6
        refine wpAnyH_take (i := 9) (oi := { dst := some 32, op := Go.Op.build 66 #[(0, Go.Operand.tmp 27), (1, Go.Operand.tmp 28), (2, Go.Operand.tmp 31)], type := 66, pos := "ref.go:96", after := #[{ on := 4, ground := Go.Ground.data }, { on := 5, ground := Go.Ground.data }, { on := 8, ground := Go.Ground.data }], guard := none }) (v := ?_) rfl (by kernel_rfl) (by kernel_rfl) (by kernel_rfl) (fun _ _ _ h => h) (Or.inl ⟨by rfl, ?_⟩) hH7 ?_
        rotate_left
        · (intro w hSw; (try dsimp only at hSw); go_simp; (try with_reducible rfl))
        (try simp only [Act.put, List.setIfInBounds_toArray, List.set_cons_zero, List.set_cons_succ])
        refine wpAnyH_ready (rs := [3, 10]) (by kernel_rfl) (by simp) ?_
        refine AllReadyH.cons (o := { dst := some 26, op := Go.Op.call { callee := Go.Callee.builtin Go.Builtin.append, args := #[Go.Operand.tmp 23, Go.Operand.tmp 25], argTypes := #[32, 32] }, type := 32, pos := "ref.go:96", after := #[{ on := 0, ground := Go.Ground.data }, { on := 2, ground := Go.Ground.data }], guard := none }) rfl (fun K hK => ?_) ?_
        · skip
          refine step_list rfl (.tmp 23) (.tmp 25) rfl U0.heap.size U0.heap.size 0 rfl O23_2.out base A n c xs rfl (owns_any OWN.out.own HB2.out) ONE.out (by omega) HB2.out.size ?_
          intro g26 cap26 U3 O26 G26
          have HB3 := Lib.hid (below_row HB2.out HB2.out.size G26 (by omega))
          have hs3 : U2.heap.size ≤ U3.heap.size := G26.size
          have MK_3 := Lib.hid (show Lies U3 U1.heap.size 3 (noughts l) from lies_grown' MK_2.out (by omega) G26)
          have O26_3 := Lib.hid O26
          clear O26 G26
          clear HB2 O23_2 MK_2
          (try clear hb2)
          refine hK.out _ _ ⟨(HB3.out.cell (p := ⟨w.heap.size + 1, 0, none⟩) hlx).trans xu0, (HB3.out.cell (p := ⟨w.heap.size + 1, 1, none⟩) hlx).trans xu1, (HB3.out.cell (p := ⟨w.heap.size + 1, 2, none⟩) hlx).trans xu2⟩ (fun hH9 => ?_)
          clear hK K
          clear hH7
          refine wpAnyH_ready (rs := [10]) (by kernel_rfl) (by simp) ?_
          refine AllReadyH.cons (o := { dst := some 33, op := Go.Op.buildSlice 32 1 #[(0, Go.Operand.tmp 32)], type := 32, pos := "ref.go:96", after := #[{ on := 9, ground := Go.Ground.data }], guard := none }) rfl (fun K hK => ?_) ?_
          · skip
            go_simp
            refine named (fun U4 hU => ?_)
            have HB4 := Lib.hid (show Below U0.heap.size U0 U4 by rw [hU]; exact HB3.out.alloc HB3.out.size _)
            have hs4 : U3.heap.size < U4.heap.size := by rw [hU]; simp
            have O26_4 := Lib.hid (show U4.ownsRow U0.heap.size 66 5 (.slice (some ⟨g26, 0, none⟩) n cap26) n xs by rw [hU]; exact owns_any O26_3.out (below_one _ _))
            have MK_4 := Lib.hid (show Lies U4 U1.heap.size 3 (noughts l) by rw [hU]; exact MK_3.out.alloc _)
            have OB_4 := Lib.hid (show Lies U4 U3.heap.size 66 [.int .i64 (N : Int), .int .i64 k, .int .i64 (l : Int), .int .i64 p, .slice (some ⟨U1.heap.size, 0, none⟩) l l] by rw [hU]; exact Lies.new U3 66 [.int .i64 (N : Int), .int .i64 k, .int .i64 (l : Int), .int .i64 p, .slice (some ⟨U1.heap.size, 0, none⟩) l l])
            clear hU
            clear HB3 MK_3 O26_3
            refine hK.out _ _ ⟨(HB4.out.cell (p := ⟨w.heap.size + 1, 0, none⟩) hlx).trans xu0, (HB4.out.cell (p := ⟨w.heap.size + 1, 1, none⟩) hlx).trans xu1, (HB4.out.cell (p := ⟨w.heap.size + 1, 2, none⟩) hlx).trans xu2⟩ (fun hH10 => ?_)
            clear hK K
            clear hH9
            refine wpAnyH_ready (rs := [11]) (by kernel_rfl) (by simp) ?_
            refine AllReadyH.cons (o := { dst := some 34, op := Go.Op.call { callee := Go.Callee.builtin Go.Builtin.append, args := #[Go.Operand.tmp 26, Go.Operand.tmp 33], argTypes := #[32, 32] }, type := 32, pos := "ref.go:96", after := #[{ on := 3, ground := Go.Ground.data }, { on := 10, ground := Go.Ground.data }, { on := 3, ground := Go.Ground.chain }], guard := none }) rfl (fun K hK => ?_) ?_
            · skip
              refine step_one rfl (.tmp 26) (.tmp 33) rfl U0.heap.size g26 n cap26 xs rfl O26_4.out U3.heap.size 1 [.int .i64 (N : Int), .int .i64 k, .int .i64 (l : Int), .int .i64 p, .slice (some ⟨U1.heap.size, 0, none⟩) l l] rfl OB_4.out rfl (one_cells _ _ _ _ _) (by omega) HB4.out.size ?_
              intro g34 cap34 U5 O34 G34
              have HB5 := Lib.hid (below_row HB4.out HB4.out.size G34 (owns_ge O26_4.out))
              have MK_5 := Lib.hid (show Lies U5 U1.heap.size 3 (noughts l) from lies_grown MK_4.out O26_4.out (by decide) G34)
              have FIN := Lib.hid (place_owned OWN.out HB5.out O34 MK_5.out hbU (by omega) HN.out hg).1
              have OFF := Lib.hid (place_owned OWN.out HB5.out O34 MK_5.out hbU (by omega) HN.out hg).2
              clear O34 G34
              clear HB4 MK_4 O26_4 OB_4
              clear MK_5
              have hb5 : U5.cell? ⟨w.heap.size, 1, none⟩ = some (.slice A n c) := (HB5.out.cell (p := ⟨w.heap.size, 1, none⟩) hlh).trans yu1
              have hf5 : U5.frozen? ⟨w.heap.size, 1, none⟩ = false := (HB5.out.frozen (p := ⟨w.heap.size, 1, none⟩) hlh).trans yf1
              refine hK.out _ _ ⟨(HB5.out.cell (p := ⟨w.heap.size + 1, 0, none⟩) hlx).trans xu0, (HB5.out.cell (p := ⟨w.heap.size + 1, 1, none⟩) hlx).trans xu1, (HB5.out.cell (p := ⟨w.heap.size + 1, 2, none⟩) hlx).trans xu2⟩ (fun hH11 => ?_)
              clear hK K
              clear hH10
              refine wpAnyH_take (i := 12) (oi := { dst := some 35, op := Go.Op.fieldAddr 34 (Go.Operand.tmp 2) 1, type := 0, pos := "ref.go:96", after := #[{ on := 0, ground := Go.Ground.phase }, { on := 1, ground := Go.Ground.phase }, { on := 2, ground := Go.Ground.phase }, { on := 3, ground := Go.Ground.phase }, { on := 4, ground := Go.Ground.phase }, { on := 5, ground := Go.Ground.phase }, { on := 6, ground := Go.Ground.phase }, { on := 7, ground := Go.Ground.phase }, { on := 8, ground := Go.Ground.phase }, { on := 9, ground := Go.Ground.phase }, { on := 10, ground := Go.Ground.phase }, { on := 11, ground := Go.Ground.phase }], guard := none }) (v := ?_) rfl (by kernel_rfl) (by kernel_rfl) (by kernel_rfl) (fun _ _ _ h => h) (Or.inl ⟨by rfl, ?_⟩) hH11 ?_
              rotate_left
              · (intro w hSw; (try dsimp only at hSw); go_simp; (try with_reducible rfl))
              (try simp only [Act.put, List.setIfInBounds_toArray, List.set_cons_zero, List.set_cons_succ])
              refine wpAnyH_ready (rs := [13]) (by kernel_rfl) (by simp) ?_
              refine AllReadyH.cons (o := { dst := none, op := Go.Op.store 32 (Go.Operand.tmp 35) (Go.Operand.tmp 34), type := 0, pos := "ref.go:96", after := #[{ on := 12, ground := Go.Ground.data }, { on := 11, ground := Go.Ground.data }, { on := 11, ground := Go.Ground.chain }, { on := 0, ground := Go.Ground.phase }, { on := 1, ground := Go.Ground.phase }, { on := 2, ground := Go.Ground.phase }, { on := 3, ground := Go.Ground.phase }, { on := 4, ground := Go.Ground.phase }, { on := 5, ground := Go.Ground.phase }, { on := 6, ground := Go.Ground.phase }, { on := 7, ground := Go.Ground.phase }, { on := 8, ground := Go.Ground.phase }, { on := 9, ground := Go.Ground.phase }, { on := 10, ground := Go.Ground.phase }, { on := 11, ground := Go.Ground.phase }], guard := none }) rfl (fun K hK => ?_) ?_
              · skip
                go_simp
                refine hK.out _ _ ⟨(World.cell?_setCell_far _ _ _ _ (by simp)).trans ((HB5.out.cell (p := ⟨w.heap.size + 1, 0, none⟩) hlx).trans xu0), (World.cell?_setCell_far _ _ _ _ (by simp)).trans ((HB5.out.cell (p := ⟨w.heap.size + 1, 1, none⟩) hlx).trans xu1), (World.cell?_setCell_far _ _ _ _ (by simp)).trans ((HB5.out.cell (p := ⟨w.heap.size + 1, 2, none⟩) hlx).trans xu2)⟩ (fun hH13 => ?_)
                clear hK K
                clear hH11
                refine wpAnyH_done (by kernel_rfl) ?_ _
                have Lh9 := (HLh.out.below HB5.out HLh.out.lt).set 1 (.slice (some ⟨g34, 0, none⟩) (n + 1) cap34)
                have Lr9 := (HLr.out.below HB5.out HLr.out.lt).far (p := ⟨w.heap.size, 1, none⟩) (by simp; omega) (.slice (some ⟨g34, 0, none⟩) (n + 1) cap34)
                have FIN9 := Lib.hid (Owned.far FIN.out (HLh.out.below HB5.out HLh.out.lt) (by decide) (by decide) 1 (.slice (some ⟨g34, 0, none⟩) (n + 1) cap34))
                have B9 := Lib.hid ((on B0.out B0.out.size HB5.out).setCell (p := ⟨w.heap.size, 1, none⟩) (by simp) (.slice (some ⟨g34, 0, none⟩) (n + 1) cap34))
                clear hb5 hf5
                refine named2 (fun V hV => ?_)
                rw [← hV] at Lh9 Lr9 FIN9 B9
                clear hV
                have a0 : V.cell? ⟨w.heap.size, 0, none⟩ = some (.int .i64 (Z : Int)) := Lh9.cell 0
                have a1 : V.cell? ⟨w.heap.size, 1, none⟩ = some (.slice (some ⟨g34, 0, none⟩) (n + 1) cap34) := Lh9.cell 1
                have c0 : V.cell? ⟨w.heap.size + 1 + 1, 0, none⟩ = some (.int .i64 0) := Lr9.cell 0
                have c1 : V.cell? ⟨w.heap.size + 1 + 1, 1, none⟩ = some (.slice none 0 0) := Lr9.cell 1
                have c2 := Lr9.frozen 0
                have c3 := Lr9.frozen 1
                have c4 := Lr9.lt
                have HLr9 := Lib.hid Lr9
                clear Lh9 Lr9
                go_wp2
                exact bodyPost_ret (v := .tuple #[.agg #[.int .i64 (Z : Int), .slice (some ⟨g34, 0, none⟩) (n + 1) cap34], .int .i64 (N : Int), .int .i64 0]) (by simp [results, Tryz.results41, go_sem, a0, a1, c0, c1, c2, c3, c4]) rfl ⟨⟨_, _, _, rfl, Owned.far (Owned.far FIN9.out HLr9.out (by decide) (by decide) 0 _) (HLr9.out.set 0 _) (by decide) (by decide) 1 _, fun N0 h0 ho => OFF.out N0 (Nat.lt_of_lt_of_le h0 B0.out.size) ho⟩, by
                  have := B9.out
                  repeat (first | exact this | refine Below.setCell ?_ (by simp <;> omega) _)⟩
              exact AllReadyH.nil
            exact AllReadyH.nil
          exact AllReadyH.nil
        refine AllReadyH.cons (o := { dst := some 33, op := Go.Op.buildSlice 32 1 #[(0, Go.Operand.tmp 32)], type := 32, pos := "ref.go:96", after := #[{ on := 9, ground := Go.Ground.data }], guard := none }) rfl (fun K hK => ?_) ?_
        · skip
          go_simp
          refine named (fun U3 hU => ?_)
          have HB3 := Lib.hid (show Below U0.heap.size U0 U3 by rw [hU]; exact HB2.out.alloc HB2.out.size _)
          have hs3 : U2.heap.size < U3.heap.size := by rw [hU]; simp
          have O23_3 := Lib.hid (show U3.ownsRow U0.heap.size 66 5 (.slice (some ⟨U0.heap.size, 0, none⟩) 0 0) 0 [] by rw [hU]; exact owns_any O23_2.out (below_one _ _))
          have MK_3 := Lib.hid (show Lies U3 U1.heap.size 3 (noughts l) by rw [hU]; exact MK_2.out.alloc _)
          have OB_3 := Lib.hid (show Lies U3 U2.heap.size 66 [.int .i64 (N : Int), .int .i64 k, .int .i64 (l : Int), .int .i64 p, .slice (some ⟨U1.heap.size, 0, none⟩) l l] by rw [hU]; exact Lies.new U2 66 [.int .i64 (N : Int), .int .i64 k, .int .i64 (l : Int), .int .i64 p, .slice (some ⟨U1.heap.size, 0, none⟩) l l])
          clear hU
          clear HB2 O23_2 MK_2
          refine hK.out _ _ ⟨(HB3.out.cell (p := ⟨w.heap.size + 1, 0, none⟩) hlx).trans xu0, (HB3.out.cell (p := ⟨w.heap.size + 1, 1, none⟩) hlx).trans xu1, (HB3.out.cell (p := ⟨w.heap.size + 1, 2, none⟩) hlx).trans xu2⟩ (fun hH9 => ?_)
          clear hK K
          clear hH7
          refine wpAnyH_ready (rs := [3]) (by kernel_rfl) (by simp) ?_
          refine AllReadyH.cons (o := { dst := some 26, op := Go.Op.call { callee := Go.Callee.builtin Go.Builtin.append, args := #[Go.Operand.tmp 23, Go.Operand.tmp 25], argTypes := #[32, 32] }, type := 32, pos := "ref.go:96", after := #[{ on := 0, ground := Go.Ground.data }, { on := 2, ground := Go.Ground.data }], guard := none }) rfl (fun K hK => ?_) ?_
          · skip
            refine step_list rfl (.tmp 23) (.tmp 25) rfl U0.heap.size U0.heap.size 0 rfl O23_3.out base A n c xs rfl (owns_any OWN.out.own HB3.out) ONE.out (by omega) HB3.out.size ?_
            intro g26 cap26 U4 O26 G26
            have HB4 := Lib.hid (below_row HB3.out HB3.out.size G26 (by omega))
            have hs4 : U3.heap.size ≤ U4.heap.size := G26.size
            have MK_4 := Lib.hid (show Lies U4 U1.heap.size 3 (noughts l) from lies_grown' MK_3.out (by omega) G26)
            have OB_4 := Lib.hid (show Lies U4 U2.heap.size 66 [.int .i64 (N : Int), .int .i64 k, .int .i64 (l : Int), .int .i64 p, .slice (some ⟨U1.heap.size, 0, none⟩) l l] from lies_grown' OB_3.out (by omega) G26)
            have O26_4 := Lib.hid O26
            clear O26 G26
            clear HB3 O23_3 MK_3 OB_3
            (try clear hb3)
            refine hK.out _ _ ⟨(HB4.out.cell (p := ⟨w.heap.size + 1, 0, none⟩) hlx).trans xu0, (HB4.out.cell (p := ⟨w.heap.size + 1, 1, none⟩) hlx).trans xu1, (HB4.out.cell (p := ⟨w.heap.size + 1, 2, none⟩) hlx).trans xu2⟩ (fun hH10 => ?_)
            clear hK K
            clear hH9
            refine wpAnyH_ready (rs := [11]) (by kernel_rfl) (by simp) ?_
            refine AllReadyH.cons (o := { dst := some 34, op := Go.Op.call { callee := Go.Callee.builtin Go.Builtin.append, args := #[Go.Operand.tmp 26, Go.Operand.tmp 33], argTypes := #[32, 32] }, type := 32, pos := "ref.go:96", after := #[{ on := 3, ground := Go.Ground.data }, { on := 10, ground := Go.Ground.data }, { on := 3, ground := Go.Ground.chain }], guard := none }) rfl (fun K hK => ?_) ?_
            · skip
              refine step_one rfl (.tmp 26) (.tmp 33) rfl U0.heap.size g26 n cap26 xs rfl O26_4.out U2.heap.size 1 [.int .i64 (N : Int), .int .i64 k, .int .i64 (l : Int), .int .i64 p, .slice (some ⟨U1.heap.size, 0, none⟩) l l] rfl OB_4.out rfl (one_cells _ _ _ _ _) (by omega) HB4.out.size ?_
              intro g34 cap34 U5 O34 G34
              have HB5 := Lib.hid (below_row HB4.out HB4.out.size G34 (owns_ge O26_4.out))
              have MK_5 := Lib.hid (show Lies U5 U1.heap.size 3 (noughts l) from lies_grown MK_4.out O26_4.out (by decide) G34)
              have FIN := Lib.hid (place_owned OWN.out HB5.out O34 MK_5.out hbU (by omega) HN.out hg).1
              have OFF := Lib.hid (place_owned OWN.out HB5.out O34 MK_5.out hbU (by omega) HN.out hg).2
              clear O34 G34
              clear HB4 MK_4 OB_4 O26_4
              clear MK_5
              have hb5 : U5.cell? ⟨w.heap.size, 1, none⟩ = some (.slice A n c) := (HB5.out.cell (p := ⟨w.heap.size, 1, none⟩) hlh).trans yu1
              have hf5 : U5.frozen? ⟨w.heap.size, 1, none⟩ = false := (HB5.out.frozen (p := ⟨w.heap.size, 1, none⟩) hlh).trans yf1
              refine hK.out _ _ ⟨(HB5.out.cell (p := ⟨w.heap.size + 1, 0, none⟩) hlx).trans xu0, (HB5.out.cell (p := ⟨w.heap.size + 1, 1, none⟩) hlx).trans xu1, (HB5.out.cell (p := ⟨w.heap.size + 1, 2, none⟩) hlx).trans xu2⟩ (fun hH11 => ?_)
              clear hK K
              clear hH10
              refine wpAnyH_take (i := 12) (oi := { dst := some 35, op := Go.Op.fieldAddr 34 (Go.Operand.tmp 2) 1, type := 0, pos := "ref.go:96", after := #[{ on := 0, ground := Go.Ground.phase }, { on := 1, ground := Go.Ground.phase }, { on := 2, ground := Go.Ground.phase }, { on := 3, ground := Go.Ground.phase }, { on := 4, ground := Go.Ground.phase }, { on := 5, ground := Go.Ground.phase }, { on := 6, ground := Go.Ground.phase }, { on := 7, ground := Go.Ground.phase }, { on := 8, ground := Go.Ground.phase }, { on := 9, ground := Go.Ground.phase }, { on := 10, ground := Go.Ground.phase }, { on := 11, ground := Go.Ground.phase }], guard := none }) (v := ?_) rfl (by kernel_rfl) (by kernel_rfl) (by kernel_rfl) (fun _ _ _ h => h) (Or.inl ⟨by rfl, ?_⟩) hH11 ?_
              rotate_left
              · (intro w hSw; (try dsimp only at hSw); go_simp; (try with_reducible rfl))
              (try simp only [Act.put, List.setIfInBounds_toArray, List.set_cons_zero, List.set_cons_succ])
              refine wpAnyH_ready (rs := [13]) (by kernel_rfl) (by simp) ?_
              refine AllReadyH.cons (o := { dst := none, op := Go.Op.store 32 (Go.Operand.tmp 35) (Go.Operand.tmp 34), type := 0, pos := "ref.go:96", after := #[{ on := 12, ground := Go.Ground.data }, { on := 11, ground := Go.Ground.data }, { on := 11, ground := Go.Ground.chain }, { on := 0, ground := Go.Ground.phase }, { on := 1, ground := Go.Ground.phase }, { on := 2, ground := Go.Ground.phase }, { on := 3, ground := Go.Ground.phase }, { on := 4, ground := Go.Ground.phase }, { on := 5, ground := Go.Ground.phase }, { on := 6, ground := Go.Ground.phase }, { on := 7, ground := Go.Ground.phase }, { on := 8, ground := Go.Ground.phase }, { on := 9, ground := Go.Ground.phase }, { on := 10, ground := Go.Ground.phase }, { on := 11, ground := Go.Ground.phase }], guard := none }) rfl (fun K hK => ?_) ?_
              · skip
                go_simp
                refine hK.out _ _ ⟨(World.cell?_setCell_far _ _ _ _ (by simp)).trans ((HB5.out.cell (p := ⟨w.heap.size + 1, 0, none⟩) hlx).trans xu0), (World.cell?_setCell_far _ _ _ _ (by simp)).trans ((HB5.out.cell (p := ⟨w.heap.size + 1, 1, none⟩) hlx).trans xu1), (World.cell?_setCell_far _ _ _ _ (by simp)).trans ((HB5.out.cell (p := ⟨w.heap.size + 1, 2, none⟩) hlx).trans xu2)⟩ (fun hH13 => ?_)
                clear hK K
                clear hH11
                refine wpAnyH_done (by kernel_rfl) ?_ _
                have Lh9 := (HLh.out.below HB5.out HLh.out.lt).set 1 (.slice (some ⟨g34, 0, none⟩) (n + 1) cap34)
                have Lr9 := (HLr.out.below HB5.out HLr.out.lt).far (p := ⟨w.heap.size, 1, none⟩) (by simp; omega) (.slice (some ⟨g34, 0, none⟩) (n + 1) cap34)
                have FIN9 := Lib.hid (Owned.far FIN.out (HLh.out.below HB5.out HLh.out.lt) (by decide) (by decide) 1 (.slice (some ⟨g34, 0, none⟩) (n + 1) cap34))
                have B9 := Lib.hid ((on B0.out B0.out.size HB5.out).setCell (p := ⟨w.heap.size, 1, none⟩) (by simp) (.slice (some ⟨g34, 0, none⟩) (n + 1) cap34))
                clear hb5 hf5
                refine named2 (fun V hV => ?_)
                rw [← hV] at Lh9 Lr9 FIN9 B9
                clear hV
                have a0 : V.cell? ⟨w.heap.size, 0, none⟩ = some (.int .i64 (Z : Int)) := Lh9.cell 0
                have a1 : V.cell? ⟨w.heap.size, 1, none⟩ = some (.slice (some ⟨g34, 0, none⟩) (n + 1) cap34) := Lh9.cell 1
                have c0 : V.cell? ⟨w.heap.size + 1 + 1, 0, none⟩ = some (.int .i64 0) := Lr9.cell 0
                have c1 : V.cell? ⟨w.heap.size + 1 + 1, 1, none⟩ = some (.slice none 0 0) := Lr9.cell 1
                have c2 := Lr9.frozen 0
                have c3 := Lr9.frozen 1
                have c4 := Lr9.lt
                have HLr9 := Lib.hid Lr9
                clear Lh9 Lr9
                go_wp2
                exact bodyPost_ret (v := .tuple #[.agg #[.int .i64 (Z : Int), .slice (some ⟨g34, 0, none⟩) (n + 1) cap34], .int .i64 (N : Int), .int .i64 0]) (by simp [results, Tryz.results41, go_sem, a0, a1, c0, c1, c2, c3, c4]) rfl ⟨⟨_, _, _, rfl, Owned.far (Owned.far FIN9.out HLr9.out (by decide) (by decide) 0 _) (HLr9.out.set 0 _) (by decide) (by decide) 1 _, fun N0 h0 ho => OFF.out N0 (Nat.lt_of_lt_of_le h0 B0.out.size) ho⟩, by
                  have := B9.out
                  repeat (first | exact this | refine Below.setCell ?_ (by simp <;> omega) _)⟩
              exact AllReadyH.nil
            exact AllReadyH.nil
          exact AllReadyH.nil
        exact AllReadyH.nil
      exact AllReadyH.nil
    refine AllReadyH.cons (o := { dst := some 31, op := Go.Op.makeSlice 30 (Go.Operand.tmp 30) (Go.Operand.tmp 30), type := 30, pos := "ref.go:96", after := #[{ on := 7, ground := Go.Ground.data }, { on := 7, ground := Go.Ground.data }], guard := none }) rfl (fun K hK => ?_) ?_
    · skip
      go_simp
      refine named (fun U2 hU => ?_)
      have HB2 := Lib.hid (show Below U0.heap.size U0 U2 by rw [hU]; exact HB1.out.alloc HB1.out.size _)
      have hs2 : U1.heap.size < U2.heap.size := by rw [hU]; simp
      have O23_2 := Lib.hid (show U2.ownsRow U0.heap.size 66 5 (.slice (some ⟨U0.heap.size, 0, none⟩) 0 0) 0 [] by rw [hU]; exact owns_any O23_1.out (below_one _ _))
      have MK_2 := Lib.hid (show Lies U2 U1.heap.size 3 (noughts l) by rw [hU]; exact Lies.new U1 3 (noughts l))
      clear hU
      clear HB1 O23_1
      have hb2 : U2.cell? ⟨w.heap.size, 1, none⟩ = some (.slice A n c) := (HB2.out.cell (p := ⟨w.heap.size, 1, none⟩) hlh).trans yu1
      clear hb1
      refine hK.out _ _ ⟨(HB2.out.cell (p := ⟨w.heap.size + 1, 0, none⟩) hlx).trans xu0, (HB2.out.cell (p := ⟨w.heap.size + 1, 1, none⟩) hlx).trans xu1, (HB2.out.cell (p := ⟨w.heap.size + 1, 2, none⟩) hlx).trans xu2⟩ (fun hH6 => ?_)
      clear hK K
      clear hH5
      refine wpAnyH_take (i := 9) (oi := { dst := some 32, op := Go.Op.build 66 #[(0, Go.Operand.tmp 27), (1, Go.Operand.tmp 28), (2, Go.Operand.tmp 31)], type := 66, pos := "ref.go:96", after := #[{ on := 4, ground := Go.Ground.data }, { on := 5, ground := Go.Ground.data }, { on := 8, ground := Go.Ground.data }], guard := none }) (v := ?_) rfl (by kernel_rfl) (by kernel_rfl) (by kernel_rfl) (fun _ _ _ h => h) (Or.inl ⟨by rfl, ?_⟩) hH6 ?_
      rotate_left
      · (intro w hSw; (try dsimp only at hSw); go_simp; (try with_reducible rfl))
      (try simp only [Act.put, List.setIfInBounds_toArray, List.set_cons_zero, List.set_cons_succ])
      refine wpAnyH_ready (rs := [2, 10]) (by kernel_rfl) (by simp) ?_
      refine AllReadyH.cons (o := { dst := some 25, op := Go.Op.load 32 (Go.Operand.tmp 24), type := 32, pos := "ref.go:96", after := #[{ on := 1, ground := Go.Ground.data }], guard := none }) rfl (fun K hK => ?_) ?_
      · skip
        go_simp
        refine hK.out _ _ ⟨(HB2.out.cell (p := ⟨w.heap.size + 1, 0, none⟩) hlx).trans xu0, (HB2.out.cell (p := ⟨w.heap.size + 1, 1, none⟩) hlx).trans xu1, (HB2.out.cell (p := ⟨w.heap.size + 1, 2, none⟩) hlx).trans xu2⟩ (fun hH8 => ?_)
        clear hK K
        clear hH6
        refine wpAnyH_ready (rs := [3, 10]) (by kernel_rfl) (by simp) ?_
        refine AllReadyH.cons (o := { dst := some 26, op := Go.Op.call { callee := Go.Callee.builtin Go.Builtin.append, args := #[Go.Operand.tmp 23, Go.Operand.tmp 25], argTypes := #[32, 32] }, type := 32, pos := "ref.go:96", after := #[{ on := 0, ground := Go.Ground.data }, { on := 2, ground := Go.Ground.data }], guard := none }) rfl (fun K hK => ?_) ?_
        · skip
          refine step_list rfl (.tmp 23) (.tmp 25) rfl U0.heap.size U0.heap.size 0 rfl O23_2.out base A n c xs rfl (owns_any OWN.out.own HB2.out) ONE.out (by omega) HB2.out.size ?_
          intro g26 cap26 U3 O26 G26
          have HB3 := Lib.hid (below_row HB2.out HB2.out.size G26 (by omega))
          have hs3 : U2.heap.size ≤ U3.heap.size := G26.size
          have MK_3 := Lib.hid (show Lies U3 U1.heap.size 3 (noughts l) from lies_grown' MK_2.out (by omega) G26)
          have O26_3 := Lib.hid O26
          clear O26 G26
          clear HB2 O23_2 MK_2
          (try clear hb2)
          refine hK.out _ _ ⟨(HB3.out.cell (p := ⟨w.heap.size + 1, 0, none⟩) hlx).trans xu0, (HB3.out.cell (p := ⟨w.heap.size + 1, 1, none⟩) hlx).trans xu1, (HB3.out.cell (p := ⟨w.heap.size + 1, 2, none⟩) hlx).trans xu2⟩ (fun hH9 => ?_)
          clear hK K
          clear hH8
          refine wpAnyH_ready (rs := [10]) (by kernel_rfl) (by simp) ?_
          refine AllReadyH.cons (o := { dst := some 33, op := Go.Op.buildSlice 32 1 #[(0, Go.Operand.tmp 32)], type := 32, pos := "ref.go:96", after := #[{ on := 9, ground := Go.Ground.data }], guard := none }) rfl (fun K hK => ?_) ?_
          · skip
            go_simp
            refine named (fun U4 hU => ?_)
            have HB4 := Lib.hid (show Below U0.heap.size U0 U4 by rw [hU]; exact HB3.out.alloc HB3.out.size _)
            have hs4 : U3.heap.size < U4.heap.size := by rw [hU]; simp
            have O26_4 := Lib.hid (show U4.ownsRow U0.heap.size 66 5 (.slice (some ⟨g26, 0, none⟩) n cap26) n xs by rw [hU]; exact owns_any O26_3.out (below_one _ _))
            have MK_4 := Lib.hid (show Lies U4 U1.heap.size 3 (noughts l) by rw [hU]; exact MK_3.out.alloc _)
            have OB_4 := Lib.hid (show Lies U4 U3.heap.size 66 [.int .i64 (N : Int), .int .i64 k, .int .i64 (l : Int), .int .i64 p, .slice (some ⟨U1.heap.size, 0, none⟩) l l] by rw [hU]; exact Lies.new U3 66 [.int .i64 (N : Int), .int .i64 k, .int .i64 (l : Int), .int .i64 p, .slice (some ⟨U1.heap.size, 0, none⟩) l l])
            clear hU
            clear HB3 MK_3 O26_3
            refine hK.out _ _ ⟨(HB4.out.cell (p := ⟨w.heap.size + 1, 0, none⟩) hlx).trans xu0, (HB4.out.cell (p := ⟨w.heap.size + 1, 1, none⟩) hlx).trans xu1, (HB4.out.cell (p := ⟨w.heap.size + 1, 2, none⟩) hlx).trans xu2⟩ (fun hH10 => ?_)
            clear hK K
            clear hH9
            refine wpAnyH_ready (rs := [11]) (by kernel_rfl) (by simp) ?_
            refine AllReadyH.cons (o := { dst := some 34, op := Go.Op.call { callee := Go.Callee.builtin Go.Builtin.append, args := #[Go.Operand.tmp 26, Go.Operand.tmp 33], argTypes := #[32, 32] }, type := 32, pos := "ref.go:96", after := #[{ on := 3, ground := Go.Ground.data }, { on := 10, ground := Go.Ground.data }, { on := 3, ground := Go.Ground.chain }], guard := none }) rfl (fun K hK => ?_) ?_
            · skip
              refine step_one rfl (.tmp 26) (.tmp 33) rfl U0.heap.size g26 n cap26 xs rfl O26_4.out U3.heap.size 1 [.int .i64 (N : Int), .int .i64 k, .int .i64 (l : Int), .int .i64 p, .slice (some ⟨U1.heap.size, 0, none⟩) l l] rfl OB_4.out rfl (one_cells _ _ _ _ _) (by omega) HB4.out.size ?_
              intro g34 cap34 U5 O34 G34
              have HB5 := Lib.hid (below_row HB4.out HB4.out.size G34 (owns_ge O26_4.out))
              have MK_5 := Lib.hid (show Lies U5 U1.heap.size 3 (noughts l) from lies_grown MK_4.out O26_4.out (by decide) G34)
              have FIN := Lib.hid (place_owned OWN.out HB5.out O34 MK_5.out hbU (by omega) HN.out hg).1
              have OFF := Lib.hid (place_owned OWN.out HB5.out O34 MK_5.out hbU (by omega) HN.out hg).2
              clear O34 G34
              clear HB4 MK_4 O26_4 OB_4
              clear MK_5
              have hb5 : U5.cell? ⟨w.heap.size, 1, none⟩ = some (.slice A n c) := (HB5.out.cell (p := ⟨w.heap.size, 1, none⟩) hlh).trans yu1
              have hf5 : U5.frozen? ⟨w.heap.size, 1, none⟩ = false := (HB5.out.frozen (p := ⟨w.heap.size, 1, none⟩) hlh).trans yf1
              refine hK.out _ _ ⟨(HB5.out.cell (p := ⟨w.heap.size + 1, 0, none⟩) hlx).trans xu0, (HB5.out.cell (p := ⟨w.heap.size + 1, 1, none⟩) hlx).trans xu1, (HB5.out.cell (p := ⟨w.heap.size + 1, 2, none⟩) hlx).trans xu2⟩ (fun hH11 => ?_)
              clear hK K
              clear hH10
              refine wpAnyH_take (i := 12) (oi := { dst := some 35, op := Go.Op.fieldAddr 34 (Go.Operand.tmp 2) 1, type := 0, pos := "ref.go:96", after := #[{ on := 0, ground := Go.Ground.phase }, { on := 1, ground := Go.Ground.phase }, { on := 2, ground := Go.Ground.phase }, { on := 3, ground := Go.Ground.phase }, { on := 4, ground := Go.Ground.phase }, { on := 5, ground := Go.Ground.phase }, { on := 6, ground := Go.Ground.phase }, { on := 7, ground := Go.Ground.phase }, { on := 8, ground := Go.Ground.phase }, { on := 9, ground := Go.Ground.phase }, { on := 10, ground := Go.Ground.phase }, { on := 11, ground := Go.Ground.phase }], guard := none }) (v := ?_) rfl (by kernel_rfl) (by kernel_rfl) (by kernel_rfl) (fun _ _ _ h => h) (Or.inl ⟨by rfl, ?_⟩) hH11 ?_
              rotate_left
              · (intro w hSw; (try dsimp only at hSw); go_simp; (try with_reducible rfl))
              (try simp only [Act.put, List.setIfInBounds_toArray, List.set_cons_zero, List.set_cons_succ])
              refine wpAnyH_ready (rs := [13]) (by kernel_rfl) (by simp) ?_
              refine AllReadyH.cons (o := { dst := none, op := Go.Op.store 32 (Go.Operand.tmp 35) (Go.Operand.tmp 34), type := 0, pos := "ref.go:96", after := #[{ on := 12, ground := Go.Ground.data }, { on := 11, ground := Go.Ground.data }, { on := 11, ground := Go.Ground.chain }, { on := 0, ground := Go.Ground.phase }, { on := 1, ground := Go.Ground.phase }, { on := 2, ground := Go.Ground.phase }, { on := 3, ground := Go.Ground.phase }, { on := 4, ground := Go.Ground.phase }, { on := 5, ground := Go.Ground.phase }, { on := 6, ground := Go.Ground.phase }, { on := 7, ground := Go.Ground.phase }, { on := 8, ground := Go.Ground.phase }, { on := 9, ground := Go.Ground.phase }, { on := 10, ground := Go.Ground.phase }, { on := 11, ground := Go.Ground.phase }], guard := none }) rfl (fun K hK => ?_) ?_
              · skip
                go_simp
                refine hK.out _ _ ⟨(World.cell?_setCell_far _ _ _ _ (by simp)).trans ((HB5.out.cell (p := ⟨w.heap.size + 1, 0, none⟩) hlx).trans xu0), (World.cell?_setCell_far _ _ _ _ (by simp)).trans ((HB5.out.cell (p := ⟨w.heap.size + 1, 1, none⟩) hlx).trans xu1), (World.cell?_setCell_far _ _ _ _ (by simp)).trans ((HB5.out.cell (p := ⟨w.heap.size + 1, 2, none⟩) hlx).trans xu2)⟩ (fun hH13 => ?_)
                clear hK K
                clear hH11
                refine wpAnyH_done (by kernel_rfl) ?_ _
                have Lh9 := (HLh.out.below HB5.out HLh.out.lt).set 1 (.slice (some ⟨g34, 0, none⟩) (n + 1) cap34)
                have Lr9 := (HLr.out.below HB5.out HLr.out.lt).far (p := ⟨w.heap.size, 1, none⟩) (by simp; omega) (.slice (some ⟨g34, 0, none⟩) (n + 1) cap34)
                have FIN9 := Lib.hid (Owned.far FIN.out (HLh.out.below HB5.out HLh.out.lt) (by decide) (by decide) 1 (.slice (some ⟨g34, 0, none⟩) (n + 1) cap34))
                have B9 := Lib.hid ((on B0.out B0.out.size HB5.out).setCell (p := ⟨w.heap.size, 1, none⟩) (by simp) (.slice (some ⟨g34, 0, none⟩) (n + 1) cap34))
                clear hb5 hf5
                refine named2 (fun V hV => ?_)
                rw [← hV] at Lh9 Lr9 FIN9 B9
                clear hV
                have a0 : V.cell? ⟨w.heap.size, 0, none⟩ = some (.int .i64 (Z : Int)) := Lh9.cell 0
                have a1 : V.cell? ⟨w.heap.size, 1, none⟩ = some (.slice (some ⟨g34, 0, none⟩) (n + 1) cap34) := Lh9.cell 1
                have c0 : V.cell? ⟨w.heap.size + 1 + 1, 0, none⟩ = some (.int .i64 0) := Lr9.cell 0
                have c1 : V.cell? ⟨w.heap.size + 1 + 1, 1, none⟩ = some (.slice none 0 0) := Lr9.cell 1
                have c2 := Lr9.frozen 0
                have c3 := Lr9.frozen 1
                have c4 := Lr9.lt
                have HLr9 := Lib.hid Lr9
                clear Lh9 Lr9
                go_wp2
                exact bodyPost_ret (v := .tuple #[.agg #[.int .i64 (Z : Int), .slice (some ⟨g34, 0, none⟩) (n + 1) cap34], .int .i64 (N : Int), .int .i64 0]) (by simp [results, Tryz.results41, go_sem, a0, a1, c0, c1, c2, c3, c4]) rfl ⟨⟨_, _, _, rfl, Owned.far (Owned.far FIN9.out HLr9.out (by decide) (by decide) 0 _) (HLr9.out.set 0 _) (by decide) (by decide) 1 _, fun N0 h0 ho => OFF.out N0 (Nat.lt_of_lt_of_le h0 B0.out.size) ho⟩, by
                  have := B9.out
                  repeat (first | exact this | refine Below.setCell ?_ (by simp <;> omega) _)⟩
              exact AllReadyH.nil
            exact AllReadyH.nil
          exact AllReadyH.nil
        refine AllReadyH.cons (o := { dst := some 33, op := Go.Op.buildSlice 32 1 #[(0, Go.Operand.tmp 32)], type := 32, pos := "ref.go:96", after := #[{ on := 9, ground := Go.Ground.data }], guard := none }) rfl (fun K hK => ?_) ?_
        · skip
          go_simp
          refine named (fun U3 hU => ?_)
          have HB3 := Lib.hid (show Below U0.heap.size U0 U3 by rw [hU]; exact HB2.out.alloc HB2.out.size _)
          have hs3 : U2.heap.size < U3.heap.size := by rw [hU]; simp
          have O23_3 := Lib.hid (show U3.ownsRow U0.heap.size 66 5 (.slice (some ⟨U0.heap.size, 0, none⟩) 0 0) 0 [] by rw [hU]; exact owns_any O23_2.out (below_one _ _))
          have MK_3 := Lib.hid (show Lies U3 U1.heap.size 3 (noughts l) by rw [hU]; exact MK_2.out.alloc _)
          have OB_3 := Lib.hid (show Lies U3 U2.heap.size 66 [.int .i64 (N : Int), .int .i64 k, .int .i64 (l : Int), .int .i64 p, .slice (some ⟨U1.heap.size, 0, none⟩) l l] by rw [hU]; exact Lies.new U2 66 [.int .i64 (N : Int), .int .i64 k, .int .i64 (l : Int), .int .i64 p, .slice (some ⟨U1.heap.size, 0, none⟩) l l])
          clear hU
          clear HB2 O23_2 MK_2
          refine hK.out _ _ ⟨(HB3.out.cell (p := ⟨w.heap.size + 1, 0, none⟩) hlx).trans xu0, (HB3.out.cell (p := ⟨w.heap.size + 1, 1, none⟩) hlx).trans xu1, (HB3.out.cell (p := ⟨w.heap.size + 1, 2, none⟩) hlx).trans xu2⟩ (fun hH9 => ?_)
          clear hK K
          clear hH8
          refine wpAnyH_ready (rs := [3]) (by kernel_rfl) (by simp) ?_
          refine AllReadyH.cons (o := { dst := some 26, op := Go.Op.call { callee := Go.Callee.builtin Go.Builtin.append, args := #[Go.Operand.tmp 23, Go.Operand.tmp 25], argTypes := #[32, 32] }, type := 32, pos := "ref.go:96", after := #[{ on := 0, ground := Go.Ground.data }, { on := 2, ground := Go.Ground.data }], guard := none }) rfl (fun K hK => ?_) ?_
          · skip
            refine step_list rfl (.tmp 23) (.tmp 25) rfl U0.heap.size U0.heap.size 0 rfl O23_3.out base A n c xs rfl (owns_any OWN.out.own HB3.out) ONE.out (by omega) HB3.out.size ?_
            intro g26 cap26 U4 O26 G26
            have HB4 := Lib.hid (below_row HB3.out HB3.out.size G26 (by omega))
            have hs4 : U3.heap.size ≤ U4.heap.size := G26.size
            have MK_4 := Lib.hid (show Lies U4 U1.heap.size 3 (noughts l) from lies_grown' MK_3.out (by omega) G26)
            have OB_4 := Lib.hid (show Lies U4 U2.heap.size 66 [.int .i64 (N : Int), .int .i64 k, .int .i64 (l : Int), .int .i64 p, .slice (some ⟨U1.heap.size, 0, none⟩) l l] from lies_grown' OB_3.out (by omega) G26)
            have O26_4 := Lib.hid O26
            clear O26 G26
            clear HB3 O23_3 MK_3 OB_3
            (try clear hb3)
            refine hK.out _ _ ⟨(HB4.out.cell (p := ⟨w.heap.size + 1, 0, none⟩) hlx).trans xu0, (HB4.out.cell (p := ⟨w.heap.size + 1, 1, none⟩) hlx).trans xu1, (HB4.out.cell (p := ⟨w.heap.size + 1, 2, none⟩) hlx).trans xu2⟩ (fun hH10 => ?_)
            clear hK K
            clear hH9
            refine wpAnyH_ready (rs := [11]) (by kernel_rfl) (by simp) ?_
            refine AllReadyH.cons (o := { dst := some 34, op := Go.Op.call { callee := Go.Callee.builtin Go.Builtin.append, args := #[Go.Operand.tmp 26, Go.Operand.tmp 33], argTypes := #[32, 32] }, type := 32, pos := "ref.go:96", after := #[{ on := 3, ground := Go.Ground.data }, { on := 10, ground := Go.Ground.data }, { on := 3, ground := Go.Ground.chain }], guard := none }) rfl (fun K hK => ?_) ?_
            · skip
              refine step_one rfl (.tmp 26) (.tmp 33) rfl U0.heap.size g26 n cap26 xs rfl O26_4.out U2.heap.size 1 [.int .i64 (N : Int), .int .i64 k, .int .i64 (l : Int), .int .i64 p, .slice (some ⟨U1.heap.size, 0, none⟩) l l] rfl OB_4.out rfl (one_cells _ _ _ _ _) (by omega) HB4.out.size ?_
              intro g34 cap34 U5 O34 G34
              have HB5 := Lib.hid (below_row HB4.out HB4.out.size G34 (owns_ge O26_4.out))
              have MK_5 := Lib.hid (show Lies U5 U1.heap.size 3 (noughts l) from lies_grown MK_4.out O26_4.out (by decide) G34)
              have FIN := Lib.hid (place_owned OWN.out HB5.out O34 MK_5.out hbU (by omega) HN.out hg).1
              have OFF := Lib.hid (place_owned OWN.out HB5.out O34 MK_5.out hbU (by omega) HN.out hg).2
              clear O34 G34
              clear HB4 MK_4 OB_4 O26_4
              clear MK_5
              have hb5 : U5.cell? ⟨w.heap.size, 1, none⟩ = some (.slice A n c) := (HB5.out.cell (p := ⟨w.heap.size, 1, none⟩) hlh).trans yu1
              have hf5 : U5.frozen? ⟨w.heap.size, 1, none⟩ = false := (HB5.out.frozen (p := ⟨w.heap.size, 1, none⟩) hlh).trans yf1
              refine hK.out _ _ ⟨(HB5.out.cell (p := ⟨w.heap.size + 1, 0, none⟩) hlx).trans xu0, (HB5.out.cell (p := ⟨w.heap.size + 1, 1, none⟩) hlx).trans xu1, (HB5.out.cell (p := ⟨w.heap.size + 1, 2, none⟩) hlx).trans xu2⟩ (fun hH11 => ?_)
              clear hK K
              clear hH10
              refine wpAnyH_take (i := 12) (oi := { dst := some 35, op := Go.Op.fieldAddr 34 (Go.Operand.tmp 2) 1, type := 0, pos := "ref.go:96", after := #[{ on := 0, ground := Go.Ground.phase }, { on := 1, ground := Go.Ground.phase }, { on := 2, ground := Go.Ground.phase }, { on := 3, ground := Go.Ground.phase }, { on := 4, ground := Go.Ground.phase }, { on := 5, ground := Go.Ground.phase }, { on := 6, ground := Go.Ground.phase }, { on := 7, ground := Go.Ground.phase }, { on := 8, ground := Go.Ground.phase }, { on := 9, ground := Go.Ground.phase }, { on := 10, ground := Go.Ground.phase }, { on := 11, ground := Go.Ground.phase }], guard := none }) (v := ?_) rfl (by kernel_rfl) (by kernel_rfl) (by kernel_rfl) (fun _ _ _ h => h) (Or.inl ⟨by rfl, ?_⟩) hH11 ?_
              rotate_left
              · (intro w hSw; (try dsimp only at hSw); go_simp; (try with_reducible rfl))
              (try simp only [Act.put, List.setIfInBounds_toArray, List.set_cons_zero, List.set_cons_succ])
              refine wpAnyH_ready (rs := [13]) (by kernel_rfl) (by simp) ?_
              refine AllReadyH.cons (o := { dst := none, op := Go.Op.store 32 (Go.Operand.tmp 35) (Go.Operand.tmp 34), type := 0, pos := "ref.go:96", after := #[{ on := 12, ground := Go.Ground.data }, { on := 11, ground := Go.Ground.data }, { on := 11, ground := Go.Ground.chain }, { on := 0, ground := Go.Ground.phase }, { on := 1, ground := Go.Ground.phase }, { on := 2, ground := Go.Ground.phase }, { on := 3, ground := Go.Ground.phase }, { on := 4, ground := Go.Ground.phase }, { on := 5, ground := Go.Ground.phase }, { on := 6, ground := Go.Ground.phase }, { on := 7, ground := Go.Ground.phase }, { on := 8, ground := Go.Ground.phase }, { on := 9, ground := Go.Ground.phase }, { on := 10, ground := Go.Ground.phase }, { on := 11, ground := Go.Ground.phase }], guard := none }) rfl (fun K hK => ?_) ?_
              · skip
                go_simp
                refine hK.out _ _ ⟨(World.cell?_setCell_far _ _ _ _ (by simp)).trans ((HB5.out.cell (p := ⟨w.heap.size + 1, 0, none⟩) hlx).trans xu0), (World.cell?_setCell_far _ _ _ _ (by simp)).trans ((HB5.out.cell (p := ⟨w.heap.size + 1, 1, none⟩) hlx).trans xu1), (World.cell?_setCell_far _ _ _ _ (by simp)).trans ((HB5.out.cell (p := ⟨w.heap.size + 1, 2, none⟩) hlx).trans xu2)⟩ (fun hH13 => ?_)
                clear hK K
                clear hH11
                refine wpAnyH_done (by kernel_rfl) ?_ _
                have Lh9 := (HLh.out.below HB5.out HLh.out.lt).set 1 (.slice (some ⟨g34, 0, none⟩) (n + 1) cap34)
                have Lr9 := (HLr.out.below HB5.out HLr.out.lt).far (p := ⟨w.heap.size, 1, none⟩) (by simp; omega) (.slice (some ⟨g34, 0, none⟩) (n + 1) cap34)
                have FIN9 := Lib.hid (Owned.far FIN.out (HLh.out.below HB5.out HLh.out.lt) (by decide) (by decide) 1 (.slice (some ⟨g34, 0, none⟩) (n + 1) cap34))
                have B9 := Lib.hid ((on B0.out B0.out.size HB5.out).setCell (p := ⟨w.heap.size, 1, none⟩) (by simp) (.slice (some ⟨g34, 0, none⟩) (n + 1) cap34))
                clear hb5 hf5
                refine named2 (fun V hV => ?_)
                rw [← hV] at Lh9 Lr9 FIN9 B9
                clear hV
                have a0 : V.cell? ⟨w.heap.size, 0, none⟩ = some (.int .i64 (Z : Int)) := Lh9.cell 0
                have a1 : V.cell? ⟨w.heap.size, 1, none⟩ = some (.slice (some ⟨g34, 0, none⟩) (n + 1) cap34) := Lh9.cell 1
                have c0 : V.cell? ⟨w.heap.size + 1 + 1, 0, none⟩ = some (.int .i64 0) := Lr9.cell 0
                have c1 : V.cell? ⟨w.heap.size + 1 + 1, 1, none⟩ = some (.slice none 0 0) := Lr9.cell 1
                have c2 := Lr9.frozen 0
                have c3 := Lr9.frozen 1
                have c4 := Lr9.lt
                have HLr9 := Lib.hid Lr9
                clear Lh9 Lr9
                go_wp2
                exact bodyPost_ret (v := .tuple #[.agg #[.int .i64 (Z : Int), .slice (some ⟨g34, 0, none⟩) (n + 1) cap34], .int .i64 (N : Int), .int .i64 0]) (by simp [results, Tryz.results41, go_sem, a0, a1, c0, c1, c2, c3, c4]) rfl ⟨⟨_, _, _, rfl, Owned.far (Owned.far FIN9.out HLr9.out (by decide) (by decide) 0 _) (HLr9.out.set 0 _) (by decide) (by decide) 1 _, fun N0 h0 ho => OFF.out N0 (Nat.lt_of_lt_of_le h0 B0.out.size) ho⟩, by
                  have := B9.out
                  repeat (first | exact this | refine Below.setCell ?_ (by simp <;> omega) _)⟩
              exact AllReadyH.nil
            exact AllReadyH.nil
          exact AllReadyH.nil
        exact AllReadyH.nil
      refine AllReadyH.cons (o := { dst := some 33, op := Go.Op.buildSlice 32 1 #[(0, Go.Operand.tmp 32)], type := 32, pos := "ref.go:96", after := #[{ on := 9, ground := Go.Ground.data }], guard := none }) rfl (fun K hK => ?_) ?_
      · skip
        go_simp
        refine named (fun U3 hU => ?_)
        have HB3 := Lib.hid (show Below U0.heap.size U0 U3 by rw [hU]; exact HB2.out.alloc HB2.out.size _)
        have hs3 : U2.heap.size < U3.heap.size := by rw [hU]; simp
        have O23_3 := Lib.hid (show U3.ownsRow U0.heap.size 66 5 (.slice (some ⟨U0.heap.size, 0, none⟩) 0 0) 0 [] by rw [hU]; exact owns_any O23_2.out (below_one _ _))
        have MK_3 := Lib.hid (show Lies U3 U1.heap.size 3 (noughts l) by rw [hU]; exact MK_2.out.alloc _)
        have OB_3 := Lib.hid (show Lies U3 U2.heap.size 66 [.int .i64 (N : Int), .int .i64 k, .int .i64 (l : Int), .int .i64 p, .slice (some ⟨U1.heap.size, 0, none⟩) l l] by rw [hU]; exact Lies.new U2 66 [.int .i64 (N : Int), .int .i64 k, .int .i64 (l : Int), .int .i64 p, .slice (some ⟨U1.heap.size, 0, none⟩) l l])
        clear hU
        clear HB2 O23_2 MK_2
        have hb3 : U3.cell? ⟨w.heap.size, 1, none⟩ = some (.slice A n c) := (HB3.out.cell (p := ⟨w.heap.size, 1, none⟩) hlh).trans yu1
        clear hb2
        refine hK.out _ _ ⟨(HB3.out.cell (p := ⟨w.heap.size + 1, 0, none⟩) hlx).trans xu0, (HB3.out.cell (p := ⟨w.heap.size + 1, 1, none⟩) hlx).trans xu1, (HB3.out.cell (p := ⟨w.heap.size + 1, 2, none⟩) hlx).trans xu2⟩ (fun hH8 => ?_)
        clear hK K
        clear hH6
        refine wpAnyH_ready (rs := [2]) (by kernel_rfl) (by simp) ?_
        refine AllReadyH.cons (o := { dst := some 25, op := Go.Op.load 32 (Go.Operand.tmp 24), type := 32, pos := "ref.go:96", after := #[{ on := 1, ground := Go.Ground.data }], guard := none }) rfl (fun K hK => ?_) ?_
        · skip
          go_simp
          refine hK.out _ _ ⟨(HB3.out.cell (p := ⟨w.heap.size + 1, 0, none⟩) hlx).trans xu0, (HB3.out.cell (p := ⟨w.heap.size + 1, 1, none⟩) hlx).trans xu1, (HB3.out.cell (p := ⟨w.heap.size + 1, 2, none⟩) hlx).trans xu2⟩ (fun hH9 => ?_)
          clear hK K
          clear hH8
          refine wpAnyH_ready (rs := [3]) (by kernel_rfl) (by simp) ?_
          refine AllReadyH.cons (o := { dst := some 26, op := Go.Op.call { callee := Go.Callee.builtin Go.Builtin.append, args := #[Go.Operand.tmp 23, Go.Operand.tmp 25], argTypes := #[32, 32] }, type := 32, pos := "ref.go:96", after := #[{ on := 0, ground := Go.Ground.data }, { on := 2, ground := Go.Ground.data }], guard := none }) rfl (fun K hK => ?_) ?_
          · skip
            refine step_list rfl (.tmp 23) (.tmp 25) rfl U0.heap.size U0.heap.size 0 rfl O23_3.out base A n c xs rfl (owns_any OWN.out.own HB3.out) ONE.out (by omega) HB3.out.size ?_
            intro g26 cap26 U4 O26 G26
            have HB4 := Lib.hid (below_row HB3.out HB3.out.size G26 (by omega))
            have hs4 : U3.heap.size ≤ U4.heap.size := G26.size
            have MK_4 := Lib.hid (show Lies U4 U1.heap.size 3 (noughts l) from lies_grown' MK_3.out (by omega) G26)
            have OB_4 := Lib.hid (show Lies U4 U2.heap.size 66 [.int .i64 (N : Int), .int .i64 k, .int .i64 (l : Int), .int .i64 p, .slice (some ⟨U1.heap.size, 0, none⟩) l l] from lies_grown' OB_3.out (by omega) G26)
            have O26_4 := Lib.hid O26
            clear O26 G26
            clear HB3 O23_3 MK_3 OB_3
            (try clear hb3)
            refine hK.out _ _ ⟨(HB4.out.cell (p := ⟨w.heap.size + 1, 0, none⟩) hlx).trans xu0, (HB4.out.cell (p := ⟨w.heap.size + 1, 1, none⟩) hlx).trans xu1, (HB4.out.cell (p := ⟨w.heap.size + 1, 2, none⟩) hlx).trans xu2⟩ (fun hH10 => ?_)
            clear hK K
            clear hH9
            refine wpAnyH_ready (rs := [11]) (by kernel_rfl) (by simp) ?_
            refine AllReadyH.cons (o := { dst := some 34, op := Go.Op.call { callee := Go.Callee.builtin Go.Builtin.append, args := #[Go.Operand.tmp 26, Go.Operand.tmp 33], argTypes := #[32, 32] }, type := 32, pos := "ref.go:96", after := #[{ on := 3, ground := Go.Ground.data }, { on := 10, ground := Go.Ground.data }, { on := 3, ground := Go.Ground.chain }], guard := none }) rfl (fun K hK => ?_) ?_
            · skip
              refine step_one rfl (.tmp 26) (.tmp 33) rfl U0.heap.size g26 n cap26 xs rfl O26_4.out U2.heap.size 1 [.int .i64 (N : Int), .int .i64 k, .int .i64 (l : Int), .int .i64 p, .slice (some ⟨U1.heap.size, 0, none⟩) l l] rfl OB_4.out rfl (one_cells _ _ _ _ _) (by omega) HB4.out.size ?_
              intro g34 cap34 U5 O34 G34
              have HB5 := Lib.hid (below_row HB4.out HB4.out.size G34 (owns_ge O26_4.out))
              have MK_5 := Lib.hid (show Lies U5 U1.heap.size 3 (noughts l) from lies_grown MK_4.out O26_4.out (by decide) G34)
              have FIN := Lib.hid (place_owned OWN.out HB5.out O34 MK_5.out hbU (by omega) HN.out hg).1
              have OFF := Lib.hid (place_owned OWN.out HB5.out O34 MK_5.out hbU (by omega) HN.out hg).2
              clear O34 G34
              clear HB4 MK_4 OB_4 O26_4
              clear MK_5
              have hb5 : U5.cell? ⟨w.heap.size, 1, none⟩ = some (.slice A n c) := (HB5.out.cell (p := ⟨w.heap.size, 1, none⟩) hlh).trans yu1
              have hf5 : U5.frozen? ⟨w.heap.size, 1, none⟩ = false := (HB5.out.frozen (p := ⟨w.heap.size, 1, none⟩) hlh).trans yf1
              refine hK.out _ _ ⟨(HB5.out.cell (p := ⟨w.heap.size + 1, 0, none⟩) hlx).trans xu0, (HB5.out.cell (p := ⟨w.heap.size + 1, 1, none⟩) hlx).trans xu1, (HB5.out.cell (p := ⟨w.heap.size + 1, 2, none⟩) hlx).trans xu2⟩ (fun hH11 => ?_)
              clear hK K
              clear hH10
              refine wpAnyH_take (i := 12) (oi := { dst := some 35, op := Go.Op.fieldAddr 34 (Go.Operand.tmp 2) 1, type := 0, pos := "ref.go:96", after := #[{ on := 0, ground := Go.Ground.phase }, { on := 1, ground := Go.Ground.phase }, { on := 2, ground := Go.Ground.phase }, { on := 3, ground := Go.Ground.phase }, { on := 4, ground := Go.Ground.phase }, { on := 5, ground := Go.Ground.phase }, { on := 6, ground := Go.Ground.phase }, { on := 7, ground := Go.Ground.phase }, { on := 8, ground := Go.Ground.phase }, { on := 9, ground := Go.Ground.phase }, { on := 10, ground := Go.Ground.phase }, { on := 11, ground := Go.Ground.phase }], guard := none }) (v := ?_) rfl (by kernel_rfl) (by kernel_rfl) (by kernel_rfl) (fun _ _ _ h => h) (Or.inl ⟨by rfl, ?_⟩) hH11 ?_
              rotate_left
              · (intro w hSw; (try dsimp only at hSw); go_simp; (try with_reducible rfl))
              (try simp only [Act.put, List.setIfInBounds_toArray, List.set_cons_zero, List.set_cons_succ])
              refine wpAnyH_ready (rs := [13]) (by kernel_rfl) (by simp) ?_
              refine AllReadyH.cons (o := { dst := none, op := Go.Op.store 32 (Go.Operand.tmp 35) (Go.Operand.tmp 34), type := 0, pos := "ref.go:96", after := #[{ on := 12, ground := Go.Ground.data }, { on := 11, ground := Go.Ground.data }, { on := 11, ground := Go.Ground.chain }, { on := 0, ground := Go.Ground.phase }, { on := 1, ground := Go.Ground.phase }, { on := 2, ground := Go.Ground.phase }, { on := 3, ground := Go.Ground.phase }, { on := 4, ground := Go.Ground.phase }, { on := 5, ground := Go.Ground.phase }, { on := 6, ground := Go.Ground.phase }, { on := 7, ground := Go.Ground.phase }, { on := 8, ground := Go.Ground.phase }, { on := 9, ground := Go.Ground.phase }, { on := 10, ground := Go.Ground.phase }, { on := 11, ground := Go.Ground.phase }], guard := none }) rfl (fun K hK => ?_) ?_
              · skip
                go_simp
                refine hK.out _ _ ⟨(World.cell?_setCell_far _ _ _ _ (by simp)).trans ((HB5.out.cell (p := ⟨w.heap.size + 1, 0, none⟩) hlx).trans xu0), (World.cell?_setCell_far _ _ _ _ (by simp)).trans ((HB5.out.cell (p := ⟨w.heap.size + 1, 1, none⟩) hlx).trans xu1), (World.cell?_setCell_far _ _ _ _ (by simp)).trans ((HB5.out.cell (p := ⟨w.heap.size + 1, 2, none⟩) hlx).trans xu2)⟩ (fun hH13 => ?_)
                clear hK K
                clear hH11
                refine wpAnyH_done (by kernel_rfl) ?_ _
                have Lh9 := (HLh.out.below HB5.out HLh.out.lt).set 1 (.slice (some ⟨g34, 0, none⟩) (n + 1) cap34)
                have Lr9 := (HLr.out.below HB5.out HLr.out.lt).far (p := ⟨w.heap.size, 1, none⟩) (by simp; omega) (.slice (some ⟨g34, 0, none⟩) (n + 1) cap34)
                have FIN9 := Lib.hid (Owned.far FIN.out (HLh.out.below HB5.out HLh.out.lt) (by decide) (by decide) 1 (.slice (some ⟨g34, 0, none⟩) (n + 1) cap34))
                have B9 := Lib.hid ((on B0.out B0.out.size HB5.out).setCell (p := ⟨w.heap.size, 1, none⟩) (by simp) (.slice (some ⟨g34, 0, none⟩) (n + 1) cap34))
                clear hb5 hf5
                refine named2 (fun V hV => ?_)
                rw [← hV] at Lh9 Lr9 FIN9 B9
                clear hV
                have a0 : V.cell? ⟨w.heap.size, 0, none⟩ = some (.int .i64 (Z : Int)) := Lh9.cell 0
                have a1 : V.cell? ⟨w.heap.size, 1, none⟩ = some (.slice (some ⟨g34, 0, none⟩) (n + 1) cap34) := Lh9.cell 1
                have c0 : V.cell? ⟨w.heap.size + 1 + 1, 0, none⟩ = some (.int .i64 0) := Lr9.cell 0
                have c1 : V.cell? ⟨w.heap.size + 1 + 1, 1, none⟩ = some (.slice none 0 0) := Lr9.cell 1
                have c2 := Lr9.frozen 0
                have c3 := Lr9.frozen 1
                have c4 := Lr9.lt
                have HLr9 := Lib.hid Lr9
                clear Lh9 Lr9
                go_wp2
                exact bodyPost_ret (v := .tuple #[.agg #[.int .i64 (Z : Int), .slice (some ⟨g34, 0, none⟩) (n + 1) cap34], .int .i64 (N : Int), .int .i64 0]) (by simp [results, Tryz.results41, go_sem, a0, a1, c0, c1, c2, c3, c4]) rfl ⟨⟨_, _, _, rfl, Owned.far (Owned.far FIN9.out HLr9.out (by decide) (by decide) 0 _) (HLr9.out.set 0 _) (by decide) (by decide) 1 _, fun N0 h0 ho => OFF.out N0 (Nat.lt_of_lt_of_le h0 B0.out.size) ho⟩, by
                  have := B9.out
                  repeat (first | exact this | refine Below.setCell ?_ (by simp <;> omega) _)⟩
              exact AllReadyH.nil
            exact AllReadyH.nil
          exact AllReadyH.nil
        exact AllReadyH.nil
      exact AllReadyH.nil
    exact AllReadyH.nil
  refine AllReadyH.cons (o := { dst := some 25, op := Go.Op.load 32 (Go.Operand.tmp 24), type := 32, pos := "ref.go:96", after := #[{ on := 1, ground := Go.Ground.data }], guard := none }) rfl (fun K hK => ?_) ?_
  · skip
    go_simp
    refine hK.out _ _ ⟨(HB0.out.cell (p := ⟨w.heap.size + 1, 0, none⟩) hlx).trans xu0, (HB0.out.cell (p := ⟨w.heap.size + 1, 1, none⟩) hlx).trans xu1, (HB0.out.cell (p := ⟨w.heap.size + 1, 2, none⟩) hlx).trans xu2⟩ (fun hH5 => ?_)
    clear hK K
    refine wpAnyH_ready (rs := [0, 8]) (by kernel_rfl) (by simp) ?_
    refine AllReadyH.cons (o := { dst := some 23, op := Go.Op.buildSlice 32 0 #[], type := 32, pos := "ref.go:96", after := #[], guard := none }) rfl (fun K hK => ?_) ?_
    · skip
      go_simp
      refine named (fun U1 hU => ?_)
      have HB1 := Lib.hid (show Below U0.heap.size U0 U1 by rw [hU]; exact HB0.out.alloc HB0.out.size _)
      have hs1 : U0.heap.size < U1.heap.size := by rw [hU]; simp
      have O23_1 := Lib.hid (show U1.ownsRow U0.heap.size 66 5 (.slice (some ⟨U0.heap.size, 0, none⟩) 0 0) 0 [] by rw [hU]; exact own_new53 U0 HB0.out.size)
      clear hU
      clear HB0
      refine hK.out _ _ ⟨(HB1.out.cell (p := ⟨w.heap.size + 1, 0, none⟩) hlx).trans xu0, (HB1.out.cell (p := ⟨w.heap.size + 1, 1, none⟩) hlx).trans xu1, (HB1.out.cell (p := ⟨w.heap.size + 1, 2, none⟩) hlx).trans xu2⟩ (fun hH6 => ?_)
      clear hK K
      clear hH5
      refine wpAnyH_ready (rs := [3, 8]) (by kernel_rfl) (by simp) ?_
      refine AllReadyH.cons (o := { dst := some 26, op := Go.Op.call { callee := Go.Callee.builtin Go.Builtin.append, args := #[Go.Operand.tmp 23, Go.Operand.tmp 25], argTypes := #[32, 32] }, type := 32, pos := "ref.go:96", after := #[{ on := 0, ground := Go.Ground.data }, { on := 2, ground := Go.Ground.data }], guard := none }) rfl (fun K hK => ?_) ?_
      · skip
        refine step_list rfl (.tmp 23) (.tmp 25) rfl U0.heap.size U0.heap.size 0 rfl O23_1.out base A n c xs rfl (owns_any OWN.out.own HB1.out) ONE.out (by omega) HB1.out.size ?_
        intro g26 cap26 U2 O26 G26
        have HB2 := Lib.hid (below_row HB1.out HB1.out.size G26 (by omega))
        have hs2 : U1.heap.size ≤ U2.heap.size := G26.size
        have O26_2 := Lib.hid O26
        clear O26 G26
        clear HB1 O23_1
        (try clear hb1)
        refine hK.out _ _ ⟨(HB2.out.cell (p := ⟨w.heap.size + 1, 0, none⟩) hlx).trans xu0, (HB2.out.cell (p := ⟨w.heap.size + 1, 1, none⟩) hlx).trans xu1, (HB2.out.cell (p := ⟨w.heap.size + 1, 2, none⟩) hlx).trans xu2⟩ (fun hH7 => ?_)
        clear hK K
        clear hH6
        refine wpAnyH_ready (rs := [8]) (by kernel_rfl) (by simp) ?_
        refine AllReadyH.cons (o := { dst := some 31, op := Go.Op.makeSlice 30 (Go.Operand.tmp 30) (Go.Operand.tmp 30), type := 30, pos := "ref.go:96", after := #[{ on := 7, ground := Go.Ground.data }, { on := 7, ground := Go.Ground.data }], guard := none }) rfl (fun K hK => ?_) ?_
        · skip
          go_simp
          refine named (fun U3 hU => ?_)
          have HB3 := Lib.hid (show Below U0.heap.size U0 U3 by rw [hU]; exact HB2.out.alloc HB2.out.size _)
          have hs3 : U2.heap.size < U3.heap.size := by rw [hU]; simp
          have O26_3 := Lib.hid (show U3.ownsRow U0.heap.size 66 5 (.slice (some ⟨g26, 0, none⟩) n cap26) n xs by rw [hU]; exact owns_any O26_2.out (below_one _ _))
          have MK_3 := Lib.hid (show Lies U3 U2.heap.size 3 (noughts l) by rw [hU]; exact Lies.new U2 3 (noughts l))
          clear hU
          clear HB2 O26_2
          refine hK.out _ _ ⟨(HB3.out.cell (p := ⟨w.heap.size + 1, 0, none⟩) hlx).trans xu0, (HB3.out.cell (p := ⟨w.heap.size + 1, 1, none⟩) hlx).trans xu1, (HB3.out.cell (p := ⟨w.heap.size + 1, 2, none⟩) hlx).trans xu2⟩ (fun hH8 => ?_)
          clear hK K
          clear hH7
          refine wpAnyH_take (i := 9) (oi := { dst := some 32, op := Go.Op.build 66 #[(0, Go.Operand.tmp 27), (1, Go.Operand.tmp 28), (2, Go.Operand.tmp 31)], type := 66, pos := "ref.go:96", after := #[{ on := 4, ground := Go.Ground.data }, { on := 5, ground := Go.Ground.data }, { on := 8, ground := Go.Ground.data }], guard := none }) (v := ?_) rfl (by kernel_rfl) (by kernel_rfl) (by kernel_rfl) (fun _ _ _ h => h) (Or.inl ⟨by rfl, ?_⟩) hH8 ?_
          rotate_left
          · (intro w hSw; (try dsimp only at hSw); go_simp; (try with_reducible rfl))
          (try simp only [Act.put, List.setIfInBounds_toArray, List.set_cons_zero, List.set_cons_succ])
          refine wpAnyH_ready (rs := [10]) (by kernel_rfl) (by simp) ?_
          refine AllReadyH.cons (o := { dst := some 33, op := Go.Op.buildSlice 32 1 #[(0, Go.Operand.tmp 32)], type := 32, pos := "ref.go:96", after := #[{ on := 9, ground := Go.Ground.data }], guard := none }) rfl (fun K hK => ?_) ?_
          · skip
            go_simp
            refine named (fun U4 hU => ?_)
            have HB4 := Lib.hid (show Below U0.heap.size U0 U4 by rw [hU]; exact HB3.out.alloc HB3.out.size _)
            have hs4 : U3.heap.size < U4.heap.size := by rw [hU]; simp
            have O26_4 := Lib.hid (show U4.ownsRow U0.heap.size 66 5 (.slice (some ⟨g26, 0, none⟩) n cap26) n xs by rw [hU]; exact owns_any O26_3.out (below_one _ _))
            have MK_4 := Lib.hid (show Lies U4 U2.heap.size 3 (noughts l) by rw [hU]; exact MK_3.out.alloc _)
            have OB_4 := Lib.hid (show Lies U4 U3.heap.size 66 [.int .i64 (N : Int), .int .i64 k, .int .i64 (l : Int), .int .i64 p, .slice (some ⟨U2.heap.size, 0, none⟩) l l] by rw [hU]; exact Lies.new U3 66 [.int .i64 (N : Int), .int .i64 k, .int .i64 (l : Int), .int .i64 p, .slice (some ⟨U2.heap.size, 0, none⟩) l l])
            clear hU
            clear HB3 O26_3 MK_3
            refine hK.out _ _ ⟨(HB4.out.cell (p := ⟨w.heap.size + 1, 0, none⟩) hlx).trans xu0, (HB4.out.cell (p := ⟨w.heap.size + 1, 1, none⟩) hlx).trans xu1, (HB4.out.cell (p := ⟨w.heap.size + 1, 2, none⟩) hlx).trans xu2⟩ (fun hH10 => ?_)
            clear hK K
            clear hH8
            refine wpAnyH_ready (rs := [11]) (by kernel_rfl) (by simp) ?_
            refine AllReadyH.cons (o := { dst := some 34, op := Go.Op.call { callee := Go.Callee.builtin Go.Builtin.append, args := #[Go.Operand.tmp 26, Go.Operand.tmp 33], argTypes := #[32, 32] }, type := 32, pos := "ref.go:96", after := #[{ on := 3, ground := Go.Ground.data }, { on := 10, ground := Go.Ground.data }, { on := 3, ground := Go.Ground.chain }], guard := none }) rfl (fun K hK => ?_) ?_
            · skip
              refine step_one rfl (.tmp 26) (.tmp 33) rfl U0.heap.size g26 n cap26 xs rfl O26_4.out U3.heap.size 1 [.int .i64 (N : Int), .int .i64 k, .int .i64 (l : Int), .int .i64 p, .slice (some ⟨U2.heap.size, 0, none⟩) l l] rfl OB_4.out rfl (one_cells _ _ _ _ _) (by omega) HB4.out.size ?_
              intro g34 cap34 U5 O34 G34
              have HB5 := Lib.hid (below_row HB4.out HB4.out.size G34 (owns_ge O26_4.out))
              have MK_5 := Lib.hid (show Lies U5 U2.heap.size 3 (noughts l) from lies_grown MK_4.out O26_4.out (by decide) G34)
              have FIN := Lib.hid (place_owned OWN.out HB5.out O34 MK_5.out hbU (by omega) HN.out hg).1
              have OFF := Lib.hid (place_owned OWN.out HB5.out O34 MK_5.out hbU (by omega) HN.out hg).2
              clear O34 G34
              clear HB4 O26_4 MK_4 OB_4
              clear MK_5
              have hb5 : U5.cell? ⟨w.heap.size, 1, none⟩ = some (.slice A n c) := (HB5.out.cell (p := ⟨w.heap.size, 1, none⟩) hlh).trans yu1
              have hf5 : U5.frozen? ⟨w.heap.size, 1, none⟩ = false := (HB5.out.frozen (p := ⟨w.heap.size, 1, none⟩) hlh).trans yf1
              refine hK.out _ _ ⟨(HB5.out.cell (p := ⟨w.heap.size + 1, 0, none⟩) hlx).trans xu0, (HB5.out.cell (p := ⟨w.heap.size + 1, 1, none⟩) hlx).trans xu1, (HB5.out.cell (p := ⟨w.heap.size + 1, 2, none⟩) hlx).trans xu2⟩ (fun hH11 => ?_)
              clear hK K
              clear hH10
              refine wpAnyH_take (i := 12) (oi := { dst := some 35, op := Go.Op.fieldAddr 34 (Go.Operand.tmp 2) 1, type := 0, pos := "ref.go:96", after := #[{ on := 0, ground := Go.Ground.phase }, { on := 1, ground := Go.Ground.phase }, { on := 2, ground := Go.Ground.phase }, { on := 3, ground := Go.Ground.phase }, { on := 4, ground := Go.Ground.phase }, { on := 5, ground := Go.Ground.phase }, { on := 6, ground := Go.Ground.phase }, { on := 7, ground := Go.Ground.phase }, { on := 8, ground := Go.Ground.phase }, { on := 9, ground := Go.Ground.phase }, { on := 10, ground := Go.Ground.phase }, { on := 11, ground := Go.Ground.phase }], guard := none }) (v := ?_) rfl (by kernel_rfl) (by kernel_rfl) (by kernel_rfl) (fun _ _ _ h => h) (Or.inl ⟨by rfl, ?_⟩) hH11 ?_
              rotate_left
              · (intro w hSw; (try dsimp only at hSw); go_simp; (try with_reducible rfl))
              (try simp only [Act.put, List.setIfInBounds_toArray, List.set_cons_zero, List.set_cons_succ])
              refine wpAnyH_ready (rs := [13]) (by kernel_rfl) (by simp) ?_
              refine AllReadyH.cons (o := { dst := none, op := Go.Op.store 32 (Go.Operand.tmp 35) (Go.Operand.tmp 34), type := 0, pos := "ref.go:96", after := #[{ on := 12, ground := Go.Ground.data }, { on := 11, ground := Go.Ground.data }, { on := 11, ground := Go.Ground.chain }, { on := 0, ground := Go.Ground.phase }, { on := 1, ground := Go.Ground.phase }, { on := 2, ground := Go.Ground.phase }, { on := 3, ground := Go.Ground.phase }, { on := 4, ground := Go.Ground.phase }, { on := 5, ground := Go.Ground.phase }, { on := 6, ground := Go.Ground.phase }, { on := 7, ground := Go.Ground.phase }, { on := 8, ground := Go.Ground.phase }, { on := 9, ground := Go.Ground.phase }, { on := 10, ground := Go.Ground.phase }, { on := 11, ground := Go.Ground.phase }], guard := none }) rfl (fun K hK => ?_) ?_
              · skip
                go_simp
                refine hK.out _ _ ⟨(World.cell?_setCell_far _ _ _ _ (by simp)).trans ((HB5.out.cell (p := ⟨w.heap.size + 1, 0, none⟩) hlx).trans xu0), (World.cell?_setCell_far _ _ _ _ (by simp)).trans ((HB5.out.cell (p := ⟨w.heap.size + 1, 1, none⟩) hlx).trans xu1), (World.cell?_setCell_far _ _ _ _ (by simp)).trans ((HB5.out.cell (p := ⟨w.heap.size + 1, 2, none⟩) hlx).trans xu2)⟩ (fun hH13 => ?_)
                clear hK K
                clear hH11
                refine wpAnyH_done (by kernel_rfl) ?_ _
                have Lh9 := (HLh.out.below HB5.out HLh.out.lt).set 1 (.slice (some ⟨g34, 0, none⟩) (n + 1) cap34)
                have Lr9 := (HLr.out.below HB5.out HLr.out.lt).far (p := ⟨w.heap.size, 1, none⟩) (by simp; omega) (.slice (some ⟨g34, 0, none⟩) (n + 1) cap34)
                have FIN9 := Lib.hid (Owned.far FIN.out (HLh.out.below HB5.out HLh.out.lt) (by decide) (by decide) 1 (.slice (some ⟨g34, 0, none⟩) (n + 1) cap34))
                have B9 := Lib.hid ((on B0.out B0.out.size HB5.out).setCell (p := ⟨w.heap.size, 1, none⟩) (by simp) (.slice (some ⟨g34, 0, none⟩) (n + 1) cap34))
                clear hb5 hf5
                refine named2 (fun V hV => ?_)
                rw [← hV] at Lh9 Lr9 FIN9 B9
                clear hV
                have a0 : V.cell? ⟨w.heap.size, 0, none⟩ = some (.int .i64 (Z : Int)) := Lh9.cell 0
                have a1 : V.cell? ⟨w.heap.size, 1, none⟩ = some (.slice (some ⟨g34, 0, none⟩) (n + 1) cap34) := Lh9.cell 1
                have c0 : V.cell? ⟨w.heap.size + 1 + 1, 0, none⟩ = some (.int .i64 0) := Lr9.cell 0
                have c1 : V.cell? ⟨w.heap.size + 1 + 1, 1, none⟩ = some (.slice none 0 0) := Lr9.cell 1
                have c2 := Lr9.frozen 0
                have c3 := Lr9.frozen 1
                have c4 := Lr9.lt
                have HLr9 := Lib.hid Lr9
                clear Lh9 Lr9
                go_wp2
                exact bodyPost_ret (v := .tuple #[.agg #[.int .i64 (Z : Int), .slice (some ⟨g34, 0, none⟩) (n + 1) cap34], .int .i64 (N : Int), .int .i64 0]) (by simp [results, Tryz.results41, go_sem, a0, a1, c0, c1, c2, c3, c4]) rfl ⟨⟨_, _, _, rfl, Owned.far (Owned.far FIN9.out HLr9.out (by decide) (by decide) 0 _) (HLr9.out.set 0 _) (by decide) (by decide) 1 _, fun N0 h0 ho => OFF.out N0 (Nat.lt_of_lt_of_le h0 B0.out.size) ho⟩, by
                  have := B9.out
                  repeat (first | exact this | refine Below.setCell ?_ (by simp <;> omega) _)⟩
              exact AllReadyH.nil
            exact AllReadyH.nil
          exact AllReadyH.nil
        exact AllReadyH.nil
      refine AllReadyH.cons (o := { dst := some 31, op := Go.Op.makeSlice 30 (Go.Operand.tmp 30) (Go.Operand.tmp 30), type := 30, pos := "ref.go:96", after := #[{ on := 7, ground := Go.Ground.data }, { on := 7, ground := Go.Ground.data }], guard := none }) rfl (fun K hK => ?_) ?_
      · skip
        go_simp
        refine named (fun U2 hU => ?_)
        have HB2 := Lib.hid (show Below U0.heap.size U0 U2 by rw [hU]; exact HB1.out.alloc HB1.out.size _)
        have hs2 : U1.heap.size < U2.heap.size := by rw [hU]; simp
        have O23_2 := Lib.hid (show U2.ownsRow U0.heap.size 66 5 (.slice (some ⟨U0.heap.size, 0, none⟩) 0 0) 0 [] by rw [hU]; exact owns_any O23_1.out (below_one _ _))
        have MK_2 := Lib.hid (show Lies U2 U1.heap.size 3 (noughts l) by rw [hU]; exact Lies.new U1 3 (noughts l))
        clear hU
        clear HB1 O23_1
        refine hK.out _ _ ⟨(HB2.out.cell (p := ⟨w.heap.size + 1, 0, none⟩) hlx).trans xu0, (HB2.out.cell (p := ⟨w.heap.size + 1, 1, none⟩) hlx).trans xu1, (HB2.out.cell (p := ⟨w.heap.size + 1, 2, none⟩) hlx).trans xu2⟩ (fun hH7 => ?_)
        clear hK K
        clear hH6
        refine wpAnyH_take (i := 9) (oi := { dst := some 32, op := Go.Op.build 66 #[(0, Go.Operand.tmp 27), (1, Go.Operand.tmp 28), (2, Go.Operand.tmp 31)], type := 66, pos := "ref.go:96", after := #[{ on := 4, ground := Go.Ground.data }, { on := 5, ground := Go.Ground.data }, { on := 8, ground := Go.Ground.data }], guard := none }) (v := ?_) rfl (by kernel_rfl) (by kernel_rfl) (by kernel_rfl) (fun _ _ _ h => h) (Or.inl ⟨by rfl, ?_⟩) hH7 ?_
        rotate_left
        · (intro w hSw; (try dsimp only at hSw); go_simp; (try with_reducible rfl))
        (try simp only [Act.put, List.setIfInBounds_toArray, List.set_cons_zero, List.set_cons_succ])
        refine wpAnyH_ready (rs := [3, 10]) (by kernel_rfl) (by simp) ?_
        refine AllReadyH.cons (o := { dst := some 26, op := Go.Op.call { callee := Go.Callee.builtin Go.Builtin.append, args := #[Go.Operand.tmp 23, Go.Operand.tmp 25], argTypes := #[32, 32] }, type := 32, pos := "ref.go:96", after := #[{ on := 0, ground := Go.Ground.data }, { on := 2, ground := Go.Ground.data }], guard := none }) rfl (fun K hK => ?_) ?_
        · skip
          refine step_list rfl (.tmp 23) (.tmp 25) rfl U0.heap.size U0.heap.size 0 rfl O23_2.out base A n c xs rfl (owns_any OWN.out.own HB2.out) ONE.out (by omega) HB2.out.size ?_
          intro g26 cap26 U3 O26 G26
          have HB3 := Lib.hid (below_row HB2.out HB2.out.size G26 (by omega))
          have hs3 : U2.heap.size ≤ U3.heap.size := G26.size
          have MK_3 := Lib.hid (show Lies U3 U1.heap.size 3 (noughts l) from lies_grown' MK_2.out (by omega) G26)
          have O26_3 := Lib.hid O26
          clear O26 G26
          clear HB2 O23_2 MK_2
          (try clear hb2)
          refine hK.out _ _ ⟨(HB3.out.cell (p := ⟨w.heap.size + 1, 0, none⟩) hlx).trans xu0, (HB3.out.cell (p := ⟨w.heap.size + 1, 1, none⟩) hlx).trans xu1, (HB3.out.cell (p := ⟨w.heap.size + 1, 2, none⟩) hlx).trans xu2⟩ (fun hH9 => ?_)
          clear hK K
          clear hH7
          refine wpAnyH_ready (rs := [10]) (by kernel_rfl) (by simp) ?_
          refine AllReadyH.cons (o := { dst := some 33, op := Go.Op.buildSlice 32 1 #[(0, Go.Operand.tmp 32)], type := 32, pos := "ref.go:96", after := #[{ on := 9, ground := Go.Ground.data }], guard := none }) rfl (fun K hK => ?_) ?_
          · skip
            go_simp
            refine named (fun U4 hU => ?_)
            have HB4 := Lib.hid (show Below U0.heap.size U0 U4 by rw [hU]; exact HB3.out.alloc HB3.out.size _)
            have hs4 : U3.heap.size < U4.heap.size := by rw [hU]; simp
            have O26_4 := Lib.hid (show U4.ownsRow U0.heap.size 66 5 (.slice (some ⟨g26, 0, none⟩) n cap26) n xs by rw [hU]; exact owns_any O26_3.out (below_one _ _))
            have MK_4 := Lib.hid (show Lies U4 U1.heap.size 3 (noughts l) by rw [hU]; exact MK_3.out.alloc _)
            have OB_4 := Lib.hid (show Lies U4 U3.heap.size 66 [.int .i64 (N : Int), .int .i64 k, .int .i64 (l : Int), .int .i64 p, .slice (some ⟨U1.heap.size, 0, none⟩) l l] by rw [hU]; exact Lies.new U3 66 [.int .i64 (N : Int), .int .i64 k, .int .i64 (l : Int), .int .i64 p, .slice (some ⟨U1.heap.size, 0, none⟩) l l])
            clear hU
            clear HB3 MK_3 O26_3
            refine hK.out _ _ ⟨(HB4.out.cell (p := ⟨w.heap.size + 1, 0, none⟩) hlx).trans xu0, (HB4.out.cell (p := ⟨w.heap.size + 1, 1, none⟩) hlx).trans xu1, (HB4.out.cell (p := ⟨w.heap.size + 1, 2, none⟩) hlx).trans xu2⟩ (fun hH10 => ?_)
            clear hK K
            clear hH9
            refine wpAnyH_ready (rs := [11]) (by kernel_rfl) (by simp) ?_
            refine AllReadyH.cons (o := { dst := some 34, op := Go.Op.call { callee := Go.Callee.builtin Go.Builtin.append, args := #[Go.Operand.tmp 26, Go.Operand.tmp 33], argTypes := #[32, 32] }, type := 32, pos := "ref.go:96", after := #[{ on := 3, ground := Go.Ground.data }, { on := 10, ground := Go.Ground.data }, { on := 3, ground := Go.Ground.chain }], guard := none }) rfl (fun K hK => ?_) ?_
            · skip
              refine step_one rfl (.tmp 26) (.tmp 33) rfl U0.heap.size g26 n cap26 xs rfl O26_4.out U3.heap.size 1 [.int .i64 (N : Int), .int .i64 k, .int .i64 (l : Int), .int .i64 p, .slice (some ⟨U1.heap.size, 0, none⟩) l l] rfl OB_4.out rfl (one_cells _ _ _ _ _) (by omega) HB4.out.size ?_
              intro g34 cap34 U5 O34 G34
              have HB5 := Lib.hid (below_row HB4.out HB4.out.size G34 (owns_ge O26_4.out))
              have MK_5 := Lib.hid (show Lies U5 U1.heap.size 3 (noughts l) from lies_grown MK_4.out O26_4.out (by decide) G34)
              have FIN := Lib.hid (place_owned OWN.out HB5.out O34 MK_5.out hbU (by omega) HN.out hg).1
              have OFF := Lib.hid (place_owned OWN.out HB5.out O34 MK_5.out hbU (by omega) HN.out hg).2
              clear O34 G34
              clear HB4 MK_4 O26_4 OB_4
              clear MK_5
              have hb5 : U5.cell? ⟨w.heap.size, 1, none⟩ = some (.slice A n c) := (HB5.out.cell (p := ⟨w.heap.size, 1, none⟩) hlh).trans yu1
              have hf5 : U5.frozen? ⟨w.heap.size, 1, none⟩ = false := (HB5.out.frozen (p := ⟨w.heap.size, 1, none⟩) hlh).trans yf1
              refine hK.out _ _ ⟨(HB5.out.cell (p := ⟨w.heap.size + 1, 0, none⟩) hlx).trans xu0, (HB5.out.cell (p := ⟨w.heap.size + 1, 1, none⟩) hlx).trans xu1, (HB5.out.cell (p := ⟨w.heap.size + 1, 2, none⟩) hlx).trans xu2⟩ (fun hH11 => ?_)
              clear hK K
              clear hH10
              refine wpAnyH_take (i := 12) (oi := { dst := some 35, op := Go.Op.fieldAddr 34 (Go.Operand.tmp 2) 1, type := 0, pos := "ref.go:96", after := #[{ on := 0, ground := Go.Ground.phase }, { on := 1, ground := Go.Ground.phase }, { on := 2, ground := Go.Ground.phase }, { on := 3, ground := Go.Ground.phase }, { on := 4, ground := Go.Ground.phase }, { on := 5, ground := Go.Ground.phase }, { on := 6, ground := Go.Ground.phase }, { on := 7, ground := Go.Ground.phase }, { on := 8, ground := Go.Ground.phase }, { on := 9, ground := Go.Ground.phase }, { on := 10, ground := Go.Ground.phase }, { on := 11, ground := Go.Ground.phase }], guard := none }) (v := ?_) rfl (by kernel_rfl) (by kernel_rfl) (by kernel_rfl) (fun _ _ _ h => h) (Or.inl ⟨by rfl, ?_⟩) hH11 ?_
              rotate_left
              · (intro w hSw; (try dsimp only at hSw); go_simp; (try with_reducible rfl))
              (try simp only [Act.put, List.setIfInBounds_toArray, List.set_cons_zero, List.set_cons_succ])
              refine wpAnyH_ready (rs := [13]) (by kernel_rfl) (by simp) ?_
              refine AllReadyH.cons (o := { dst := none, op := Go.Op.store 32 (Go.Operand.tmp 35) (Go.Operand.tmp 34), type := 0, pos := "ref.go:96", after := #[{ on := 12, ground := Go.Ground.data }, { on := 11, ground := Go.Ground.data }, { on := 11, ground := Go.Ground.chain }, { on := 0, ground := Go.Ground.phase }, { on := 1, ground := Go.Ground.phase }, { on := 2, ground := Go.Ground.phase }, { on := 3, ground := Go.Ground.phase }, { on := 4, ground := Go.Ground.phase }, { on := 5, ground := Go.Ground.phase }, { on := 6, ground := Go.Ground.phase }, { on := 7, ground := Go.Ground.phase }, { on := 8, ground := Go.Ground.phase }, { on := 9, ground := Go.Ground.phase }, { on := 10, ground := Go.Ground.phase }, { on := 11, ground := Go.Ground.phase }], guard := none }) rfl (fun K hK => ?_) ?_
              · skip
                go_simp
                refine hK.out _ _ ⟨(World.cell?_setCell_far _ _ _ _ (by simp)).trans ((HB5.out.cell (p := ⟨w.heap.size + 1, 0, none⟩) hlx).trans xu0), (World.cell?_setCell_far _ _ _ _ (by simp)).trans ((HB5.out.cell (p := ⟨w.heap.size + 1, 1, none⟩) hlx).trans xu1), (World.cell?_setCell_far _ _ _ _ (by simp)).trans ((HB5.out.cell (p := ⟨w.heap.size + 1, 2, none⟩) hlx).trans xu2)⟩ (fun hH13 => ?_)
                clear hK K
                clear hH11
                refine wpAnyH_done (by kernel_rfl) ?_ _
                have Lh9 := (HLh.out.below HB5.out HLh.out.lt).set 1 (.slice (some ⟨g34, 0, none⟩) (n + 1) cap34)
                have Lr9 := (HLr.out.below HB5.out HLr.out.lt).far (p := ⟨w.heap.size, 1, none⟩) (by simp; omega) (.slice (some ⟨g34, 0, none⟩) (n + 1) cap34)
                have FIN9 := Lib.hid (Owned.far FIN.out (HLh.out.below HB5.out HLh.out.lt) (by decide) (by decide) 1 (.slice (some ⟨g34, 0, none⟩) (n + 1) cap34))
                have B9 := Lib.hid ((on B0.out B0.out.size HB5.out).setCell (p := ⟨w.heap.size, 1, none⟩) (by simp) (.slice (some ⟨g34, 0, none⟩) (n + 1) cap34))
                clear hb5 hf5
                refine named2 (fun V hV => ?_)
                rw [← hV] at Lh9 Lr9 FIN9 B9
                clear hV
                have a0 : V.cell? ⟨w.heap.size, 0, none⟩ = some (.int .i64 (Z : Int)) := Lh9.cell 0
                have a1 : V.cell? ⟨w.heap.size, 1, none⟩ = some (.slice (some ⟨g34, 0, none⟩) (n + 1) cap34) := Lh9.cell 1
                have c0 : V.cell? ⟨w.heap.size + 1 + 1, 0, none⟩ = some (.int .i64 0) := Lr9.cell 0
                have c1 : V.cell? ⟨w.heap.size + 1 + 1, 1, none⟩ = some (.slice none 0 0) := Lr9.cell 1
                have c2 := Lr9.frozen 0
                have c3 := Lr9.frozen 1
                have c4 := Lr9.lt
                have HLr9 := Lib.hid Lr9
                clear Lh9 Lr9
                go_wp2
                exact bodyPost_ret (v := .tuple #[.agg #[.int .i64 (Z : Int), .slice (some ⟨g34, 0, none⟩) (n + 1) cap34], .int .i64 (N : Int), .int .i64 0]) (by simp [results, Tryz.results41, go_sem, a0, a1, c0, c1, c2, c3, c4]) rfl ⟨⟨_, _, _, rfl, Owned.far (Owned.far FIN9.out HLr9.out (by decide) (by decide) 0 _) (HLr9.out.set 0 _) (by decide) (by decide) 1 _, fun N0 h0 ho => OFF.out N0 (Nat.lt_of_lt_of_le h0 B0.out.size) ho⟩, by
                  have := B9.out
                  repeat (first | exact this | refine Below.setCell ?_ (by simp <;> omega) _)⟩
              exact AllReadyH.nil
            exact AllReadyH.nil
          exact AllReadyH.nil
        refine AllReadyH.cons (o := { dst := some 33, op := Go.Op.buildSlice 32 1 #[(0, Go.Operand.tmp 32)], type := 32, pos := "ref.go:96", after := #[{ on := 9, ground := Go.Ground.data }], guard := none }) rfl (fun K hK => ?_) ?_
        · skip
          go_simp
          refine named (fun U3 hU => ?_)
          have HB3 := Lib.hid (show Below U0.heap.size U0 U3 by rw [hU]; exact HB2.out.alloc HB2.out.size _)
          have hs3 : U2.heap.size < U3.heap.size := by rw [hU]; simp
          have O23_3 := Lib.hid (show U3.ownsRow U0.heap.size 66 5 (.slice (some ⟨U0.heap.size, 0, none⟩) 0 0) 0 [] by rw [hU]; exact owns_any O23_2.out (below_one _ _))
          have MK_3 := Lib.hid (show Lies U3 U1.heap.size 3 (noughts l) by rw [hU]; exact MK_2.out.alloc _)
          have OB_3 := Lib.hid (show Lies U3 U2.heap.size 66 [.int .i64 (N : Int), .int .i64 k, .int .i64 (l : Int), .int .i64 p, .slice (some ⟨U1.heap.size, 0, none⟩) l l] by rw [hU]; exact Lies.new U2 66 [.int .i64 (N : Int), .int .i64 k, .int .i64 (l : Int), .int .i64 p, .slice (some ⟨U1.heap.size, 0, none⟩) l l])
          clear hU
          clear HB2 O23_2 MK_2
          refine hK.out _ _ ⟨(HB3.out.cell (p := ⟨w.heap.size + 1, 0, none⟩) hlx).trans xu0, (HB3.out.cell (p := ⟨w.heap.size + 1, 1, none⟩) hlx).trans xu1, (HB3.out.cell (p := ⟨w.heap.size + 1, 2, none⟩) hlx).trans xu2⟩ (fun hH9 => ?_)
          clear hK K
          clear hH7
          refine wpAnyH_ready (rs := [3]) (by kernel_rfl) (by simp) ?_
          refine AllReadyH.cons (o := { dst := some 26, op := Go.Op.call { callee := Go.Callee.builtin Go.Builtin.append, args := #[Go.Operand.tmp 23, Go.Operand.tmp 25], argTypes := #[32, 32] }, type := 32, pos := "ref.go:96", after := #[{ on := 0, ground := Go.Ground.data }, { on := 2, ground := Go.Ground.data }], guard := none }) rfl (fun K hK => ?_) ?_
          · skip
            refine step_list rfl (.tmp 23) (.tmp 25) rfl U0.heap.size U0.heap.size 0 rfl O23_3.out base A n c xs rfl (owns_any OWN.out.own HB3.out) ONE.out (by omega) HB3.out.size ?_
            intro g26 cap26 U4 O26 G26
            have HB4 := Lib.hid (below_row HB3.out HB3.out.size G26 (by omega))
            have hs4 : U3.heap.size ≤ U4.heap.size := G26.size
            have MK_4 := Lib.hid (show Lies U4 U1.heap.size 3 (noughts l) from lies_grown' MK_3.out (by omega) G26)
            have OB_4 := Lib.hid (show Lies U4 U2.heap.size 66 [.int .i64 (N : Int), .int .i64 k, .int .i64 (l : Int), .int .i64 p, .slice (some ⟨U1.heap.size, 0, none⟩) l l] from lies_grown' OB_3.out (by omega) G26)
            have O26_4 := Lib.hid O26
            clear O26 G26
            clear HB3 O23_3 MK_3 OB_3
            (try clear hb3)
            refine hK.out _ _ ⟨(HB4.out.cell (p := ⟨w.heap.size + 1, 0, none⟩) hlx).trans xu0, (HB4.out.cell (p := ⟨w.heap.size + 1, 1, none⟩) hlx).trans xu1, (HB4.out.cell (p := ⟨w.heap.size + 1, 2, none⟩) hlx).trans xu2⟩ (fun hH10 => ?_)
            clear hK K
            clear hH9
            refine wpAnyH_ready (rs := [11]) (by kernel_rfl) (by simp) ?_
            refine AllReadyH.cons (o := { dst := some 34, op := Go.Op.call { callee := Go.Callee.builtin Go.Builtin.append, args := #[Go.Operand.tmp 26, Go.Operand.tmp 33], argTypes := #[32, 32] }, type := 32, pos := "ref.go:96", after := #[{ on := 3, ground := Go.Ground.data }, { on := 10, ground := Go.Ground.data }, { on := 3, ground := Go.Ground.chain }], guard := none }) rfl (fun K hK => ?_) ?_
            · skip
              refine step_one rfl (.tmp 26) (.tmp 33) rfl U0.heap.size g26 n cap26 xs rfl O26_4.out U2.heap.size 1 [.int .i64 (N : Int), .int .i64 k, .int .i64 (l : Int), .int .i64 p, .slice (some ⟨U1.heap.size, 0, none⟩) l l] rfl OB_4.out rfl (one_cells _ _ _ _ _) (by omega) HB4.out.size ?_
              intro g34 cap34 U5 O34 G34
              have HB5 := Lib.hid (below_row HB4.out HB4.out.size G34 (owns_ge O26_4.out))
              have MK_5 := Lib.hid (show Lies U5 U1.heap.size 3 (noughts l) from lies_grown MK_4.out O26_4.out (by decide) G34)
              have FIN := Lib.hid (place_owned OWN.out HB5.out O34 MK_5.out hbU (by omega) HN.out hg).1
              have OFF := Lib.hid (place_owned OWN.out HB5.out O34 MK_5.out hbU (by omega) HN.out hg).2
              clear O34 G34
              clear HB4 MK_4 OB_4 O26_4
              clear MK_5
              have hb5 : U5.cell? ⟨w.heap.size, 1, none⟩ = some (.slice A n c) := (HB5.out.cell (p := ⟨w.heap.size, 1, none⟩) hlh).trans yu1
              have hf5 : U5.frozen? ⟨w.heap.size, 1, none⟩ = false := (HB5.out.frozen (p := ⟨w.heap.size, 1, none⟩) hlh).trans yf1
              refine hK.out _ _ ⟨(HB5.out.cell (p := ⟨w.heap.size + 1, 0, none⟩) hlx).trans xu0, (HB5.out.cell (p := ⟨w.heap.size + 1, 1, none⟩) hlx).trans xu1, (HB5.out.cell (p := ⟨w.heap.size + 1, 2, none⟩) hlx).trans xu2⟩ (fun hH11 => ?_)
              clear hK K
              clear hH10
              refine wpAnyH_take (i := 12) (oi := { dst := some 35, op := Go.Op.fieldAddr 34 (Go.Operand.tmp 2) 1, type := 0, pos := "ref.go:96", after := #[{ on := 0, ground := Go.Ground.phase }, { on := 1, ground := Go.Ground.phase }, { on := 2, ground := Go.Ground.phase }, { on := 3, ground := Go.Ground.phase }, { on := 4, ground := Go.Ground.phase }, { on := 5, ground := Go.Ground.phase }, { on := 6, ground := Go.Ground.phase }, { on := 7, ground := Go.Ground.phase }, { on := 8, ground := Go.Ground.phase }, { on := 9, ground := Go.Ground.phase }, { on := 10, ground := Go.Ground.phase }, { on := 11, ground := Go.Ground.phase }], guard := none }) (v := ?_) rfl (by kernel_rfl) (by kernel_rfl) (by kernel_rfl) (fun _ _ _ h => h) (Or.inl ⟨by rfl, ?_⟩) hH11 ?_
              rotate_left
              · (intro w hSw; (try dsimp only at hSw); go_simp; (try with_reducible rfl))
              (try simp only [Act.put, List.setIfInBounds_toArray, List.set_cons_zero, List.set_cons_succ])
              refine wpAnyH_ready (rs := [13]) (by kernel_rfl) (by simp) ?_
              refine AllReadyH.cons (o := { dst := none, op := Go.Op.store 32 (Go.Operand.tmp 35) (Go.Operand.tmp 34), type := 0, pos := "ref.go:96", after := #[{ on := 12, ground := Go.Ground.data }, { on := 11, ground := Go.Ground.data }, { on := 11, ground := Go.Ground.chain }, { on := 0, ground := Go.Ground.phase }, { on := 1, ground := Go.Ground.phase }, { on := 2, ground := Go.Ground.phase }, { on := 3, ground := Go.Ground.phase }, { on := 4, ground := Go.Ground.phase }, { on := 5, ground := Go.Ground.phase }, { on := 6, ground := Go.Ground.phase }, { on := 7, ground := Go.Ground.phase }, { on := 8, ground := Go.Ground.phase }, { on := 9, ground := Go.Ground.phase }, { on := 10, ground := Go.Ground.phase }, { on := 11, ground := Go.Ground.phase }], guard := none }) rfl (fun K hK => ?_) ?_
              · skip
                go_simp
                refine hK.out _ _ ⟨(World.cell?_setCell_far _ _ _ _ (by simp)).trans ((HB5.out.cell (p := ⟨w.heap.size + 1, 0, none⟩) hlx).trans xu0), (World.cell?_setCell_far _ _ _ _ (by simp)).trans ((HB5.out.cell (p := ⟨w.heap.size + 1, 1, none⟩) hlx).trans xu1), (World.cell?_setCell_far _ _ _ _ (by simp)).trans ((HB5.out.cell (p := ⟨w.heap.size + 1, 2, none⟩) hlx).trans xu2)⟩ (fun hH13 => ?_)
                clear hK K
                clear hH11
                refine wpAnyH_done (by kernel_rfl) ?_ _
                have Lh9 := (HLh.out.below HB5.out HLh.out.lt).set 1 (.slice (some ⟨g34, 0, none⟩) (n + 1) cap34)
                have Lr9 := (HLr.out.below HB5.out HLr.out.lt).far (p := ⟨w.heap.size, 1, none⟩) (by simp; omega) (.slice (some ⟨g34, 0, none⟩) (n + 1) cap34)
                have FIN9 := Lib.hid (Owned.far FIN.out (HLh.out.below HB5.out HLh.out.lt) (by decide) (by decide) 1 (.slice (some ⟨g34, 0, none⟩) (n + 1) cap34))
                have B9 := Lib.hid ((on B0.out B0.out.size HB5.out).setCell (p := ⟨w.heap.size, 1, none⟩) (by simp) (.slice (some ⟨g34, 0, none⟩) (n + 1) cap34))
                clear hb5 hf5
                refine named2 (fun V hV => ?_)
                rw [← hV] at Lh9 Lr9 FIN9 B9
                clear hV
                have a0 : V.cell? ⟨w.heap.size, 0, none⟩ = some (.int .i64 (Z : Int)) := Lh9.cell 0
                have a1 : V.cell? ⟨w.heap.size, 1, none⟩ = some (.slice (some ⟨g34, 0, none⟩) (n + 1) cap34) := Lh9.cell 1
                have c0 : V.cell? ⟨w.heap.size + 1 + 1, 0, none⟩ = some (.int .i64 0) := Lr9.cell 0
                have c1 : V.cell? ⟨w.heap.size + 1 + 1, 1, none⟩ = some (.slice none 0 0) := Lr9.cell 1
                have c2 := Lr9.frozen 0
                have c3 := Lr9.frozen 1
                have c4 := Lr9.lt
                have HLr9 := Lib.hid Lr9
                clear Lh9 Lr9
                go_wp2
                exact bodyPost_ret (v := .tuple #[.agg #[.int .i64 (Z : Int), .slice (some ⟨g34, 0, none⟩) (n + 1) cap34], .int .i64 (N : Int), .int .i64 0]) (by simp [results, Tryz.results41, go_sem, a0, a1, c0, c1, c2, c3, c4]) rfl ⟨⟨_, _, _, rfl, Owned.far (Owned.far FIN9.out HLr9.out (by decide) (by decide) 0 _) (HLr9.out.set 0 _) (by decide) (by decide) 1 _, fun N0 h0 ho => OFF.out N0 (Nat.lt_of_lt_of_le h0 B0.out.size) ho⟩, by
                  have := B9.out
                  repeat (first | exact this | refine Below.setCell ?_ (by simp <;> omega) _)⟩
              exact AllReadyH.nil
            exact AllReadyH.nil
          exact AllReadyH.nil
        exact AllReadyH.nil
      exact AllReadyH.nil
    refine AllReadyH.cons (o := { dst := some 31, op := Go.Op.makeSlice 30 (Go.Operand.tmp 30) (Go.Operand.tmp 30), type := 30, pos := "ref.go:96", after := #[{ on := 7, ground := Go.Ground.data }, { on := 7, ground := Go.Ground.data }], guard := none }) rfl (fun K hK => ?_) ?_
    · skip
      go_simp
      refine named (fun U1 hU => ?_)
      have HB1 := Lib.hid (show Below U0.heap.size U0 U1 by rw [hU]; exact HB0.out.alloc HB0.out.size _)
      have hs1 : U0.heap.size < U1.heap.size := by rw [hU]; simp
      have MK_1 := Lib.hid (show Lies U1 U0.heap.size 3 (noughts l) by rw [hU]; exact Lies.new U0 3 (noughts l))
      clear hU
      clear HB0
      refine hK.out _ _ ⟨(HB1.out.cell (p := ⟨w.heap.size + 1, 0, none⟩) hlx).trans xu0, (HB1.out.cell (p := ⟨w.heap.size + 1, 1, none⟩) hlx).trans xu1, (HB1.out.cell (p := ⟨w.heap.size + 1, 2, none⟩) hlx).trans xu2⟩ (fun hH6 => ?_)
      clear hK K
      clear hH5
      refine wpAnyH_take (i := 9) (oi := { dst := some 32, op := Go.Op.build 66 #[(0, Go.Operand.tmp 27), (1, Go.Operand.tmp 28), (2, Go.Operand.tmp 31)], type := 66, pos := "ref.go:96", after := #[{ on := 4, ground := Go.Ground.data }, { on := 5, ground := Go.Ground.data }, { on := 8, ground := Go.Ground.data }], guard := none }) (v := ?_) rfl (by kernel_rfl) (by kernel_rfl) (by kernel_rfl) (fun _ _ _ h => h) (Or.inl ⟨by rfl, ?_⟩) hH6 ?_
      rotate_left
      · (intro w hSw; (try dsimp only at hSw); go_simp; (try with_reducible rfl))
      (try simp only [Act.put, List.setIfInBounds_toArray, List.set_cons_zero, List.set_cons_succ])
      refine wpAnyH_ready (rs := [0, 10]) (by kernel_rfl) (by simp) ?_
      refine AllReadyH.cons (o := { dst := some 23, op := Go.Op.buildSlice 32 0 #[], type := 32, pos := "ref.go:96", after := #[], guard := none }) rfl (fun K hK => ?_) ?_
      · skip
        go_simp
        refine named (fun U2 hU => ?_)
        have HB2 := Lib.hid (show Below U0.heap.size U0 U2 by rw [hU]; exact HB1.out.alloc HB1.out.size _)
        have hs2 : U1.heap.size < U2.heap.size := by rw [hU]; simp
        have MK_2 := Lib.hid (show Lies U2 U0.heap.size 3 (noughts l) by rw [hU]; exact MK_1.out.alloc _)
        have O23_2 := Lib.hid (show U2.ownsRow U0.heap.size 66 5 (.slice (some ⟨U1.heap.size, 0, none⟩) 0 0) 0 [] by rw [hU]; exact own_new53 U1 HB1.out.size)
        clear hU
        clear HB1 MK_1
        refine hK.out _ _ ⟨(HB2.out.cell (p := ⟨w.heap.size + 1, 0, none⟩) hlx).trans xu0, (HB2.out.cell (p := ⟨w.heap.size + 1, 1, none⟩) hlx).trans xu1, (HB2.out.cell (p := ⟨w.heap.size + 1, 2, none⟩) hlx).trans xu2⟩ (fun hH8 => ?_)
        clear hK K
        clear hH6
        refine wpAnyH_ready (rs := [3, 10]) (by kernel_rfl) (by simp) ?_
        refine AllReadyH.cons (o := { dst := some 26, op := Go.Op.call { callee := Go.Callee.builtin Go.Builtin.append, args := #[Go.Operand.tmp 23, Go.Operand.tmp 25], argTypes := #[32, 32] }, type := 32, pos := "ref.go:96", after := #[{ on := 0, ground := Go.Ground.data }, { on := 2, ground := Go.Ground.data }], guard := none }) rfl (fun K hK => ?_) ?_
        · skip
          refine step_list rfl (.tmp 23) (.tmp 25) rfl U0.heap.size U1.heap.size 0 rfl O23_2.out base A n c xs rfl (owns_any OWN.out.own HB2.out) ONE.out (by omega) HB2.out.size ?_
          intro g26 cap26 U3 O26 G26
          have HB3 := Lib.hid (below_row HB2.out HB2.out.size G26 (by omega))
          have hs3 : U2.heap.size ≤ U3.heap.size := G26.size
          have MK_3 := Lib.hid (show Lies U3 U0.heap.size 3 (noughts l) from lies_grown' MK_2.out (by omega) G26)
          have O26_3 := Lib.hid O26
          clear O26 G26
          clear HB2 MK_2 O23_2
          (try clear hb2)
          refine hK.out _ _ ⟨(HB3.out.cell (p := ⟨w.heap.size + 1, 0, none⟩) hlx).trans xu0, (HB3.out.cell (p := ⟨w.heap.size + 1, 1, none⟩) hlx).trans xu1, (HB3.out.cell (p := ⟨w.heap.size + 1, 2, none⟩) hlx).trans xu2⟩ (fun hH9 => ?_)
          clear hK K
          clear hH8
          refine wpAnyH_ready (rs := [10]) (by kernel_rfl) (by simp) ?_
          refine AllReadyH.cons (o := { dst := some 33, op := Go.Op.buildSlice 32 1 #[(0, Go.Operand.tmp 32)], type := 32, pos := "ref.go:96", after := #[{ on := 9, ground := Go.Ground.data }], guard := none }) rfl (fun K hK => ?_) ?_
          · skip
            go_simp
            refine named (fun U4 hU => ?_)
            have HB4 := Lib.hid (show Below U0.heap.size U0 U4 by rw [hU]; exact HB3.out.alloc HB3.out.size _)
            have hs4 : U3.heap.size < U4.heap.size := by rw [hU]; simp
            have O26_4 := Lib.hid (show U4.ownsRow U0.heap.size 66 5 (.slice (some ⟨g26, 0, none⟩) n cap26) n xs by rw [hU]; exact owns_any O26_3.out (below_one _ _))
            have MK_4 := Lib.hid (show Lies U4 U0.heap.size 3 (noughts l) by rw [hU]; exact MK_3.out.alloc _)
            have OB_4 := Lib.hid (show Lies U4 U3.heap.size 66 [.int .i64 (N : Int), .int .i64 k, .int .i64 (l : Int), .int .i64 p, .slice (some ⟨U0.heap.size, 0, none⟩) l l] by rw [hU]; exact Lies.new U3 66 [.int .i64 (N : Int), .int .i64 k, .int .i64 (l : Int), .int .i64 p, .slice (some ⟨U0.heap.size, 0, none⟩) l l])
            clear hU
            clear HB3 MK_3 O26_3
            refine hK.out _ _ ⟨(HB4.out.cell (p := ⟨w.heap.size + 1, 0, none⟩) hlx).trans xu0, (HB4.out.cell (p := ⟨w.heap.size + 1, 1, none⟩) hlx).trans xu1, (HB4.out.cell (p := ⟨w.heap.size + 1, 2, none⟩) hlx).trans xu2⟩ (fun hH10 => ?_)
            clear hK K
            clear hH9
            refine wpAnyH_ready (rs := [11]) (by kernel_rfl) (by simp) ?_
            refine AllReadyH.cons (o := { dst := some 34, op := Go.Op.call { callee := Go.Callee.builtin Go.Builtin.append, args := #[Go.Operand.tmp 26, Go.Operand.tmp 33], argTypes := #[32, 32] }, type := 32, pos := "ref.go:96", after := #[{ on := 3, ground := Go.Ground.data }, { on := 10, ground := Go.Ground.data }, { on := 3, ground := Go.Ground.chain }], guard := none }) rfl (fun K hK => ?_) ?_
            · skip
              refine step_one rfl (.tmp 26) (.tmp 33) rfl U0.heap.size g26 n cap26 xs rfl O26_4.out U3.heap.size 1 [.int .i64 (N : Int), .int .i64 k, .int .i64 (l : Int), .int .i64 p, .slice (some ⟨U0.heap.size, 0, none⟩) l l] rfl OB_4.out rfl (one_cells _ _ _ _ _) (by omega) HB4.out.size ?_
              intro g34 cap34 U5 O34 G34
              have HB5 := Lib.hid (below_row HB4.out HB4.out.size G34 (owns_ge O26_4.out))
              have MK_5 := Lib.hid (show Lies U5 U0.heap.size 3 (noughts l) from lies_grown MK_4.out O26_4.out (by decide) G34)
              have FIN := Lib.hid (place_owned OWN.out HB5.out O34 MK_5.out hbU (by omega) HN.out hg).1
              have OFF := Lib.hid (place_owned OWN.out HB5.out O34 MK_5.out hbU (by omega) HN.out hg).2
              clear O34 G34
              clear HB4 MK_4 O26_4 OB_4
              clear MK_5
              have hb5 : U5.cell? ⟨w.heap.size, 1, none⟩ = some (.slice A n c) := (HB5.out.cell (p := ⟨w.heap.size, 1, none⟩) hlh).trans yu1
              have hf5 : U5.frozen? ⟨w.heap.size, 1, none⟩ = false := (HB5.out.frozen (p := ⟨w.heap.size, 1, none⟩) hlh).trans yf1
              refine hK.out _ _ ⟨(HB5.out.cell (p := ⟨w.heap.size + 1, 0, none⟩) hlx).trans xu0, (HB5.out.cell (p := ⟨w.heap.size + 1, 1, none⟩) hlx).trans xu1, (HB5.out.cell (p := ⟨w.heap.size + 1, 2, none⟩) hlx).trans xu2⟩ (fun hH11 => ?_)
              clear hK K
              clear hH10
              refine wpAnyH_take (i := 12) (oi := { dst := some 35, op := Go.Op.fieldAddr 34 (Go.Operand.tmp 2) 1, type := 0, pos := "ref.go:96", after := #[{ on := 0, ground := Go.Ground.phase }, { on := 1, ground := Go.Ground.phase }, { on := 2, ground := Go.Ground.phase }, { on := 3, ground := Go.Ground.phase }, { on := 4, ground := Go.Ground.phase }, { on := 5, ground := Go.Ground.phase }, { on := 6, ground := Go.Ground.phase }, { on := 7, ground := Go.Ground.phase }, { on := 8, ground := Go.Ground.phase }, { on := 9, ground := Go.Ground.phase }, { on := 10, ground := Go.Ground.phase }, { on := 11, ground := Go.Ground.phase }], guard := none }) (v := ?_) rfl (by kernel_rfl) (by kernel_rfl) (by kernel_rfl) (fun _ _ _ h => h) (Or.inl ⟨by rfl, ?_⟩) hH11 ?_
              rotate_left
              · (intro w hSw; (try dsimp only at hSw); go_simp; (try with_reducible rfl))
              (try simp only [Act.put, List.setIfInBounds_toArray, List.set_cons_zero, List.set_cons_succ])
              refine wpAnyH_ready (rs := [13]) (by kernel_rfl) (by simp) ?_
              refine AllReadyH.cons (o := { dst := none, op := Go.Op.store 32 (Go.Operand.tmp 35) (Go.Operand.tmp 34), type := 0, pos := "ref.go:96", after := #[{ on := 12, ground := Go.Ground.data }, { on := 11, ground := Go.Ground.data }, { on := 11, ground := Go.Ground.chain }, { on := 0, ground := Go.Ground.phase }, { on := 1, ground := Go.Ground.phase }, { on := 2, ground := Go.Ground.phase }, { on := 3, ground := Go.Ground.phase }, { on := 4, ground := Go.Ground.phase }, { on := 5, ground := Go.Ground.phase }, { on := 6, ground := Go.Ground.phase }, { on := 7, ground := Go.Ground.phase }, { on := 8, ground := Go.Ground.phase }, { on := 9, ground := Go.Ground.phase }, { on := 10, ground := Go.Ground.phase }, { on := 11, ground := Go.Ground.phase }], guard := none }) rfl (fun K hK => ?_) ?_
              · skip
                go_simp
                refine hK.out _ _ ⟨(World.cell?_setCell_far _ _ _ _ (by simp)).trans ((HB5.out.cell (p := ⟨w.heap.size + 1, 0, none⟩) hlx).trans xu0), (World.cell?_setCell_far _ _ _ _ (by simp)).trans ((HB5.out.cell (p := ⟨w.heap.size + 1, 1, none⟩) hlx).trans xu1), (World.cell?_setCell_far _ _ _ _ (by simp)).trans ((HB5.out.cell (p := ⟨w.heap.size + 1, 2, none⟩) hlx).trans xu2)⟩ (fun hH13 => ?_)
                clear hK K
                clear hH11
                refine wpAnyH_done (by kernel_rfl) ?_ _
                have Lh9 := (HLh.out.below HB5.out HLh.out.lt).set 1 (.slice (some ⟨g34, 0, none⟩) (n + 1) cap34)
                have Lr9 := (HLr.out.below HB5.out HLr.out.lt).far (p := ⟨w.heap.size, 1, none⟩) (by simp; omega) (.slice (some ⟨g34, 0, none⟩) (n + 1) cap34)
                have FIN9 := Lib.hid (Owned.far FIN.out (HLh.out.below HB5.out HLh.out.lt) (by decide) (by decide) 1 (.slice (some ⟨g34, 0, none⟩) (n + 1) cap34))
                have B9 := Lib.hid ((on B0.out B0.out.size HB5.out).setCell (p := ⟨w.heap.size, 1, none⟩) (by simp) (.slice (some ⟨g34, 0, none⟩) (n + 1) cap34))
                clear hb5 hf5
                refine named2 (fun V hV => ?_)
                rw [← hV] at Lh9 Lr9 FIN9 B9
                clear hV
                have a0 : V.cell? ⟨w.heap.size, 0, none⟩ = some (.int .i64 (Z : Int)) := Lh9.cell 0
                have a1 : V.cell? ⟨w.heap.size, 1, none⟩ = some (.slice (some ⟨g34, 0, none⟩) (n + 1) cap34) := Lh9.cell 1
                have c0 : V.cell? ⟨w.heap.size + 1 + 1, 0, none⟩ = some (.int .i64 0) := Lr9.cell 0
                have c1 : V.cell? ⟨w.heap.size + 1 + 1, 1, none⟩ = some (.slice none 0 0) := Lr9.cell 1
                have c2 := Lr9.frozen 0
                have c3 := Lr9.frozen 1
                have c4 := Lr9.lt
                have HLr9 := Lib.hid Lr9
                clear Lh9 Lr9
                go_wp2
                exact bodyPost_ret (v := .tuple #[.agg #[.int .i64 (Z : Int), .slice (some ⟨g34, 0, none⟩) (n + 1) cap34], .int .i64 (N : Int), .int .i64 0]) (by simp [results, Tryz.results41, go_sem, a0, a1, c0, c1, c2, c3, c4]) rfl ⟨⟨_, _, _, rfl, Owned.far (Owned.far FIN9.out HLr9.out (by decide) (by decide) 0 _) (HLr9.out.set 0 _) (by decide) (by decide) 1 _, fun N0 h0 ho => OFF.out N0 (Nat.lt_of_lt_of_le h0 B0.out.size) ho⟩, by
                  have := B9.out
                  repeat (first | exact this | refine Below.setCell ?_ (by simp <;> omega) _)⟩
              exact AllReadyH.nil
            exact AllReadyH.nil
          exact AllReadyH.nil
        refine AllReadyH.cons (o := { dst := some 33, op := Go.Op.buildSlice 32 1 #[(0, Go.Operand.tmp 32)], type := 32, pos := "ref.go:96", after := #[{ on := 9, ground := Go.Ground.data }], guard := none }) rfl (fun K hK => ?_) ?_
        · skip
          go_simp
          refine named (fun U3 hU => ?_)
          have HB3 := Lib.hid (show Below U0.heap.size U0 U3 by rw [hU]; exact HB2.out.alloc HB2.out.size _)
          have hs3 : U2.heap.size < U3.heap.size := by rw [hU]; simp
          have O23_3 := Lib.hid (show U3.ownsRow U0.heap.size 66 5 (.slice (some ⟨U1.heap.size, 0, none⟩) 0 0) 0 [] by rw [hU]; exact owns_any O23_2.out (below_one _ _))
          have MK_3 := Lib.hid (show Lies U3 U0.heap.size 3 (noughts l) by rw [hU]; exact MK_2.out.alloc _)
          have OB_3 := Lib.hid (show Lies U3 U2.heap.size 66 [.int .i64 (N : Int), .int .i64 k, .int .i64 (l : Int), .int .i64 p, .slice (some ⟨U0.heap.size, 0, none⟩) l l] by rw [hU]; exact Lies.new U2 66 [.int .i64 (N : Int), .int .i64 k, .int .i64 (l : Int), .int .i64 p, .slice (some ⟨U0.heap.size, 0, none⟩) l l])
          clear hU
          clear HB2 MK_2 O23_2
          refine hK.out _ _ ⟨(HB3.out.cell (p := ⟨w.heap.size + 1, 0, none⟩) hlx).trans xu0, (HB3.out.cell (p := ⟨w.heap.size + 1, 1, none⟩) hlx).trans xu1, (HB3.out.cell (p := ⟨w.heap.size + 1, 2, none⟩) hlx).trans xu2⟩ (fun hH9 => ?_)
          clear hK K
          clear hH8
          refine wpAnyH_ready (rs := [3]) (by kernel_rfl) (by simp) ?_
          refine AllReadyH.cons (o := { dst := some 26, op := Go.Op.call { callee := Go.Callee.builtin Go.Builtin.append, args := #[Go.Operand.tmp 23, Go.Operand.tmp 25], argTypes := #[32, 32] }, type := 32, pos := "ref.go:96", after := #[{ on := 0, ground := Go.Ground.data }, { on := 2, ground := Go.Ground.data }], guard := none }) rfl (fun K hK => ?_) ?_
          · skip
            refine step_list rfl (.tmp 23) (.tmp 25) rfl U0.heap.size U1.heap.size 0 rfl O23_3.out base A n c xs rfl (owns_any OWN.out.own HB3.out) ONE.out (by omega) HB3.out.size ?_
            intro g26 cap26 U4 O26 G26
            have HB4 := Lib.hid (below_row HB3.out HB3.out.size G26 (by omega))
            have hs4 : U3.heap.size ≤ U4.heap.size := G26.size
            have MK_4 := Lib.hid (show Lies U4 U0.heap.size 3 (noughts l) from lies_grown' MK_3.out (by omega) G26)
            have OB_4 := Lib.hid (show Lies U4 U2.heap.size 66 [.int .i64 (N : Int), .int .i64 k, .int .i64 (l : Int), .int .i64 p, .slice (some ⟨U0.heap.size, 0, none⟩) l l] from lies_grown' OB_3.out (by omega) G26)
            have O26_4 := Lib.hid O26
            clear O26 G26
            clear HB3 MK_3 O23_3 OB_3
            (try clear hb3)
            refine hK.out _ _ ⟨(HB4.out.cell (p := ⟨w.heap.size + 1, 0, none⟩) hlx).trans xu0, (HB4.out.cell (p := ⟨w.heap.size + 1, 1, none⟩) hlx).trans xu1, (HB4.out.cell (p := ⟨w.heap.size + 1, 2, none⟩) hlx).trans xu2⟩ (fun hH10 => ?_)
            clear hK K
            clear hH9
            refine wpAnyH_ready (rs := [11]) (by kernel_rfl) (by simp) ?_
            refine AllReadyH.cons (o := { dst := some 34, op := Go.Op.call { callee := Go.Callee.builtin Go.Builtin.append, args := #[Go.Operand.tmp 26, Go.Operand.tmp 33], argTypes := #[32, 32] }, type := 32, pos := "ref.go:96", after := #[{ on := 3, ground := Go.Ground.data }, { on := 10, ground := Go.Ground.data }, { on := 3, ground := Go.Ground.chain }], guard := none }) rfl (fun K hK => ?_) ?_
            · skip
              refine step_one rfl (.tmp 26) (.tmp 33) rfl U0.heap.size g26 n cap26 xs rfl O26_4.out U2.heap.size 1 [.int .i64 (N : Int), .int .i64 k, .int .i64 (l : Int), .int .i64 p, .slice (some ⟨U0.heap.size, 0, none⟩) l l] rfl OB_4.out rfl (one_cells _ _ _ _ _) (by omega) HB4.out.size ?_
              intro g34 cap34 U5 O34 G34
              have HB5 := Lib.hid (below_row HB4.out HB4.out.size G34 (owns_ge O26_4.out))
              have MK_5 := Lib.hid (show Lies U5 U0.heap.size 3 (noughts l) from lies_grown MK_4.out O26_4.out (by decide) G34)
              have FIN := Lib.hid (place_owned OWN.out HB5.out O34 MK_5.out hbU (by omega) HN.out hg).1
              have OFF := Lib.hid (place_owned OWN.out HB5.out O34 MK_5.out hbU (by omega) HN.out hg).2
              clear O34 G34
              clear HB4 MK_4 OB_4 O26_4
              clear MK_5
              have hb5 : U5.cell? ⟨w.heap.size, 1, none⟩ = some (.slice A n c) := (HB5.out.cell (p := ⟨w.heap.size, 1, none⟩) hlh).trans yu1
              have hf5 : U5.frozen? ⟨w.heap.size, 1, none⟩ = false := (HB5.out.frozen (p := ⟨w.heap.size, 1, none⟩) hlh).trans yf1
              refine hK.out _ _ ⟨(HB5.out.cell (p := ⟨w.heap.size + 1, 0, none⟩) hlx).trans xu0, (HB5.out.cell (p := ⟨w.heap.size + 1, 1, none⟩) hlx).trans xu1, (HB5.out.cell (p := ⟨w.heap.size + 1, 2, none⟩) hlx).trans xu2⟩ (fun hH11 => ?_)
              clear hK K
              clear hH10
              refine wpAnyH_take (i := 12) (oi := { dst := some 35, op := Go.Op.fieldAddr 34 (Go.Operand.tmp 2) 1, type := 0, pos := "ref.go:96", after := #[{ on := 0, ground := Go.Ground.phase }, { on := 1, ground := Go.Ground.phase }, { on := 2, ground := Go.Ground.phase }, { on := 3, ground := Go.Ground.phase }, { on := 4, ground := Go.Ground.phase }, { on := 5, ground := Go.Ground.phase }, { on := 6, ground := Go.Ground.phase }, { on := 7, ground := Go.Ground.phase }, { on := 8, ground := Go.Ground.phase }, { on := 9, ground := Go.Ground.phase }, { on := 10, ground := Go.Ground.phase }, { on := 11, ground := Go.Ground.phase }], guard := none }) (v := ?_) rfl (by kernel_rfl) (by kernel_rfl) (by kernel_rfl) (fun _ _ _ h => h) (Or.inl ⟨by rfl, ?_⟩) hH11 ?_
              rotate_left
              · (intro w hSw; (try dsimp only at hSw); go_simp; (try with_reducible rfl))
              (try simp only [Act.put, List.setIfInBounds_toArray, List.set_cons_zero, List.set_cons_succ])
              refine wpAnyH_ready (rs := [13]) (by kernel_rfl) (by simp) ?_
              refine AllReadyH.cons (o := { dst := none, op := Go.Op.store 32 (Go.Operand.tmp 35) (Go.Operand.tmp 34), type := 0, pos := "ref.go:96", after := #[{ on := 12, ground := Go.Ground.data }, { on := 11, ground := Go.Ground.data }, { on := 11, ground := Go.Ground.chain }, { on := 0, ground := Go.Ground.phase }, { on := 1, ground := Go.Ground.phase }, { on := 2, ground := Go.Ground.phase }, { on := 3, ground := Go.Ground.phase }, { on := 4, ground := Go.Ground.phase }, { on := 5, ground := Go.Ground.phase }, { on := 6, ground := Go.Ground.phase }, { on := 7, ground := Go.Ground.phase }, { on := 8, ground := Go.Ground.phase }, { on := 9, ground := Go.Ground.phase }, { on := 10, ground := Go.Ground.phase }, { on := 11, ground := Go.Ground.phase }], guard := none }) rfl (fun K hK => ?_) ?_
              · skip
                go_simp
                refine hK.out _ _ ⟨(World.cell?_setCell_far _ _ _ _ (by simp)).trans ((HB5.out.cell (p := ⟨w.heap.size + 1, 0, none⟩) hlx).trans xu0), (World.cell?_setCell_far _ _ _ _ (by simp)).trans ((HB5.out.cell (p := ⟨w.heap.size + 1, 1, none⟩) hlx).trans xu1), (World.cell?_setCell_far _ _ _ _ (by simp)).trans ((HB5.out.cell (p := ⟨w.heap.size + 1, 2, none⟩) hlx).trans xu2)⟩ (fun hH13 => ?_)
                clear hK K
                clear hH11
                refine wpAnyH_done (by kernel_rfl) ?_ _
                have Lh9 := (HLh.out.below HB5.out HLh.out.lt).set 1 (.slice (some ⟨g34, 0, none⟩) (n + 1) cap34)
                have Lr9 := (HLr.out.below HB5.out HLr.out.lt).far (p := ⟨w.heap.size, 1, none⟩) (by simp; omega) (.slice (some ⟨g34, 0, none⟩) (n + 1) cap34)
                have FIN9 := Lib.hid (Owned.far FIN.out (HLh.out.below HB5.out HLh.out.lt) (by decide) (by decide) 1 (.slice (some ⟨g34, 0, none⟩) (n + 1) cap34))
                have B9 := Lib.hid ((on B0.out B0.out.size HB5.out).setCell (p := ⟨w.heap.size, 1, none⟩) (by simp) (.slice (some ⟨g34, 0, none⟩) (n + 1) cap34))
                clear hb5 hf5
                refine named2 (fun V hV => ?_)
                rw [← hV] at Lh9 Lr9 FIN9 B9
                clear hV
                have a0 : V.cell? ⟨w.heap.size, 0, none⟩ = some (.int .i64 (Z : Int)) := Lh9.cell 0
                have a1 : V.cell? ⟨w.heap.size, 1, none⟩ = some (.slice (some ⟨g34, 0, none⟩) (n + 1) cap34) := Lh9.cell 1
                have c0 : V.cell? ⟨w.heap.size + 1 + 1, 0, none⟩ = some (.int .i64 0) := Lr9.cell 0
                have c1 : V.cell? ⟨w.heap.size + 1 + 1, 1, none⟩ = some (.slice none 0 0) := Lr9.cell 1
                have c2 := Lr9.frozen 0
                have c3 := Lr9.frozen 1
                have c4 := Lr9.lt
                have HLr9 := Lib.hid Lr9
                clear Lh9 Lr9
                go_wp2
                exact bodyPost_ret (v := .tuple #[.agg #[.int .i64 (Z : Int), .slice (some ⟨g34, 0, none⟩) (n + 1) cap34], .int .i64 (N : Int), .int .i64 0]) (by simp [results, Tryz.results41, go_sem, a0, a1, c0, c1, c2, c3, c4]) rfl ⟨⟨_, _, _, rfl, Owned.far (Owned.far FIN9.out HLr9.out (by decide) (by decide) 0 _) (HLr9.out.set 0 _) (by decide) (by decide) 1 _, fun N0 h0 ho => OFF.out N0 (Nat.lt_of_lt_of_le h0 B0.out.size) ho⟩, by
                  have := B9.out
                  repeat (first | exact this | refine Below.setCell ?_ (by simp <;> omega) _)⟩
              exact AllReadyH.nil
            exact AllReadyH.nil
          exact AllReadyH.nil
        exact AllReadyH.nil
      refine AllReadyH.cons (o := { dst := some 33, op := Go.Op.buildSlice 32 1 #[(0, Go.Operand.tmp 32)], type := 32, pos := "ref.go:96", after := #[{ on := 9, ground := Go.Ground.data }], guard := none }) rfl (fun K hK => ?_) ?_
      · skip
        go_simp
        refine named (fun U2 hU => ?_)
        have HB2 := Lib.hid (show Below U0.heap.size U0 U2 by rw [hU]; exact HB1.out.alloc HB1.out.size _)
        have hs2 : U1.heap.size < U2.heap.size := by rw [hU]; simp
        have MK_2 := Lib.hid (show Lies U2 U0.heap.size 3 (noughts l) by rw [hU]; exact MK_1.out.alloc _)
        have OB_2 := Lib.hid (show Lies U2 U1.heap.size 66 [.int .i64 (N : Int), .int .i64 k, .int .i64 (l : Int), .int .i64 p, .slice (some ⟨U0.heap.size, 0, none⟩) l l] by rw [hU]; exact Lies.new U1 66 [.int .i64 (N : Int), .int .i64 k, .int .i64 (l : Int), .int .i64 p, .slice (some ⟨U0.heap.size, 0, none⟩) l l])
        clear hU
        clear HB1 MK_1
        refine hK.out _ _ ⟨(HB2.out.cell (p := ⟨w.heap.size + 1, 0, none⟩) hlx).trans xu0, (HB2.out.cell (p := ⟨w.heap.size + 1, 1, none⟩) hlx).trans xu1, (HB2.out.cell (p := ⟨w.heap.size + 1, 2, none⟩) hlx).trans xu2⟩ (fun hH8 => ?_)
        clear hK K
        clear hH6
        refine wpAnyH_ready (rs := [0]) (by kernel_rfl) (by simp) ?_
        refine AllReadyH.cons (o := { dst := some 23, op := Go.Op.buildSlice 32 0 #[], type := 32, pos := "ref.go:96", after := #[], guard := none }) rfl (fun K hK => ?_) ?_
        · skip
          go_simp
          refine named (fun U3 hU => ?_)
          have HB3 := Lib.hid (show Below U0.heap.size U0 U3 by rw [hU]; exact HB2.out.alloc HB2.out.size _)
          have hs3 : U2.heap.size < U3.heap.size := by rw [hU]; simp
          have MK_3 := Lib.hid (show Lies U3 U0.heap.size 3 (noughts l) by rw [hU]; exact MK_2.out.alloc _)
          have OB_3 := Lib.hid (show Lies U3 U1.heap.size 66 [.int .i64 (N : Int), .int .i64 k, .int .i64 (l : Int), .int .i64 p, .slice (some ⟨U0.heap.size, 0, none⟩) l l] by rw [hU]; exact OB_2.out.alloc _)
          have O23_3 := Lib.hid (show U3.ownsRow U0.heap.size 66 5 (.slice (some ⟨U2.heap.size, 0, none⟩) 0 0) 0 [] by rw [hU]; exact own_new53 U2 HB2.out.size)
          clear hU
          clear HB2 MK_2 OB_2
          refine hK.out _ _ ⟨(HB3.out.cell (p := ⟨w.heap.size + 1, 0, none⟩) hlx).trans xu0, (HB3.out.cell (p := ⟨w.heap.size + 1, 1, none⟩) hlx).trans xu1, (HB3.out.cell (p := ⟨w.heap.size + 1, 2, none⟩) hlx).trans xu2⟩ (fun hH9 => ?_)
          clear hK K
          clear hH8
          refine wpAnyH_ready (rs := [3]) (by kernel_rfl) (by simp) ?_
          refine AllReadyH.cons (o := { dst := some 26, op := Go.Op.call { callee := Go.Callee.builtin Go.Builtin.append, args := #[Go.Operand.tmp 23, Go.Operand.tmp 25], argTypes := #[32, 32] }, type := 32, pos := "ref.go:96", after := #[{ on := 0, ground := Go.Ground.data }, { on := 2, ground := Go.Ground.data }], guard := none }) rfl (fun K hK => ?_) ?_
          · skip
            refine step_list rfl (.tmp 23) (.tmp 25) rfl U0.heap.size U2.heap.size 0 rfl O23_3.out base A n c xs rfl (owns_any OWN.out.own HB3.out) ONE.out (by omega) HB3.out.size ?_
            intro g26 cap26 U4 O26 G26
            have HB4 := Lib.hid (below_row HB3.out HB3.out.size G26 (by omega))
            have hs4 : U3.heap.size ≤ U4.heap.size := G26.size
            have MK_4 := Lib.hid (show Lies U4 U0.heap.size 3 (noughts l) from lies_grown' MK_3.out (by omega) G26)
            have OB_4 := Lib.hid (show Lies U4 U1.heap.size 66 [.int .i64 (N : Int), .int .i64 k, .int .i64 (l : Int), .int .i64 p, .slice (some ⟨U0.heap.size, 0, none⟩) l l] from lies_grown' OB_3.out (by omega) G26)
            have O26_4 := Lib.hid O26
            clear O26 G26
            clear HB3 MK_3 OB_3 O23_3
            (try clear hb3)
            refine hK.out _ _ ⟨(HB4.out.cell (p := ⟨w.heap.size + 1, 0, none⟩) hlx).trans xu0, (HB4.out.cell (p := ⟨w.heap.size + 1, 1, none⟩) hlx).trans xu1, (HB4.out.cell (p := ⟨w.heap.size + 1, 2, none⟩) hlx).trans xu2⟩ (fun hH10 => ?_)
            clear hK K
            clear hH9
            refine wpAnyH_ready (rs := [11]) (by kernel_rfl) (by simp) ?_
            refine AllReadyH.cons (o := { dst := some 34, op := Go.Op.call { callee := Go.Callee.builtin Go.Builtin.append, args := #[Go.Operand.tmp 26, Go.Operand.tmp 33], argTypes := #[32, 32] }, type := 32, pos := "ref.go:96", after := #[{ on := 3, ground := Go.Ground.data }, { on := 10, ground := Go.Ground.data }, { on := 3, ground := Go.Ground.chain }], guard := none }) rfl (fun K hK => ?_) ?_
            · skip
              refine step_one rfl (.tmp 26) (.tmp 33) rfl U0.heap.size g26 n cap26 xs rfl O26_4.out U1.heap.size 1 [.int .i64 (N : Int), .int .i64 k, .int .i64 (l : Int), .int .i64 p, .slice (some ⟨U0.heap.size, 0, none⟩) l l] rfl OB_4.out rfl (one_cells _ _ _ _ _) (by omega) HB4.out.size ?_
              intro g34 cap34 U5 O34 G34
              have HB5 := Lib.hid (below_row HB4.out HB4.out.size G34 (owns_ge O26_4.out))
              have MK_5 := Lib.hid (show Lies U5 U0.heap.size 3 (noughts l) from lies_grown MK_4.out O26_4.out (by decide) G34)
              have FIN := Lib.hid (place_owned OWN.out HB5.out O34 MK_5.out hbU (by omega) HN.out hg).1
              have OFF := Lib.hid (place_owned OWN.out HB5.out O34 MK_5.out hbU (by omega) HN.out hg).2
              clear O34 G34
              clear HB4 MK_4 OB_4 O26_4
              clear MK_5
              have hb5 : U5.cell? ⟨w.heap.size, 1, none⟩ = some (.slice A n c) := (HB5.out.cell (p := ⟨w.heap.size, 1, none⟩) hlh).trans yu1
              have hf5 : U5.frozen? ⟨w.heap.size, 1, none⟩ = false := (HB5.out.frozen (p := ⟨w.heap.size, 1, none⟩) hlh).trans yf1
              refine hK.out _ _ ⟨(HB5.out.cell (p := ⟨w.heap.size + 1, 0, none⟩) hlx).trans xu0, (HB5.out.cell (p := ⟨w.heap.size + 1, 1, none⟩) hlx).trans xu1, (HB5.out.cell (p := ⟨w.heap.size + 1, 2, none⟩) hlx).trans xu2⟩ (fun hH11 => ?_)
              clear hK K
              clear hH10
              refine wpAnyH_take (i := 12) (oi := { dst := some 35, op := Go.Op.fieldAddr 34 (Go.Operand.tmp 2) 1, type := 0, pos := "ref.go:96", after := #[{ on := 0, ground := Go.Ground.phase }, { on := 1, ground := Go.Ground.phase }, { on := 2, ground := Go.Ground.phase }, { on := 3, ground := Go.Ground.phase }, { on := 4, ground := Go.Ground.phase }, { on := 5, ground := Go.Ground.phase }, { on := 6, ground := Go.Ground.phase }, { on := 7, ground := Go.Ground.phase }, { on := 8, ground := Go.Ground.phase }, { on := 9, ground := Go.Ground.phase }, { on := 10, ground := Go.Ground.phase }, { on := 11, ground := Go.Ground.phase }], guard := none }) (v := ?_) rfl (by kernel_rfl) (by kernel_rfl) (by kernel_rfl) (fun _ _ _ h => h) (Or.inl ⟨by rfl, ?_⟩) hH11 ?_
              rotate_left
              · (intro w hSw; (try dsimp only at hSw); go_simp; (try with_reducible rfl))
              (try simp only [Act.put, List.setIfInBounds_toArray, List.set_cons_zero, List.set_cons_succ])
              refine wpAnyH_ready (rs := [13]) (by kernel_rfl) (by simp) ?_
              refine AllReadyH.cons (o := { dst := none, op := Go.Op.store 32 (Go.Operand.tmp 35) (Go.Operand.tmp 34), type := 0, pos := "ref.go:96", after := #[{ on := 12, ground := Go.Ground.data }, { on := 11, ground := Go.Ground.data }, { on := 11, ground := Go.Ground.chain }, { on := 0, ground := Go.Ground.phase }, { on := 1, ground := Go.Ground.phase }, { on := 2, ground := Go.Ground.phase }, { on := 3, ground := Go.Ground.phase }, { on := 4, ground := Go.Ground.phase }, { on := 5, ground := Go.Ground.phase }, { on := 6, ground := Go.Ground.phase }, { on := 7, ground := Go.Ground.phase }, { on := 8, ground := Go.Ground.phase }, { on := 9, ground := Go.Ground.phase }, { on := 10, ground := Go.Ground.phase }, { on := 11, ground := Go.Ground.phase }], guard := none }) rfl (fun K hK => ?_) ?_
              · skip
                go_simp
                refine hK.out _ _ ⟨(World.cell?_setCell_far _ _ _ _ (by simp)).trans ((HB5.out.cell (p := ⟨w.heap.size + 1, 0, none⟩) hlx).trans xu0), (World.cell?_setCell_far _ _ _ _ (by simp)).trans ((HB5.out.cell (p := ⟨w.heap.size + 1, 1, none⟩) hlx).trans xu1), (World.cell?_setCell_far _ _ _ _ (by simp)).trans ((HB5.out.cell (p := ⟨w.heap.size + 1, 2, none⟩) hlx).trans xu2)⟩ (fun hH13 => ?_)
                clear hK K
                clear hH11
                refine wpAnyH_done (by kernel_rfl) ?_ _
                have Lh9 := (HLh.out.below HB5.out HLh.out.lt).set 1 (.slice (some ⟨g34, 0, none⟩) (n + 1) cap34)
                have Lr9 := (HLr.out.below HB5.out HLr.out.lt).far (p := ⟨w.heap.size, 1, none⟩) (by simp; omega) (.slice (some ⟨g34, 0, none⟩) (n + 1) cap34)
                have FIN9 := Lib.hid (Owned.far FIN.out (HLh.out.below HB5.out HLh.out.lt) (by decide) (by decide) 1 (.slice (some ⟨g34, 0, none⟩) (n + 1) cap34))
                have B9 := Lib.hid ((on B0.out B0.out.size HB5.out).setCell (p := ⟨w.heap.size, 1, none⟩) (by simp) (.slice (some ⟨g34, 0, none⟩) (n + 1) cap34))
                clear hb5 hf5
                refine named2 (fun V hV => ?_)
                rw [← hV] at Lh9 Lr9 FIN9 B9
                clear hV
                have a0 : V.cell? ⟨w.heap.size, 0, none⟩ = some (.int .i64 (Z : Int)) := Lh9.cell 0
                have a1 : V.cell? ⟨w.heap.size, 1, none⟩ = some (.slice (some ⟨g34, 0, none⟩) (n + 1) cap34) := Lh9.cell 1
                have c0 : V.cell? ⟨w.heap.size + 1 + 1, 0, none⟩ = some (.int .i64 0) := Lr9.cell 0
                have c1 : V.cell? ⟨w.heap.size + 1 + 1, 1, none⟩ = some (.slice none 0 0) := Lr9.cell 1
                have c2 := Lr9.frozen 0
                have c3 := Lr9.frozen 1
                have c4 := Lr9.lt
                have HLr9 := Lib.hid Lr9
                clear Lh9 Lr9
                go_wp2
                exact bodyPost_ret (v := .tuple #[.agg #[.int .i64 (Z : Int), .slice (some ⟨g34, 0, none⟩) (n + 1) cap34], .int .i64 (N : Int), .int .i64 0]) (by simp [results, Tryz.results41, go_sem, a0, a1, c0, c1, c2, c3, c4]) rfl ⟨⟨_, _, _, rfl, Owned.far (Owned.far FIN9.out HLr9.out (by decide) (by decide) 0 _) (HLr9.out.set 0 _) (by decide) (by decide) 1 _, fun N0 h0 ho => OFF.out N0 (Nat.lt_of_lt_of_le h0 B0.out.size) ho⟩, by
                  have := B9.out
                  repeat (first | exact this | refine Below.setCell ?_ (by simp <;> omega) _)⟩
              exact AllReadyH.nil
            exact AllReadyH.nil
          exact AllReadyH.nil
        exact AllReadyH.nil
      exact AllReadyH.nil
    exact AllReadyH.nil
  refine AllReadyH.cons (o := { dst := some 31, op := Go.Op.makeSlice 30 (Go.Operand.tmp 30) (Go.Operand.tmp 30), type := 30, pos := "ref.go:96", after := #[{ on := 7, ground := Go.Ground.data }, { on := 7, ground := Go.Ground.data }], guard := none }) rfl (fun K hK => ?_) ?_
  · skip
    go_simp
    refine named (fun U1 hU => ?_)
    have HB1 := Lib.hid (show Below U0.heap.size U0 U1 by rw [hU]; exact HB0.out.alloc HB0.out.size _)
    have hs1 : U0.heap.size < U1.heap.size := by rw [hU]; simp
    have MK_1 := Lib.hid (show Lies U1 U0.heap.size 3 (noughts l) by rw [hU]; exact Lies.new U0 3 (noughts l))
    clear hU
    clear HB0
    have hb1 : U1.cell? ⟨w.heap.size, 1, none⟩ = some (.slice A n c) := (HB1.out.cell (p := ⟨w.heap.size, 1, none⟩) hlh).trans yu1
    clear hb0
    refine hK.out _ _ ⟨(HB1.out.cell (p := ⟨w.heap.size + 1, 0, none⟩) hlx).trans xu0, (HB1.out.cell (p := ⟨w.heap.size + 1, 1, none⟩) hlx).trans xu1, (HB1.out.cell (p := ⟨w.heap.size + 1, 2, none⟩) hlx).trans xu2⟩ (fun hH5 => ?_)
    clear hK K
    refine wpAnyH_take (i := 9) (oi := { dst := some 32, op := Go.Op.build 66 #[(0, Go.Operand.tmp 27), (1, Go.Operand.tmp 28), (2, Go.Operand.tmp 31)], type := 66, pos := "ref.go:96", after := #[{ on := 4, ground := Go.Ground.data }, { on := 5, ground := Go.Ground.data }, { on := 8, ground := Go.Ground.data }], guard := none }) (v := ?_) rfl (by kernel_rfl) (by kernel_rfl) (by kernel_rfl) (fun _ _ _ h => h) (Or.inl ⟨by rfl, ?_⟩) hH5 ?_
    rotate_left
    · (intro w hSw; (try dsimp only at hSw); go_simp; (try with_reducible rfl))
    (try simp only [Act.put, List.setIfInBounds_toArray, List.set_cons_zero, List.set_cons_succ])
    refine wpAnyH_ready (rs := [0, 2, 10]) (by kernel_rfl) (by simp) ?_
    refine AllReadyH.cons (o := { dst := some 23, op := Go.Op.buildSlice 32 0 #[], type := 32, pos := "ref.go:96", after := #[], guard := none }) rfl (fun K hK => ?_) ?_
    · skip
      go_simp
      refine named (fun U2 hU => ?_)
      have HB2 := Lib.hid (show Below U0.heap.size U0 U2 by rw [hU]; exact HB1.out.alloc HB1.out.size _)
      have hs2 : U1.heap.size < U2.heap.size := by rw [hU]; simp
      have MK_2 := Lib.hid (show Lies U2 U0.heap.size 3 (noughts l) by rw [hU]; exact MK_1.out.alloc _)
      have O23_2 := Lib.hid (show U2.ownsRow U0.heap.size 66 5 (.slice (some ⟨U1.heap.size, 0, none⟩) 0 0) 0 [] by rw [hU]; exact own_new53 U1 HB1.out.size)
      clear hU
      clear HB1 MK_1
      have hb2 : U2.cell? ⟨w.heap.size, 1, none⟩ = some (.slice A n c) := (HB2.out.cell (p := ⟨w.heap.size, 1, none⟩) hlh).trans yu1
      clear hb1
      refine hK.out _ _ ⟨(HB2.out.cell (p := ⟨w.heap.size + 1, 0, none⟩) hlx).trans xu0, (HB2.out.cell (p := ⟨w.heap.size + 1, 1, none⟩) hlx).trans xu1, (HB2.out.cell (p := ⟨w.heap.size + 1, 2, none⟩) hlx).trans xu2⟩ (fun hH7 => ?_)
      clear hK K
      clear hH5
      refine wpAnyH_ready (rs := [2, 10]) (by kernel_rfl) (by simp) ?_
      refine AllReadyH.cons (o := { dst := some 25, op := Go.Op.load 32 (Go.Operand.tmp 24), type := 32, pos := "ref.go:96", after := #[{ on := 1, ground := Go.Ground.data }], guard := none }) rfl (fun K hK => ?_) ?_
      · skip
        go_simp
        refine hK.out _ _ ⟨(HB2.out.cell (p := ⟨w.heap.size + 1, 0, none⟩) hlx).trans xu0, (HB2.out.cell (p := ⟨w.heap.size + 1, 1, none⟩) hlx).trans xu1, (HB2.out.cell (p := ⟨w.heap.size + 1, 2, none⟩) hlx).trans xu2⟩ (fun hH8 => ?_)
        clear hK K
        clear hH7
        refine wpAnyH_ready (rs := [3, 10]) (by kernel_rfl) (by simp) ?_
        refine AllReadyH.cons (o := { dst := some 26, op := Go.Op.call { callee := Go.Callee.builtin Go.Builtin.append, args := #[Go.Operand.tmp 23, Go.Operand.tmp 25], argTypes := #[32, 32] }, type := 32, pos := "ref.go:96", after := #[{ on := 0, ground := Go.Ground.data }, { on := 2, ground := Go.Ground.data }], guard := none }) rfl (fun K hK => ?_) ?_
        · skip
          refine step_list rfl (.tmp 23) (.tmp 25) rfl U0.heap.size U1.heap.size 0 rfl O23_2.out base A n c xs rfl (owns_any OWN.out.own HB2.out) ONE.out (by omega) HB2.out.size ?_
          intro g26 cap26 U3 O26 G26
          have HB3 := Lib.hid (below_row HB2.out HB2.out.size G26 (by omega))
          have hs3 : U2.heap.size ≤ U3.heap.size := G26.size
          have MK_3 := Lib.hid (show Lies U3 U0.heap.size 3 (noughts l) from lies_grown' MK_2.out (by omega) G26)
          have O26_3 := Lib.hid O26
          clear O26 G26
          clear HB2 MK_2 O23_2
          (try clear hb2)
          refine hK.out _ _ ⟨(HB3.out.cell (p := ⟨w.heap.size + 1, 0, none⟩) hlx).trans xu0, (HB3.out.cell (p := ⟨w.heap.size + 1, 1, none⟩) hlx).trans xu1, (HB3.out.cell (p := ⟨w.heap.size + 1, 2, none⟩) hlx).trans xu2⟩ (fun hH9 => ?_)
          clear hK K
          clear hH8
          refine wpAnyH_ready (rs := [10]) (by kernel_rfl) (by simp) ?_
          refine AllReadyH.cons (o := { dst := some 33, op := Go.Op.buildSlice 32 1 #[(0, Go.Operand.tmp 32)], type := 32, pos := "ref.go:96", after := #[{ on := 9, ground := Go.Ground.data }], guard := none }) rfl (fun K hK => ?_) ?_
          · skip
            go_simp
            refine named (fun U4 hU => ?_)
            have HB4 := Lib.hid (show Below U0.heap.size U0 U4 by rw [hU]; exact HB3.out.alloc HB3.out.size _)
            have hs4 : U3.heap.size < U4.heap.size := by rw [hU]; simp
            have O26_4 := Lib.hid (show U4.ownsRow U0.heap.size 66 5 (.slice (some ⟨g26, 0, none⟩) n cap26) n xs by rw [hU]; exact owns_any O26_3.out (below_one _ _))
            have MK_4 := Lib.hid (show Lies U4 U0.heap.size 3 (noughts l) by rw [hU]; exact MK_3.out.alloc _)
            have OB_4 := Lib.hid (show Lies U4 U3.heap.size 66 [.int .i64 (N : Int), .int .i64 k, .int .i64 (l : Int), .int .i64 p, .slice (some ⟨U0.heap.size, 0, none⟩) l l] by rw [hU]; exact Lies.new U3 66 [.int .i64 (N : Int), .int .i64 k, .int .i64 (l : Int), .int .i64 p, .slice (some ⟨U0.heap.size, 0, none⟩) l l])
            clear hU
            clear HB3 MK_3 O26_3
            refine hK.out _ _ ⟨(HB4.out.cell (p := ⟨w.heap.size + 1, 0, none⟩) hlx).trans xu0, (HB4.out.cell (p := ⟨w.heap.size + 1, 1, none⟩) hlx).trans xu1, (HB4.out.cell (p := ⟨w.heap.size + 1, 2, none⟩) hlx).trans xu2⟩ (fun hH10 => ?_)
            clear hK K
            clear hH9
            refine wpAnyH_ready (rs := [11]) (by kernel_rfl) (by simp) ?_
            refine AllReadyH.cons (o := { dst := some 34, op := Go.Op.call { callee := Go.Callee.builtin Go.Builtin.append, args := #[Go.Operand.tmp 26, Go.Operand.tmp 33], argTypes := #[32, 32] }, type := 32, pos := "ref.go:96", after := #[{ on := 3, ground := Go.Ground.data }, { on := 10, ground := Go.Ground.data }, { on := 3, ground := Go.Ground.chain }], guard := none }) rfl (fun K hK => ?_) ?_
            · skip
              refine step_one rfl (.tmp 26) (.tmp 33) rfl U0.heap.size g26 n cap26 xs rfl O26_4.out U3.heap.size 1 [.int .i64 (N : Int), .int .i64 k, .int .i64 (l : Int), .int .i64 p, .slice (some ⟨U0.heap.size, 0, none⟩) l l] rfl OB_4.out rfl (one_cells _ _ _ _ _) (by omega) HB4.out.size ?_
              intro g34 cap34 U5 O34 G34
              have HB5 := Lib.hid (below_row HB4.out HB4.out.size G34 (owns_ge O26_4.out))
              have MK_5 := Lib.hid (show Lies U5 U0.heap.size 3 (noughts l) from lies_grown MK_4.out O26_4.out (by decide) G34)
              have FIN := Lib.hid (place_owned OWN.out HB5.out O34 MK_5.out hbU (by omega) HN.out hg).1
              have OFF := Lib.hid (place_owned OWN.out HB5.out O34 MK_5.out hbU (by omega) HN.out hg).2
              clear O34 G34
              clear HB4 MK_4 O26_4 OB_4
              clear MK_5
              have hb5 : U5.cell? ⟨w.heap.size, 1, none⟩ = some (.slice A n c) := (HB5.out.cell (p := ⟨w.heap.size, 1, none⟩) hlh).trans yu1
              have hf5 : U5.frozen? ⟨w.heap.size, 1, none⟩ = false := (HB5.out.frozen (p := ⟨w.heap.size, 1, none⟩) hlh).trans yf1
              refine hK.out _ _ ⟨(HB5.out.cell (p := ⟨w.heap.size + 1, 0, none⟩) hlx).trans xu0, (HB5.out.cell (p := ⟨w.heap.size + 1, 1, none⟩) hlx).trans xu1, (HB5.out.cell (p := ⟨w.heap.size + 1, 2, none⟩) hlx).trans xu2⟩ (fun hH11 => ?_)
              clear hK K
              clear hH10
              refine wpAnyH_take (i := 12) (oi := { dst := some 35, op := Go.Op.fieldAddr 34 (Go.Operand.tmp 2) 1, type := 0, pos := "ref.go:96", after := #[{ on := 0, ground := Go.Ground.phase }, { on := 1, ground := Go.Ground.phase }, { on := 2, ground := Go.Ground.phase }, { on := 3, ground := Go.Ground.phase }, { on := 4, ground := Go.Ground.phase }, { on := 5, ground := Go.Ground.phase }, { on := 6, ground := Go.Ground.phase }, { on := 7, ground := Go.Ground.phase }, { on := 8, ground := Go.Ground.phase }, { on := 9, ground := Go.Ground.phase }, { on := 10, ground := Go.Ground.phase }, { on := 11, ground := Go.Ground.phase }], guard := none }) (v := ?_) rfl (by kernel_rfl) (by kernel_rfl) (by kernel_rfl) (fun _ _ _ h => h) (Or.inl ⟨by rfl, ?_⟩) hH11 ?_
              rotate_left
              · (intro w hSw; (try dsimp only at hSw); go_simp; (try with_reducible rfl))
              (try simp only [Act.put, List.setIfInBounds_toArray, List.set_cons_zero, List.set_cons_succ])
              refine wpAnyH_ready (rs := [13]) (by kernel_rfl) (by simp) ?_
              refine AllReadyH.cons (o := { dst := none, op := Go.Op.store 32 (Go.Operand.tmp 35) (Go.Operand.tmp 34), type := 0, pos := "ref.go:96", after := #[{ on := 12, ground := Go.Ground.data }, { on := 11, ground := Go.Ground.data }, { on := 11, ground := Go.Ground.chain }, { on := 0, ground := Go.Ground.phase }, { on := 1, ground := Go.Ground.phase }, { on := 2, ground := Go.Ground.phase }, { on := 3, ground := Go.Ground.phase }, { on := 4, ground := Go.Ground.phase }, { on := 5, ground := Go.Ground.phase }, { on := 6, ground := Go.Ground.phase }, { on := 7, ground := Go.Ground.phase }, { on := 8, ground := Go.Ground.phase }, { on := 9, ground := Go.Ground.phase }, { on := 10, ground := Go.Ground.phase }, { on := 11, ground := Go.Ground.phase }], guard := none }) rfl (fun K hK => ?_) ?_
              · skip
                go_simp
                refine hK.out _ _ ⟨(World.cell?_setCell_far _ _ _ _ (by simp)).trans ((HB5.out.cell (p := ⟨w.heap.size + 1, 0, none⟩) hlx).trans xu0), (World.cell?_setCell_far _ _ _ _ (by simp)).trans ((HB5.out.cell (p := ⟨w.heap.size + 1, 1, none⟩) hlx).trans xu1), (World.cell?_setCell_far _ _ _ _ (by simp)).trans ((HB5.out.cell (p := ⟨w.heap.size + 1, 2, none⟩) hlx).trans xu2)⟩ (fun hH13 => ?_)
                clear hK K
                clear hH11
                refine wpAnyH_done (by kernel_rfl) ?_ _
                have Lh9 := (HLh.out.below HB5.out HLh.out.lt).set 1 (.slice (some ⟨g34, 0, none⟩) (n + 1) cap34)
                have Lr9 := (HLr.out.below HB5.out HLr.out.lt).far (p := ⟨w.heap.size, 1, none⟩) (by simp; omega) (.slice (some ⟨g34, 0, none⟩) (n + 1) cap34)
                have FIN9 := Lib.hid (Owned.far FIN.out (HLh.out.below HB5.out HLh.out.lt) (by decide) (by decide) 1 (.slice (some ⟨g34, 0, none⟩) (n + 1) cap34))
                have B9 := Lib.hid ((on B0.out B0.out.size HB5.out).setCell (p := ⟨w.heap.size, 1, none⟩) (by simp) (.slice (some ⟨g34, 0, none⟩) (n + 1) cap34))
                clear hb5 hf5
                refine named2 (fun V hV => ?_)
                rw [← hV] at Lh9 Lr9 FIN9 B9
                clear hV
                have a0 : V.cell? ⟨w.heap.size, 0, none⟩ = some (.int .i64 (Z : Int)) := Lh9.cell 0
                have a1 : V.cell? ⟨w.heap.size, 1, none⟩ = some (.slice (some ⟨g34, 0, none⟩) (n + 1) cap34) := Lh9.cell 1
                have c0 : V.cell? ⟨w.heap.size + 1 + 1, 0, none⟩ = some (.int .i64 0) := Lr9.cell 0
                have c1 : V.cell? ⟨w.heap.size + 1 + 1, 1, none⟩ = some (.slice none 0 0) := Lr9.cell 1
                have c2 := Lr9.frozen 0
                have c3 := Lr9.frozen 1
                have c4 := Lr9.lt
                have HLr9 := Lib.hid Lr9
                clear Lh9 Lr9
                go_wp2
                exact bodyPost_ret (v := .tuple #[.agg #[.int .i64 (Z : Int), .slice (some ⟨g34, 0, none⟩) (n + 1) cap34], .int .i64 (N : Int), .int .i64 0]) (by simp [results, Tryz.results41, go_sem, a0, a1, c0, c1, c2, c3, c4]) rfl ⟨⟨_, _, _, rfl, Owned.far (Owned.far FIN9.out HLr9.out (by decide) (by decide) 0 _) (HLr9.out.set 0 _) (by decide) (by decide) 1 _, fun N0 h0 ho => OFF.out N0 (Nat.lt_of_lt_of_le h0 B0.out.size) ho⟩, by
                  have := B9.out
                  repeat (first | exact this | refine Below.setCell ?_ (by simp <;> omega) _)⟩
              exact AllReadyH.nil
            exact AllReadyH.nil
          exact AllReadyH.nil
        refine AllReadyH.cons (o := { dst := some 33, op := Go.Op.buildSlice 32 1 #[(0, Go.Operand.tmp 32)], type := 32, pos := "ref.go:96", after := #[{ on := 9, ground := Go.Ground.data }], guard := none }) rfl (fun K hK => ?_) ?_
        · skip
          go_simp
          refine named (fun U3 hU => ?_)
          have HB3 := Lib.hid (show Below U0.heap.size U0 U3 by rw [hU]; exact HB2.out.alloc HB2.out.size _)
          have hs3 : U2.heap.size < U3.heap.size := by rw [hU]; simp
          have O23_3 := Lib.hid (show U3.ownsRow U0.heap.size 66 5 (.slice (some ⟨U1.heap.size, 0, none⟩) 0 0) 0 [] by rw [hU]; exact owns_any O23_2.out (below_one _ _))
          have MK_3 := Lib.hid (show Lies U3 U0.heap.size 3 (noughts l) by rw [hU]; exact MK_2.out.alloc _)
          have OB_3 := Lib.hid (show Lies U3 U2.heap.size 66 [.int .i64 (N : Int), .int .i64 k, .int .i64 (l : Int), .int .i64 p, .slice (some ⟨U0.heap.size, 0, none⟩) l l] by rw [hU]; exact Lies.new U2 66 [.int .i64 (N : Int), .int .i64 k, .int .i64 (l : Int), .int .i64 p, .slice (some ⟨U0.heap.size, 0, none⟩) l l])
          clear hU
          clear HB2 MK_2 O23_2
          refine hK.out _ _ ⟨(HB3.out.cell (p := ⟨w.heap.size + 1, 0, none⟩) hlx).trans xu0, (HB3.out.cell (p := ⟨w.heap.size + 1, 1, none⟩) hlx).trans xu1, (HB3.out.cell (p := ⟨w.heap.size + 1, 2, none⟩) hlx).trans xu2⟩ (fun hH9 => ?_)
          clear hK K
          clear hH8
          refine wpAnyH_ready (rs := [3]) (by kernel_rfl) (by simp) ?_
          refine AllReadyH.cons (o := { dst := some 26, op := Go.Op.call { callee := Go.Callee.builtin Go.Builtin.append, args := #[Go.Operand.tmp 23, Go.Operand.tmp 25], argTypes := #[32, 32] }, type := 32, pos := "ref.go:96", after := #[{ on := 0, ground := Go.Ground.data }, { on := 2, ground := Go.Ground.data }], guard := none }) rfl (fun K hK => ?_) ?_
          · skip
            refine step_list rfl (.tmp 23) (.tmp 25) rfl U0.heap.size U1.heap.size 0 rfl O23_3.out base A n c xs rfl (owns_any OWN.out.own HB3.out) ONE.out (by omega) HB3.out.size ?_
            intro g26 cap26 U4 O26 G26
            have HB4 := Lib.hid (below_row HB3.out HB3.out.size G26 (by omega))
            have hs4 : U3.heap.size ≤ U4.heap.size := G26.size
            have MK_4 := Lib.hid (show Lies U4 U0.heap.size 3 (noughts l) from lies_grown' MK_3.out (by omega) G26)
            have OB_4 := Lib.hid (show Lies U4 U2.heap.size 66 [.int .i64 (N : Int), .int .i64 k, .int .i64 (l : Int), .int .i64 p, .slice (some ⟨U0.heap.size, 0, none⟩) l l] from lies_grown' OB_3.out (by omega) G26)
            have O26_4 := Lib.hid O26
            clear O26 G26
            clear HB3 MK_3 O23_3 OB_3
            (try clear hb3)
            refine hK.out _ _ ⟨(HB4.out.cell (p := ⟨w.heap.size + 1, 0, none⟩) hlx).trans xu0, (HB4.out.cell (p := ⟨w.heap.size + 1, 1, none⟩) hlx).trans xu1, (HB4.out.cell (p := ⟨w.heap.size + 1, 2, none⟩) hlx).trans xu2⟩ (fun hH10 => ?_)
            clear hK K
            clear hH9
            refine wpAnyH_ready (rs := [11]) (by kernel_rfl) (by simp) ?_
            refine AllReadyH.cons (o := { dst := some 34, op := Go.Op.call { callee := Go.Callee.builtin Go.Builtin.append, args := #[Go.Operand.tmp 26, Go.Operand.tmp 33], argTypes := #[32, 32] }, type := 32, pos := "ref.go:96", after := #[{ on := 3, ground := Go.Ground.data }, { on := 10, ground := Go.Ground.data }, { on := 3, ground := Go.Ground.chain }], guard := none }) rfl (fun K hK => ?_) ?_
            · skip
              refine step_one rfl (.tmp 26) (.tmp 33) rfl U0.heap.size g26 n cap26 xs rfl O26_4.out U2.heap.size 1 [.int .i64 (N : Int), .int .i64 k, .int .i64 (l : Int), .int .i64 p, .slice (some ⟨U0.heap.size, 0, none⟩) l l] rfl OB_4.out rfl (one_cells _ _ _ _ _) (by omega) HB4.out.size ?_
              intro g34 cap34 U5 O34 G34
              have HB5 := Lib.hid (below_row HB4.out HB4.out.size G34 (owns_ge O26_4.out))
              have MK_5 := Lib.hid (show Lies U5 U0.heap.size 3 (noughts l) from lies_grown MK_4.out O26_4.out (by decide) G34)
              have FIN := Lib.hid (place_owned OWN.out HB5.out O34 MK_5.out hbU (by omega) HN.out hg).1
              have OFF := Lib.hid (place_owned OWN.out HB5.out O34 MK_5.out hbU (by omega) HN.out hg).2
              clear O34 G34
              clear HB4 MK_4 OB_4 O26_4
              clear MK_5
              have hb5 : U5.cell? ⟨w.heap.size, 1, none⟩ = some (.slice A n c) := (HB5.out.cell (p := ⟨w.heap.size, 1, none⟩) hlh).trans yu1
              have hf5 : U5.frozen? ⟨w.heap.size, 1, none⟩ = false := (HB5.out.frozen (p := ⟨w.heap.size, 1, none⟩) hlh).trans yf1
              refine hK.out _ _ ⟨(HB5.out.cell (p := ⟨w.heap.size + 1, 0, none⟩) hlx).trans xu0, (HB5.out.cell (p := ⟨w.heap.size + 1, 1, none⟩) hlx).trans xu1, (HB5.out.cell (p := ⟨w.heap.size + 1, 2, none⟩) hlx).trans xu2⟩ (fun hH11 => ?_)
              clear hK K
              clear hH10
              refine wpAnyH_take (i := 12) (oi := { dst := some 35, op := Go.Op.fieldAddr 34 (Go.Operand.tmp 2) 1, type := 0, pos := "ref.go:96", after := #[{ on := 0, ground := Go.Ground.phase }, { on := 1, ground := Go.Ground.phase }, { on := 2, ground := Go.Ground.phase }, { on := 3, ground := Go.Ground.phase }, { on := 4, ground := Go.Ground.phase }, { on := 5, ground := Go.Ground.phase }, { on := 6, ground := Go.Ground.phase }, { on := 7, ground := Go.Ground.phase }, { on := 8, ground := Go.Ground.phase }, { on := 9, ground := Go.Ground.phase }, { on := 10, ground := Go.Ground.phase }, { on := 11, ground := Go.Ground.phase }], guard := none }) (v := ?_) rfl (by kernel_rfl) (by kernel_rfl) (by kernel_rfl) (fun _ _ _ h => h) (Or.inl ⟨by rfl, ?_⟩) hH11 ?_
              rotate_left
              · (intro w hSw; (try dsimp only at hSw); go_simp; (try with_reducible rfl))
              (try simp only [Act.put, List.setIfInBounds_toArray, List.set_cons_zero, List.set_cons_succ])
              refine wpAnyH_ready (rs := [13]) (by kernel_rfl) (by simp) ?_
              refine AllReadyH.cons (o := { dst := none, op := Go.Op.store 32 (Go.Operand.tmp 35) (Go.Operand.tmp 34), type := 0, pos := "ref.go:96", after := #[{ on := 12, ground := Go.Ground.data }, { on := 11, ground := Go.Ground.data }, { on := 11, ground := Go.Ground.chain }, { on := 0, ground := Go.Ground.phase }, { on := 1, ground := Go.Ground.phase }, { on := 2, ground := Go.Ground.phase }, { on := 3, ground := Go.Ground.phase }, { on := 4, ground := Go.Ground.phase }, { on := 5, ground := Go.Ground.phase }, { on := 6, ground := Go.Ground.phase }, { on := 7, ground := Go.Ground.phase }, { on := 8, ground := Go.Ground.phase }, { on := 9, ground := Go.Ground.phase }, { on := 10, ground := Go.Ground.phase }, { on := 11, ground := Go.Ground.phase }], guard := none }) rfl (fun K hK => ?_) ?_
              · skip
                go_simp
                refine hK.out _ _ ⟨(World.cell?_setCell_far _ _ _ _ (by simp)).trans ((HB5.out.cell (p := ⟨w.heap.size + 1, 0, none⟩) hlx).trans xu0), (World.cell?_setCell_far _ _ _ _ (by simp)).trans ((HB5.out.cell (p := ⟨w.heap.size + 1, 1, none⟩) hlx).trans xu1), (World.cell?_setCell_far _ _ _ _ (by simp)).trans ((HB5.out.cell (p := ⟨w.heap.size + 1, 2, none⟩) hlx).trans xu2)⟩ (fun hH13 => ?_)
                clear hK K
                clear hH11
                refine wpAnyH_done (by kernel_rfl) ?_ _
                have Lh9 := (HLh.out.below HB5.out HLh.out.lt).set 1 (.slice (some ⟨g34, 0, none⟩) (n + 1) cap34)
                have Lr9 := (HLr.out.below HB5.out HLr.out.lt).far (p := ⟨w.heap.size, 1, none⟩) (by simp; omega) (.slice (some ⟨g34, 0, none⟩) (n + 1) cap34)
                have FIN9 := Lib.hid (Owned.far FIN.out (HLh.out.below HB5.out HLh.out.lt) (by decide) (by decide) 1 (.slice (some ⟨g34, 0, none⟩) (n + 1) cap34))
                have B9 := Lib.hid ((on B0.out B0.out.size HB5.out).setCell (p := ⟨w.heap.size, 1, none⟩) (by simp) (.slice (some ⟨g34, 0, none⟩) (n + 1) cap34))
                clear hb5 hf5
                refine named2 (fun V hV => ?_)
                rw [← hV] at Lh9 Lr9 FIN9 B9
                clear hV
                have a0 : V.cell? ⟨w.heap.size, 0, none⟩ = some (.int .i64 (Z : Int)) := Lh9.cell 0
                have a1 : V.cell? ⟨w.heap.size, 1, none⟩ = some (.slice (some ⟨g34, 0, none⟩) (n + 1) cap34) := Lh9.cell 1
                have c0 : V.cell? ⟨w.heap.size + 1 + 1, 0, none⟩ = some (.int .i64 0) := Lr9.cell 0
                have c1 : V.cell? ⟨w.heap.size + 1 + 1, 1, none⟩ = some (.slice none 0 0) := Lr9.cell 1
                have c2 := Lr9.frozen 0
                have c3 := Lr9.frozen 1
                have c4 := Lr9.lt
                have HLr9 := Lib.hid Lr9
                clear Lh9 Lr9
                go_wp2
                exact bodyPost_ret (v := .tuple #[.agg #[.int .i64 (Z : Int), .slice (some ⟨g34, 0, none⟩) (n + 1) cap34], .int .i64 (N : Int), .int .i64 0]) (by simp [results, Tryz.results41, go_sem, a0, a1, c0, c1, c2, c3, c4]) rfl ⟨⟨_, _, _, rfl, Owned.far (Owned.far FIN9.out HLr9.out (by decide) (by decide) 0 _) (HLr9.out.set 0 _) (by decide) (by decide) 1 _, fun N0 h0 ho => OFF.out N0 (Nat.lt_of_lt_of_le h0 B0.out.size) ho⟩, by
                  have := B9.out
                  repeat (first | exact this | refine Below.setCell ?_ (by simp <;> omega) _)⟩
              exact AllReadyH.nil
            exact AllReadyH.nil
          exact AllReadyH.nil
        exact AllReadyH.nil
      refine AllReadyH.cons (o := { dst := some 33, op := Go.Op.buildSlice 32 1 #[(0, Go.Operand.tmp 32)], type := 32, pos := "ref.go:96", after := #[{ on := 9, ground := Go.Ground.data }], guard := none }) rfl (fun K hK => ?_) ?_
      · skip
        go_simp
        refine named (fun U3 hU => ?_)
        have HB3 := Lib.hid (show Below U0.heap.size U0 U3 by rw [hU]; exact HB2.out.alloc HB2.out.size _)
        have hs3 : U2.heap.size < U3.heap.size := by rw [hU]; simp
        have O23_3 := Lib.hid (show U3.ownsRow U0.heap.size 66 5 (.slice (some ⟨U1.heap.size, 0, none⟩) 0 0) 0 [] by rw [hU]; exact owns_any O23_2.out (below_one _ _))
        have MK_3 := Lib.hid (show Lies U3 U0.heap.size 3 (noughts l) by rw [hU]; exact MK_2.out.alloc _)
        have OB_3 := Lib.hid (show Lies U3 U2.heap.size 66 [.int .i64 (N : Int), .int .i64 k, .int .i64 (l : Int), .int .i64 p, .slice (some ⟨U0.heap.size, 0, none⟩) l l] by rw [hU]; exact Lies.new U2 66 [.int .i64 (N : Int), .int .i64 k, .int .i64 (l : Int), .int .i64 p, .slice (some ⟨U0.heap.size, 0, none⟩) l l])
        clear hU
        clear HB2 MK_2 O23_2
        have hb3 : U3.cell? ⟨w.heap.size, 1, none⟩ = some (.slice A n c) := (HB3.out.cell (p := ⟨w.heap.size, 1, none⟩) hlh).trans yu1
        clear hb2
        refine hK.out _ _ ⟨(HB3.out.cell (p := ⟨w.heap.size + 1, 0, none⟩) hlx).trans xu0, (HB3.out.cell (p := ⟨w.heap.size + 1, 1, none⟩) hlx).trans xu1, (HB3.out.cell (p := ⟨w.heap.size + 1, 2, none⟩) hlx).trans xu2⟩ (fun hH8 => ?_)
        clear hK K
        clear hH7
        refine wpAnyH_ready (rs := [2]) (by kernel_rfl) (by simp) ?_
        refine AllReadyH.cons (o := { dst := some 25, op := Go.Op.load 32 (Go.Operand.tmp 24), type := 32, pos := "ref.go:96", after := #[{ on := 1, ground := Go.Ground.data }], guard := none }) rfl (fun K hK => ?_) ?_
        · skip
          go_simp
          refine hK.out _ _ ⟨(HB3.out.cell (p := ⟨w.heap.size + 1, 0, none⟩) hlx).trans xu0, (HB3.out.cell (p := ⟨w.heap.size + 1, 1, none⟩) hlx).trans xu1, (HB3.out.cell (p := ⟨w.heap.size + 1, 2, none⟩) hlx).trans xu2⟩ (fun hH9 => ?_)
          clear hK K
          clear hH8
          refine wpAnyH_ready (rs := [3]) (by kernel_rfl) (by simp) ?_
          refine AllReadyH.cons (o := { dst := some 26, op := Go.Op.call { callee := Go.Callee.builtin Go.Builtin.append, args := #[Go.Operand.tmp 23, Go.Operand.tmp 25], argTypes := #[32, 32] }, type := 32, pos := "ref.go:96", after := #[{ on := 0, ground := Go.Ground.data }, { on := 2, ground := Go.Ground.data }], guard := none }) rfl (fun K hK => ?_) ?_
          · skip
            refine step_list rfl (.tmp 23) (.tmp 25) rfl U0.heap.size U1.heap.size 0 rfl O23_3.out base A n c xs rfl (owns_any OWN.out.own HB3.out) ONE.out (by omega) HB3.out.size ?_
            intro g26 cap26 U4 O26 G26
            have HB4 := Lib.hid (below_row HB3.out HB3.out.size G26 (by omega))
            have hs4 : U3.heap.size ≤ U4.heap.size := G26.size
            have MK_4 := Lib.hid (show Lies U4 U0.heap.size 3 (noughts l) from lies_grown' MK_3.out (by omega) G26)
            have OB_4 := Lib.hid (show Lies U4 U2.heap.size 66 [.int .i64 (N : Int), .int .i64 k, .int .i64 (l : Int), .int .i64 p, .slice (some ⟨U0.heap.size, 0, none⟩) l l] from lies_grown' OB_3.out (by omega) G26)
            have O26_4 := Lib.hid O26
            clear O26 G26
            clear HB3 MK_3 O23_3 OB_3
            (try clear hb3)
            refine hK.out _ _ ⟨(HB4.out.cell (p := ⟨w.heap.size + 1, 0, none⟩) hlx).trans xu0, (HB4.out.cell (p := ⟨w.heap.size + 1, 1, none⟩) hlx).trans xu1, (HB4.out.cell (p := ⟨w.heap.size + 1, 2, none⟩) hlx).trans xu2⟩ (fun hH10 => ?_)
            clear hK K
            clear hH9
            refine wpAnyH_ready (rs := [11]) (by kernel_rfl) (by simp) ?_
            refine AllReadyH.cons (o := { dst := some 34, op := Go.Op.call { callee := Go.Callee.builtin Go.Builtin.append, args := #[Go.Operand.tmp 26, Go.Operand.tmp 33], argTypes := #[32, 32] }, type := 32, pos := "ref.go:96", after := #[{ on := 3, ground := Go.Ground.data }, { on := 10, ground := Go.Ground.data }, { on := 3, ground := Go.Ground.chain }], guard := none }) rfl (fun K hK => ?_) ?_
            · skip
              refine step_one rfl (.tmp 26) (.tmp 33) rfl U0.heap.size g26 n cap26 xs rfl O26_4.out U2.heap.size 1 [.int .i64 (N : Int), .int .i64 k, .int .i64 (l : Int), .int .i64 p, .slice (some ⟨U0.heap.size, 0, none⟩) l l] rfl OB_4.out rfl (one_cells _ _ _ _ _) (by omega) HB4.out.size ?_
              intro g34 cap34 U5 O34 G34
              have HB5 := Lib.hid (below_row HB4.out HB4.out.size G34 (owns_ge O26_4.out))
              have MK_5 := Lib.hid (show Lies U5 U0.heap.size 3 (noughts l) from lies_grown MK_4.out O26_4.out (by decide) G34)
              have FIN := Lib.hid (place_owned OWN.out HB5.out O34 MK_5.out hbU (by omega) HN.out hg).1
              have OFF := Lib.hid (place_owned OWN.out HB5.out O34 MK_5.out hbU (by omega) HN.out hg).2
              clear O34 G34
              clear HB4 MK_4 OB_4 O26_4
              clear MK_5
              have hb5 : U5.cell? ⟨w.heap.size, 1, none⟩ = some (.slice A n c) := (HB5.out.cell (p := ⟨w.heap.size, 1, none⟩) hlh).trans yu1
              have hf5 : U5.frozen? ⟨w.heap.size, 1, none⟩ = false := (HB5.out.frozen (p := ⟨w.heap.size, 1, none⟩) hlh).trans yf1
              refine hK.out _ _ ⟨(HB5.out.cell (p := ⟨w.heap.size + 1, 0, none⟩) hlx).trans xu0, (HB5.out.cell (p := ⟨w.heap.size + 1, 1, none⟩) hlx).trans xu1, (HB5.out.cell (p := ⟨w.heap.size + 1, 2, none⟩) hlx).trans xu2⟩ (fun hH11 => ?_)
              clear hK K
              clear hH10
              refine wpAnyH_take (i := 12) (oi := { dst := some 35, op := Go.Op.fieldAddr 34 (Go.Operand.tmp 2) 1, type := 0, pos := "ref.go:96", after := #[{ on := 0, ground := Go.Ground.phase }, { on := 1, ground := Go.Ground.phase }, { on := 2, ground := Go.Ground.phase }, { on := 3, ground := Go.Ground.phase }, { on := 4, ground := Go.Ground.phase }, { on := 5, ground := Go.Ground.phase }, { on := 6, ground := Go.Ground.phase }, { on := 7, ground := Go.Ground.phase }, { on := 8, ground := Go.Ground.phase }, { on := 9, ground := Go.Ground.phase }, { on := 10, ground := Go.Ground.phase }, { on := 11, ground := Go.Ground.phase }], guard := none }) (v := ?_) rfl (by kernel_rfl) (by kernel_rfl) (by kernel_rfl) (fun _ _ _ h => h) (Or.inl ⟨by rfl, ?_⟩) hH11 ?_
              rotate_left
              · (intro w hSw; (try dsimp only at hSw); go_simp; (try with_reducible rfl))
              (try simp only [Act.put, List.setIfInBounds_toArray, List.set_cons_zero, List.set_cons_succ])
              refine wpAnyH_ready (rs := [13]) (by kernel_rfl) (by simp) ?_
              refine AllReadyH.cons (o := { dst := none, op := Go.Op.store 32 (Go.Operand.tmp 35) (Go.Operand.tmp 34), type := 0, pos := "ref.go:96", after := #[{ on := 12, ground := Go.Ground.data }, { on := 11, ground := Go.Ground.data }, { on := 11, ground := Go.Ground.chain }, { on := 0, ground := Go.Ground.phase }, { on := 1, ground := Go.Ground.phase }, { on := 2, ground := Go.Ground.phase }, { on := 3, ground := Go.Ground.phase }, { on := 4, ground := Go.Ground.phase }, { on := 5, ground := Go.Ground.phase }, { on := 6, ground := Go.Ground.phase }, { on := 7, ground := Go.Ground.phase }, { on := 8, ground := Go.Ground.phase }, { on := 9, ground := Go.Ground.phase }, { on := 10, ground := Go.Ground.phase }, { on := 11, ground := Go.Ground.phase }], guard := none }) rfl (fun K hK => ?_) ?_
              · skip
                go_simp
                refine hK.out _ _ ⟨(World.cell?_setCell_far _ _ _ _ (by simp)).trans ((HB5.out.cell (p := ⟨w.heap.size + 1, 0, none⟩) hlx).trans xu0), (World.cell?_setCell_far _ _ _ _ (by simp)).trans ((HB5.out.cell (p := ⟨w.heap.size + 1, 1, none⟩) hlx).trans xu1), (World.cell?_setCell_far _ _ _ _ (by simp)).trans ((HB5.out.cell (p := ⟨w.heap.size + 1, 2, none⟩) hlx).trans xu2)⟩ (fun hH13 => ?_)
                clear hK K
                clear hH11
                refine wpAnyH_done (by kernel_rfl) ?_ _
                have Lh9 := (HLh.out.below HB5.out HLh.out.lt).set 1 (.slice (some ⟨g34, 0, none⟩) (n + 1) cap34)
                have Lr9 := (HLr.out.below HB5.out HLr.out.lt).far (p := ⟨w.heap.size, 1, none⟩) (by simp; omega) (.slice (some ⟨g34, 0, none⟩) (n + 1) cap34)
                have FIN9 := Lib.hid (Owned.far FIN.out (HLh.out.below HB5.out HLh.out.lt) (by decide) (by decide) 1 (.slice (some ⟨g34, 0, none⟩) (n + 1) cap34))
                have B9 := Lib.hid ((on B0.out B0.out.size HB5.out).setCell (p := ⟨w.heap.size, 1, none⟩) (by simp) (.slice (some ⟨g34, 0, none⟩) (n + 1) cap34))
                clear hb5 hf5
                refine named2 (fun V hV => ?_)
                rw [← hV] at Lh9 Lr9 FIN9 B9
                clear hV
                have a0 : V.cell? ⟨w.heap.size, 0, none⟩ = some (.int .i64 (Z : Int)) := Lh9.cell 0
                have a1 : V.cell? ⟨w.heap.size, 1, none⟩ = some (.slice (some ⟨g34, 0, none⟩) (n + 1) cap34) := Lh9.cell 1
                have c0 : V.cell? ⟨w.heap.size + 1 + 1, 0, none⟩ = some (.int .i64 0) := Lr9.cell 0
                have c1 : V.cell? ⟨w.heap.size + 1 + 1, 1, none⟩ = some (.slice none 0 0) := Lr9.cell 1
                have c2 := Lr9.frozen 0
                have c3 := Lr9.frozen 1
                have c4 := Lr9.lt
                have HLr9 := Lib.hid Lr9
                clear Lh9 Lr9
                go_wp2
                exact bodyPost_ret (v := .tuple #[.agg #[.int .i64 (Z : Int), .slice (some ⟨g34, 0, none⟩) (n + 1) cap34], .int .i64 (N : Int), .int .i64 0]) (by simp [results, Tryz.results41, go_sem, a0, a1, c0, c1, c2, c3, c4]) rfl ⟨⟨_, _, _, rfl, Owned.far (Owned.far FIN9.out HLr9.out (by decide) (by decide) 0 _) (HLr9.out.set 0 _) (by decide) (by decide) 1 _, fun N0 h0 ho => OFF.out N0 (Nat.lt_of_lt_of_le h0 B0.out.size) ho⟩, by
                  have := B9.out
                  repeat (first | exact this | refine Below.setCell ?_ (by simp <;> omega) _)⟩
              exact AllReadyH.nil
            exact AllReadyH.nil
          exact AllReadyH.nil
        exact AllReadyH.nil
      exact AllReadyH.nil
    refine AllReadyH.cons (o := { dst := some 25, op := Go.Op.load 32 (Go.Operand.tmp 24), type := 32, pos := "ref.go:96", after := #[{ on := 1, ground := Go.Ground.data }], guard := none }) rfl (fun K hK => ?_) ?_
    · skip
      go_simp
      refine hK.out _ _ ⟨(HB1.out.cell (p := ⟨w.heap.size + 1, 0, none⟩) hlx).trans xu0, (HB1.out.cell (p := ⟨w.heap.size + 1, 1, none⟩) hlx).trans xu1, (HB1.out.cell (p := ⟨w.heap.size + 1, 2, none⟩) hlx).trans xu2⟩ (fun hH7 => ?_)
      clear hK K
      clear hH5
      refine wpAnyH_ready (rs := [0, 10]) (by kernel_rfl) (by simp) ?_
      refine AllReadyH.cons (o := { dst := some 23, op := Go.Op.buildSlice 32 0 #[], type := 32, pos := "ref.go:96", after := #[], guard := none }) rfl (fun K hK => ?_) ?_
      · skip
        go_simp
        refine named (fun U2 hU => ?_)
        have HB2 := Lib.hid (show Below U0.heap.size U0 U2 by rw [hU]; exact HB1.out.alloc HB1.out.size _)
        have hs2 : U1.heap.size < U2.heap.size := by rw [hU]; simp
        have MK_2 := Lib.hid (show Lies U2 U0.heap.size 3 (noughts l) by rw [hU]; exact MK_1.out.alloc _)
        have O23_2 := Lib.hid (show U2.ownsRow U0.heap.size 66 5 (.slice (some ⟨U1.heap.size, 0, none⟩) 0 0) 0 [] by rw [hU]; exact own_new53 U1 HB1.out.size)
        clear hU
        clear HB1 MK_1
        refine hK.out _ _ ⟨(HB2.out.cell (p := ⟨w.heap.size + 1, 0, none⟩) hlx).trans xu0, (HB2.out.cell (p := ⟨w.heap.size + 1, 1, none⟩) hlx).trans xu1, (HB2.out.cell (p := ⟨w.heap.size + 1, 2, none⟩) hlx).trans xu2⟩ (fun hH8 => ?_)
        clear hK K
        clear hH7
        refine wpAnyH_ready (rs := [3, 10]) (by kernel_rfl) (by simp) ?_
        refine AllReadyH.cons (o := { dst := some 26, op := Go.Op.call { callee := Go.Callee.builtin Go.Builtin.append, args := #[Go.Operand.tmp 23, Go.Operand.tmp 25], argTypes := #[32, 32] }, type := 32, pos := "ref.go:96", after := #[{ on := 0, ground := Go.Ground.data }, { on := 2, ground := Go.Ground.data }], guard := none }) rfl (fun K hK => ?_) ?_
        · skip
          refine step_list rfl (.tmp 23) (.tmp 25) rfl U0.heap.size U1.heap.size 0 rfl O23_2.out base A n c xs rfl (owns_any OWN.out.own HB2.out) ONE.out (by omega) HB2.out.size ?_
          intro g26 cap26 U3 O26 G26
          have HB3 := Lib.hid (below_row HB2.out HB2.out.size G26 (by omega))
          have hs3 : U2.heap.size ≤ U3.heap.size := G26.size
          have MK_3 := Lib.hid (show Lies U3 U0.heap.size 3 (noughts l) from lies_grown' MK_2.out (by omega) G26)
          have O26_3 := Lib.hid O26
          clear O26 G26
          clear HB2 MK_2 O23_2
          (try clear hb2)
          refine hK.out _ _ ⟨(HB3.out.cell (p := ⟨w.heap.size + 1, 0, none⟩) hlx).trans xu0, (HB3.out.cell (p := ⟨w.heap.size + 1, 1, none⟩) hlx).trans xu1, (HB3.out.cell (p := ⟨w.heap.size + 1, 2, none⟩) hlx).trans xu2⟩ (fun hH9 => ?_)
          clear hK K
          clear hH8
          refine wpAnyH_ready (rs := [10]) (by kernel_rfl) (by simp) ?_
          refine AllReadyH.cons (o := { dst := some 33, op := Go.Op.buildSlice 32 1 #[(0, Go.Operand.tmp 32)], type := 32, pos := "ref.go:96", after := #[{ on := 9, ground := Go.Ground.data }], guard := none }) rfl (fun K hK => ?_) ?_
          · skip
            go_simp
            refine named (fun U4 hU => ?_)
            have HB4 := Lib.hid (show Below U0.heap.size U0 U4 by rw [hU]; exact HB3.out.alloc HB3.out.size _)
            have hs4 : U3.heap.size < U4.heap.size := by rw [hU]; simp
            have O26_4 := Lib.hid (show U4.ownsRow U0.heap.size 66 5 (.slice (some ⟨g26, 0, none⟩) n cap26) n xs by rw [hU]; exact owns_any O26_3.out (below_one _ _))
            have MK_4 := Lib.hid (show Lies U4 U0.heap.size 3 (noughts l) by rw [hU]; exact MK_3.out.alloc _)
            have OB_4 := Lib.hid (show Lies U4 U3.heap.size 66 [.int .i64 (N : Int), .int .i64 k, .int .i64 (l : Int), .int .i64 p, .slice (some ⟨U0.heap.size, 0, none⟩) l l] by rw [hU]; exact Lies.new U3 66 [.int .i64 (N : Int), .int .i64 k, .int .i64 (l : Int), .int .i64 p, .slice (some ⟨U0.heap.size, 0, none⟩) l l])
            clear hU
            clear HB3 MK_3 O26_3
            refine hK.out _ _ ⟨(HB4.out.cell (p := ⟨w.heap.size + 1, 0, none⟩) hlx).trans xu0, (HB4.out.cell (p := ⟨w.heap.size + 1, 1, none⟩) hlx).trans xu1, (HB4.out.cell (p := ⟨w.heap.size + 1, 2, none⟩) hlx).trans xu2⟩ (fun hH10 => ?_)
            clear hK K
            clear hH9
            refine wpAnyH_ready (rs := [11]) (by kernel_rfl) (by simp) ?_
            refine AllReadyH.cons (o := { dst := some 34, op := Go.Op.call { callee := Go.Callee.builtin Go.Builtin.append, args := #[Go.Operand.tmp 26, Go.Operand.tmp 33], argTypes := #[32, 32] }, type := 32, pos := "ref.go:96", after := #[{ on := 3, ground := Go.Ground.data }, { on := 10, ground := Go.Ground.data }, { on := 3, ground := Go.Ground.chain }], guard := none }) rfl (fun K hK => ?_) ?_
            · skip
              refine step_one rfl (.tmp 26) (.tmp 33) rfl U0.heap.size g26 n cap26 xs rfl O26_4.out U3.heap.size 1 [.int .i64 (N : Int), .int .i64 k, .int .i64 (l : Int), .int .i64 p, .slice (some ⟨U0.heap.size, 0, none⟩) l l] rfl OB_4.out rfl (one_cells _ _ _ _ _) (by omega) HB4.out.size ?_
              intro g34 cap34 U5 O34 G34
              have HB5 := Lib.hid (below_row HB4.out HB4.out.size G34 (owns_ge O26_4.out))
              have MK_5 := Lib.hid (show Lies U5 U0.heap.size 3 (noughts l) from lies_grown MK_4.out O26_4.out (by decide) G34)
              have FIN := Lib.hid (place_owned OWN.out HB5.out O34 MK_5.out hbU (by omega) HN.out hg).1
              have OFF := Lib.hid (place_owned OWN.out HB5.out O34 MK_5.out hbU (by omega) HN.out hg).2
              clear O34 G34
              clear HB4 MK_4 O26_4 OB_4
              clear MK_5
              have hb5 : U5.cell? ⟨w.heap.size, 1, none⟩ = some (.slice A n c) := (HB5.out.cell (p := ⟨w.heap.size, 1, none⟩) hlh).trans yu1
              have hf5 : U5.frozen? ⟨w.heap.size, 1, none⟩ = false := (HB5.out.frozen (p := ⟨w.heap.size, 1, none⟩) hlh).trans yf1
              refine hK.out _ _ ⟨(HB5.out.cell (p := ⟨w.heap.size + 1, 0, none⟩) hlx).trans xu0, (HB5.out.cell (p := ⟨w.heap.size + 1, 1, none⟩) hlx).trans xu1, (HB5.out.cell (p := ⟨w.heap.size + 1, 2, none⟩) hlx).trans xu2⟩ (fun hH11 => ?_)
              clear hK K
              clear hH10
              refine wpAnyH_take (i := 12) (oi := { dst := some 35, op := Go.Op.fieldAddr 34 (Go.Operand.tmp 2) 1, type := 0, pos := "ref.go:96", after := #[{ on := 0, ground := Go.Ground.phase }, { on := 1, ground := Go.Ground.phase }, { on := 2, ground := Go.Ground.phase }, { on := 3, ground := Go.Ground.phase }, { on := 4, ground := Go.Ground.phase }, { on := 5, ground := Go.Ground.phase }, { on := 6, ground := Go.Ground.phase }, { on := 7, ground := Go.Ground.phase }, { on := 8, ground := Go.Ground.phase }, { on := 9, ground := Go.Ground.phase }, { on := 10, ground := Go.Ground.phase }, { on := 11, ground := Go.Ground.phase }], guard := none }) (v := ?_) rfl (by kernel_rfl) (by kernel_rfl) (by kernel_rfl) (fun _ _ _ h => h) (Or.inl ⟨by rfl, ?_⟩) hH11 ?_
              rotate_left
              · (intro w hSw; (try dsimp only at hSw); go_simp; (try with_reducible rfl))
              (try simp only [Act.put, List.setIfInBounds_toArray, List.set_cons_zero, List.set_cons_succ])
              refine wpAnyH_ready (rs := [13]) (by kernel_rfl) (by simp) ?_
              refine AllReadyH.cons (o := { dst := none, op := Go.Op.store 32 (Go.Operand.tmp 35) (Go.Operand.tmp 34), type := 0, pos := "ref.go:96", after := #[{ on := 12, ground := Go.Ground.data }, { on := 11, ground := Go.Ground.data }, { on := 11, ground := Go.Ground.chain }, { on := 0, ground := Go.Ground.phase }, { on := 1, ground := Go.Ground.phase }, { on := 2, ground := Go.Ground.phase }, { on := 3, ground := Go.Ground.phase }, { on := 4, ground := Go.Ground.phase }, { on := 5, ground := Go.Ground.phase }, { on := 6, ground := Go.Ground.phase }, { on := 7, ground := Go.Ground.phase }, { on := 8, ground := Go.Ground.phase }, { on := 9, ground := Go.Ground.phase }, { on := 10, ground := Go.Ground.phase }, { on := 11, ground := Go.Ground.phase }], guard := none }) rfl (fun K hK => ?_) ?_
              · skip
                go_simp
                refine hK.out _ _ ⟨(World.cell?_setCell_far _ _ _ _ (by simp)).trans ((HB5.out.cell (p := ⟨w.heap.size + 1, 0, none⟩) hlx).trans xu0), (World.cell?_setCell_far _ _ _ _ (by simp)).trans ((HB5.out.cell (p := ⟨w.heap.size + 1, 1, none⟩) hlx).trans xu1), (World.cell?_setCell_far _ _ _ _ (by simp)).trans ((HB5.out.cell (p := ⟨w.heap.size + 1, 2, none⟩) hlx).trans xu2)⟩ (fun hH13 => ?_)
                clear hK K
                clear hH11
                refine wpAnyH_done (by kernel_rfl) ?_ _
                have Lh9 := (HLh.out.below HB5.out HLh.out.lt).set 1 (.slice (some ⟨g34, 0, none⟩) (n + 1) cap34)
                have Lr9 := (HLr.out.below HB5.out HLr.out.lt).far (p := ⟨w.heap.size, 1, none⟩) (by simp; omega) (.slice (some ⟨g34, 0, none⟩) (n + 1) cap34)
                have FIN9 := Lib.hid (Owned.far FIN.out (HLh.out.below HB5.out HLh.out.lt) (by decide) (by decide) 1 (.slice (some ⟨g34, 0, none⟩) (n + 1) cap34))
                have B9 := Lib.hid ((on B0.out B0.out.size HB5.out).setCell (p := ⟨w.heap.size, 1, none⟩) (by simp) (.slice (some ⟨g34, 0, none⟩) (n + 1) cap34))
                clear hb5 hf5
                refine named2 (fun V hV => ?_)
                rw [← hV] at Lh9 Lr9 FIN9 B9
                clear hV
                have a0 : V.cell? ⟨w.heap.size, 0, none⟩ = some (.int .i64 (Z : Int)) := Lh9.cell 0
                have a1 : V.cell? ⟨w.heap.size, 1, none⟩ = some (.slice (some ⟨g34, 0, none⟩) (n + 1) cap34) := Lh9.cell 1
                have c0 : V.cell? ⟨w.heap.size + 1 + 1, 0, none⟩ = some (.int .i64 0) := Lr9.cell 0
                have c1 : V.cell? ⟨w.heap.size + 1 + 1, 1, none⟩ = some (.slice none 0 0) := Lr9.cell 1
                have c2 := Lr9.frozen 0
                have c3 := Lr9.frozen 1
                have c4 := Lr9.lt
                have HLr9 := Lib.hid Lr9
                clear Lh9 Lr9
                go_wp2
                exact bodyPost_ret (v := .tuple #[.agg #[.int .i64 (Z : Int), .slice (some ⟨g34, 0, none⟩) (n + 1) cap34], .int .i64 (N : Int), .int .i64 0]) (by simp [results, Tryz.results41, go_sem, a0, a1, c0, c1, c2, c3, c4]) rfl ⟨⟨_, _, _, rfl, Owned.far (Owned.far FIN9.out HLr9.out (by decide) (by decide) 0 _) (HLr9.out.set 0 _) (by decide) (by decide) 1 _, fun N0 h0 ho => OFF.out N0 (Nat.lt_of_lt_of_le h0 B0.out.size) ho⟩, by
                  have := B9.out
                  repeat (first | exact this | refine Below.setCell ?_ (by simp <;> omega) _)⟩
              exact AllReadyH.nil
            exact AllReadyH.nil
          exact AllReadyH.nil
        refine AllReadyH.cons (o := { dst := some 33, op := Go.Op.buildSlice 32 1 #[(0, Go.Operand.tmp 32)], type := 32, pos := "ref.go:96", after := #[{ on := 9, ground := Go.Ground.data }], guard := none }) rfl (fun K hK => ?_) ?_
        · skip
          go_simp
          refine named (fun U3 hU => ?_)
          have HB3 := Lib.hid (show Below U0.heap.size U0 U3 by rw [hU]; exact HB2.out.alloc HB2.out.size _)
          have hs3 : U2.heap.size < U3.heap.size := by rw [hU]; simp
          have O23_3 := Lib.hid (show U3.ownsRow U0.heap.size 66 5 (.slice (some ⟨U1.heap.size, 0, none⟩) 0 0) 0 [] by rw [hU]; exact owns_any O23_2.out (below_one _ _))
          have MK_3 := Lib.hid (show Lies U3 U0.heap.size 3 (noughts l) by rw [hU]; exact MK_2.out.alloc _)
          have OB_3 := Lib.hid (show Lies U3 U2.heap.size 66 [.int .i64 (N : Int), .int .i64 k, .int .i64 (l : Int), .int .i64 p, .slice (some ⟨U0.heap.size, 0, none⟩) l l] by rw [hU]; exact Lies.new U2 66 [.int .i64 (N : Int), .int .i64 k, .int .i64 (l : Int), .int .i64 p, .slice (some ⟨U0.heap.size, 0, none⟩) l l])
          clear hU
          clear HB2 MK_2 O23_2
          refine hK.out _ _ ⟨(HB3.out.cell (p := ⟨w.heap.size + 1, 0, none⟩) hlx).trans xu0, (HB3.out.cell (p := ⟨w.heap.size + 1, 1, none⟩) hlx).trans xu1, (HB3.out.cell (p := ⟨w.heap.size + 1, 2, none⟩) hlx).trans xu2⟩ (fun hH9 => ?_)
          clear hK K
          clear hH8
          refine wpAnyH_ready (rs := [3]) (by kernel_rfl) (by simp) ?_
          refine AllReadyH.cons (o := { dst := some 26, op := Go.Op.call { callee := Go.Callee.builtin Go.Builtin.append, args := #[Go.Operand.tmp 23, Go.Operand.tmp 25], argTypes := #[32, 32] }, type := 32, pos := "ref.go:96", after := #[{ on := 0, ground := Go.Ground.data }, { on := 2, ground := Go.Ground.data }], guard := none }) rfl (fun K hK => ?_) ?_
          · skip
            refine step_list rfl (.tmp 23) (.tmp 25) rfl U0.heap.size U1.heap.size 0 rfl O23_3.out base A n c xs rfl (owns_any OWN.out.own HB3.out) ONE.out (by omega) HB3.out.size ?_
            intro g26 cap26 U4 O26 G26
            have HB4 := Lib.hid (below_row HB3.out HB3.out.size G26 (by omega))
            have hs4 : U3.heap.size ≤ U4.heap.size := G26.size
            have MK_4 := Lib.hid (show Lies U4 U0.heap.size 3 (noughts l) from lies_grown' MK_3.out (by omega) G26)
            have OB_4 := Lib.hid (show Lies U4 U2.heap.size 66 [.int .i64 (N : Int), .int .i64 k, .int .i64 (l : Int), .int .i64 p, .slice (some ⟨U0.heap.size, 0, none⟩) l l] from lies_grown' OB_3.out (by omega) G26)
            have O26_4 := Lib.hid O26
            clear O26 G26
            clear HB3 MK_3 O23_3 OB_3
            (try clear hb3)
            refine hK.out _ _ ⟨(HB4.out.cell (p := ⟨w.heap.size + 1, 0, none⟩) hlx).trans xu0, (HB4.out.cell (p := ⟨w.heap.size + 1, 1, none⟩) hlx).trans xu1, (HB4.out.cell (p := ⟨w.heap.size + 1, 2, none⟩) hlx).trans xu2⟩ (fun hH10 => ?_)
            clear hK K
            clear hH9
            refine wpAnyH_ready (rs := [11]) (by kernel_rfl) (by simp) ?_
            refine AllReadyH.cons (o := { dst := some 34, op := Go.Op.call { callee := Go.Callee.builtin Go.Builtin.append, args := #[Go.Operand.tmp 26, Go.Operand.tmp 33], argTypes := #[32, 32] }, type := 32, pos := "ref.go:96", after := #[{ on := 3, ground := Go.Ground.data }, { on := 10, ground := Go.Ground.data }, { on := 3, ground := Go.Ground.chain }], guard := none }) rfl (fun K hK => ?_) ?_
            · skip
              refine step_one rfl (.tmp 26) (.tmp 33) rfl U0.heap.size g26 n cap26 xs rfl O26_4.out U2.heap.size 1 [.int .i64 (N : Int), .int .i64 k, .int .i64 (l : Int), .int .i64 p, .slice (some ⟨U0.heap.size, 0, none⟩) l l] rfl OB_4.out rfl (one_cells _ _ _ _ _) (by omega) HB4.out.size ?_
              intro g34 cap34 U5 O34 G34
              have HB5 := Lib.hid (below_row HB4.out HB4.out.size G34 (owns_ge O26_4.out))
              have MK_5 := Lib.hid (show Lies U5 U0.heap.size 3 (noughts l) from lies_grown MK_4.out O26_4.out (by decide) G34)
              have FIN := Lib.hid (place_owned OWN.out HB5.out O34 MK_5.out hbU (by omega) HN.out hg).1
              have OFF := Lib.hid (place_owned OWN.out HB5.out O34 MK_5.out hbU (by omega) HN.out hg).2
              clear O34 G34
              clear HB4 MK_4 OB_4 O26_4
              clear MK_5
              have hb5 : U5.cell? ⟨w.heap.size, 1, none⟩ = some (.slice A n c) := (HB5.out.cell (p := ⟨w.heap.size, 1, none⟩) hlh).trans yu1
              have hf5 : U5.frozen? ⟨w.heap.size, 1, none⟩ = false := (HB5.out.frozen (p := ⟨w.heap.size, 1, none⟩) hlh).trans yf1
              refine hK.out _ _ ⟨(HB5.out.cell (p := ⟨w.heap.size + 1, 0, none⟩) hlx).trans xu0, (HB5.out.cell (p := ⟨w.heap.size + 1, 1, none⟩) hlx).trans xu1, (HB5.out.cell (p := ⟨w.heap.size + 1, 2, none⟩) hlx).trans xu2⟩ (fun hH11 => ?_)
              clear hK K
              clear hH10
              refine wpAnyH_take (i := 12) (oi := { dst := some 35, op := Go.Op.fieldAddr 34 (Go.Operand.tmp 2) 1, type := 0, pos := "ref.go:96", after := #[{ on := 0, ground := Go.Ground.phase }, { on := 1, ground := Go.Ground.phase }, { on := 2, ground := Go.Ground.phase }, { on := 3, ground := Go.Ground.phase }, { on := 4, ground := Go.Ground.phase }, { on := 5, ground := Go.Ground.phase }, { on := 6, ground := Go.Ground.phase }, { on := 7, ground := Go.Ground.phase }, { on := 8, ground := Go.Ground.phase }, { on := 9, ground := Go.Ground.phase }, { on := 10, ground := Go.Ground.phase }, { on := 11, ground := Go.Ground.phase }], guard := none }) (v := ?_) rfl (by kernel_rfl) (by kernel_rfl) (by kernel_rfl) (fun _ _ _ h => h) (Or.inl ⟨by rfl, ?_⟩) hH11 ?_
              rotate_left
              · (intro w hSw; (try dsimp only at hSw); go_simp; (try with_reducible rfl))
              (try simp only [Act.put, List.setIfInBounds_toArray, List.set_cons_zero, List.set_cons_succ])
              refine wpAnyH_ready (rs := [13]) (by kernel_rfl) (by simp) ?_
              refine AllReadyH.cons (o := { dst := none, op := Go.Op.store 32 (Go.Operand.tmp 35) (Go.Operand.tmp 34), type := 0, pos := "ref.go:96", after := #[{ on := 12, ground := Go.Ground.data }, { on := 11, ground := Go.Ground.data }, { on := 11, ground := Go.Ground.chain }, { on := 0, ground := Go.Ground.phase }, { on := 1, ground := Go.Ground.phase }, { on := 2, ground := Go.Ground.phase }, { on := 3, ground := Go.Ground.phase }, { on := 4, ground := Go.Ground.phase }, { on := 5, ground := Go.Ground.phase }, { on := 6, ground := Go.Ground.phase }, { on := 7, ground := Go.Ground.phase }, { on := 8, ground := Go.Ground.phase }, { on := 9, ground := Go.Ground.phase }, { on := 10, ground := Go.Ground.phase }, { on := 11, ground := Go.Ground.phase }], guard := none }) rfl (fun K hK => ?_) ?_
              · skip
                go_simp
                refine hK.out _ _ ⟨(World.cell?_setCell_far _ _ _ _ (by simp)).trans ((HB5.out.cell (p := ⟨w.heap.size + 1, 0, none⟩) hlx).trans xu0), (World.cell?_setCell_far _ _ _ _ (by simp)).trans ((HB5.out.cell (p := ⟨w.heap.size + 1, 1, none⟩) hlx).trans xu1), (World.cell?_setCell_far _ _ _ _ (by simp)).trans ((HB5.out.cell (p := ⟨w.heap.size + 1, 2, none⟩) hlx).trans xu2)⟩ (fun hH13 => ?_)
                clear hK K
                clear hH11
                refine wpAnyH_done (by kernel_rfl) ?_ _
                have Lh9 := (HLh.out.below HB5.out HLh.out.lt).set 1 (.slice (some ⟨g34, 0, none⟩) (n + 1) cap34)
                have Lr9 := (HLr.out.below HB5.out HLr.out.lt).far (p := ⟨w.heap.size, 1, none⟩) (by simp; omega) (.slice (some ⟨g34, 0, none⟩) (n + 1) cap34)
                have FIN9 := Lib.hid (Owned.far FIN.out (HLh.out.below HB5.out HLh.out.lt) (by decide) (by decide) 1 (.slice (some ⟨g34, 0, none⟩) (n + 1) cap34))
                have B9 := Lib.hid ((on B0.out B0.out.size HB5.out).setCell (p := ⟨w.heap.size, 1, none⟩) (by simp) (.slice (some ⟨g34, 0, none⟩) (n + 1) cap34))
                clear hb5 hf5
                refine named2 (fun V hV => ?_)
                rw [← hV] at Lh9 Lr9 FIN9 B9
                clear hV
                have a0 : V.cell? ⟨w.heap.size, 0, none⟩ = some (.int .i64 (Z : Int)) := Lh9.cell 0
                have a1 : V.cell? ⟨w.heap.size, 1, none⟩ = some (.slice (some ⟨g34, 0, none⟩) (n + 1) cap34) := Lh9.cell 1
                have c0 : V.cell? ⟨w.heap.size + 1 + 1, 0, none⟩ = some (.int .i64 0) := Lr9.cell 0
                have c1 : V.cell? ⟨w.heap.size + 1 + 1, 1, none⟩ = some (.slice none 0 0) := Lr9.cell 1
                have c2 := Lr9.frozen 0
                have c3 := Lr9.frozen 1
                have c4 := Lr9.lt
                have HLr9 := Lib.hid Lr9
                clear Lh9 Lr9
                go_wp2
                exact bodyPost_ret (v := .tuple #[.agg #[.int .i64 (Z : Int), .slice (some ⟨g34, 0, none⟩) (n + 1) cap34], .int .i64 (N : Int), .int .i64 0]) (by simp [results, Tryz.results41, go_sem, a0, a1, c0, c1, c2, c3, c4]) rfl ⟨⟨_, _, _, rfl, Owned.far (Owned.far FIN9.out HLr9.out (by decide) (by decide) 0 _) (HLr9.out.set 0 _) (by decide) (by decide) 1 _, fun N0 h0 ho => OFF.out N0 (Nat.lt_of_lt_of_le h0 B0.out.size) ho⟩, by
                  have := B9.out
                  repeat (first | exact this | refine Below.setCell ?_ (by simp <;> omega) _)⟩
              exact AllReadyH.nil
            exact AllReadyH.nil
          exact AllReadyH.nil
        exact AllReadyH.nil
      refine AllReadyH.cons (o := { dst := some 33, op := Go.Op.buildSlice 32 1 #[(0, Go.Operand.tmp 32)], type := 32, pos := "ref.go:96", after := #[{ on := 9, ground := Go.Ground.data }], guard := none }) rfl (fun K hK => ?_) ?_
      · skip
        go_simp
        refine named (fun U2 hU => ?_)
        have HB2 := Lib.hid (show Below U0.heap.size U0 U2 by rw [hU]; exact HB1.out.alloc HB1.out.size _)
        have hs2 : U1.heap.size < U2.heap.size := by rw [hU]; simp
        have MK_2 := Lib.hid (show Lies U2 U0.heap.size 3 (noughts l) by rw [hU]; exact MK_1.out.alloc _)
        have OB_2 := Lib.hid (show Lies U2 U1.heap.size 66 [.int .i64 (N : Int), .int .i64 k, .int .i64 (l : Int), .int .i64 p, .slice (some ⟨U0.heap.size, 0, none⟩) l l] by rw [hU]; exact Lies.new U1 66 [.int .i64 (N : Int), .int .i64 k, .int .i64 (l : Int), .int .i64 p, .slice (some ⟨U0.heap.size, 0, none⟩) l l])
        clear hU
        clear HB1 MK_1
        refine hK.out _ _ ⟨(HB2.out.cell (p := ⟨w.heap.size + 1, 0, none⟩) hlx).trans xu0, (HB2.out.cell (p := ⟨w.heap.size + 1, 1, none⟩) hlx).trans xu1, (HB2.out.cell (p := ⟨w.heap.size + 1, 2, none⟩) hlx).trans xu2⟩ (fun hH8 => ?_)
        clear hK K
        clear hH7
        refine wpAnyH_ready (rs := [0]) (by kernel_rfl) (by simp) ?_
        refine AllReadyH.cons (o := { dst := some 23, op := Go.Op.buildSlice 32 0 #[], type := 32, pos := "ref.go:96", after := #[], guard := none }) rfl (fun K hK => ?_) ?_
        · skip
          go_simp
          refine named (fun U3 hU => ?_)
          have HB3 := Lib.hid (show Below U0.heap.size U0 U3 by rw [hU]; exact HB2.out.alloc HB2.out.size _)
          have hs3 : U2.heap.size < U3.heap.size := by rw [hU]; simp
          have MK_3 := Lib.hid (show Lies U3 U0.heap.size 3 (noughts l) by rw [hU]; exact MK_2.out.alloc _)
          have OB_3 := Lib.hid (show Lies U3 U1.heap.size 66 [.int .i64 (N : Int), .int .i64 k, .int .i64 (l : Int), .int .i64 p, .slice (some ⟨U0.heap.size, 0, none⟩) l l] by rw [hU]; exact OB_2.out.alloc _)
          have O23_3 := Lib.hid (show U3.ownsRow U0.heap.size 66 5 (.slice (some ⟨U2.heap.size, 0, none⟩) 0 0) 0 [] by rw [hU]; exact own_new53 U2 HB2.out.size)
          clear hU
          clear HB2 MK_2 OB_2
          refine hK.out _ _ ⟨(HB3.out.cell (p := ⟨w.heap.size + 1, 0, none⟩) hlx).trans xu0, (HB3.out.cell (p := ⟨w.heap.size + 1, 1, none⟩) hlx).trans xu1, (HB3.out.cell (p := ⟨w.heap.size + 1, 2, none⟩) hlx).trans xu2⟩ (fun hH9 => ?_)
          clear hK K
          clear hH8
          refine wpAnyH_ready (rs := [3]) (by kernel_rfl) (by simp) ?_
          refine AllReadyH.cons (o := { dst := some 26, op := Go.Op.call { callee := Go.Callee.builtin Go.Builtin.append, args := #[Go.Operand.tmp 23, Go.Operand.tmp 25], argTypes := #[32, 32] }, type := 32, pos := "ref.go:96", after := #[{ on := 0, ground := Go.Ground.data }, { on := 2, ground := Go.Ground.data }], guard := none }) rfl (fun K hK => ?_) ?_
          · skip
            refine step_list rfl (.tmp 23) (.tmp 25) rfl U0.heap.size U2.heap.size 0 rfl O23_3.out base A n c xs rfl (owns_any OWN.out.own HB3.out) ONE.out (by omega) HB3.out.size ?_
            intro g26 cap26 U4 O26 G26
            have HB4 := Lib.hid (below_row HB3.out HB3.out.size G26 (by omega))
            have hs4 : U3.heap.size ≤ U4.heap.size := G26.size
            have MK_4 := Lib.hid (show Lies U4 U0.heap.size 3 (noughts l) from lies_grown' MK_3.out (by omega) G26)
            have OB_4 := Lib.hid (show Lies U4 U1.heap.size 66 [.int .i64 (N : Int), .int .i64 k, .int .i64 (l : Int), .int .i64 p, .slice (some ⟨U0.heap.size, 0, none⟩) l l] from lies_grown' OB_3.out (by omega) G26)
            have O26_4 := Lib.hid O26
            clear O26 G26
            clear HB3 MK_3 OB_3 O23_3
            (try clear hb3)
            refine hK.out _ _ ⟨(HB4.out.cell (p := ⟨w.heap.size + 1, 0, none⟩) hlx).trans xu0, (HB4.out.cell (p := ⟨w.heap.size + 1, 1, none⟩) hlx).trans xu1, (HB4.out.cell (p := ⟨w.heap.size + 1, 2, none⟩) hlx).trans xu2⟩ (fun hH10 => ?_)
            clear hK K
            clear hH9
            refine wpAnyH_ready (rs := [11]) (by kernel_rfl) (by simp) ?_
            refine AllReadyH.cons (o := { dst := some 34, op := Go.Op.call { callee := Go.Callee.builtin Go.Builtin.append, args := #[Go.Operand.tmp 26, Go.Operand.tmp 33], argTypes := #[32, 32] }, type := 32, pos := "ref.go:96", after := #[{ on := 3, ground := Go.Ground.data }, { on := 10, ground := Go.Ground.data }, { on := 3, ground := Go.Ground.chain }], guard := none }) rfl (fun K hK => ?_) ?_
            · skip
              refine step_one rfl (.tmp 26) (.tmp 33) rfl U0.heap.size g26 n cap26 xs rfl O26_4.out U1.heap.size 1 [.int .i64 (N : Int), .int .i64 k, .int .i64 (l : Int), .int .i64 p, .slice (some ⟨U0.heap.size, 0, none⟩) l l] rfl OB_4.out rfl (one_cells _ _ _ _ _) (by omega) HB4.out.size ?_
              intro g34 cap34 U5 O34 G34
              have HB5 := Lib.hid (below_row HB4.out HB4.out.size G34 (owns_ge O26_4.out))
              have MK_5 := Lib.hid (show Lies U5 U0.heap.size 3 (noughts l) from lies_grown MK_4.out O26_4.out (by decide) G34)
              have FIN := Lib.hid (place_owned OWN.out HB5.out O34 MK_5.out hbU (by omega) HN.out hg).1
              have OFF := Lib.hid (place_owned OWN.out HB5.out O34 MK_5.out hbU (by omega) HN.out hg).2
              clear O34 G34
              clear HB4 MK_4 OB_4 O26_4
              clear MK_5
              have hb5 : U5.cell? ⟨w.heap.size, 1, none⟩ = some (.slice A n c) := (HB5.out.cell (p := ⟨w.heap.size, 1, none⟩) hlh).trans yu1
              have hf5 : U5.frozen? ⟨w.heap.size, 1, none⟩ = false := (HB5.out.frozen (p := ⟨w.heap.size, 1, none⟩) hlh).trans yf1
              refine hK.out _ _ ⟨(HB5.out.cell (p := ⟨w.heap.size + 1, 0, none⟩) hlx).trans xu0, (HB5.out.cell (p := ⟨w.heap.size + 1, 1, none⟩) hlx).trans xu1, (HB5.out.cell (p := ⟨w.heap.size + 1, 2, none⟩) hlx).trans xu2⟩ (fun hH11 => ?_)
              clear hK K
              clear hH10
              refine wpAnyH_take (i := 12) (oi := { dst := some 35, op := Go.Op.fieldAddr 34 (Go.Operand.tmp 2) 1, type := 0, pos := "ref.go:96", after := #[{ on := 0, ground := Go.Ground.phase }, { on := 1, ground := Go.Ground.phase }, { on := 2, ground := Go.Ground.phase }, { on := 3, ground := Go.Ground.phase }, { on := 4, ground := Go.Ground.phase }, { on := 5, ground := Go.Ground.phase }, { on := 6, ground := Go.Ground.phase }, { on := 7, ground := Go.Ground.phase }, { on := 8, ground := Go.Ground.phase }, { on := 9, ground := Go.Ground.phase }, { on := 10, ground := Go.Ground.phase }, { on := 11, ground := Go.Ground.phase }], guard := none }) (v := ?_) rfl (by kernel_rfl) (by kernel_rfl) (by kernel_rfl) (fun _ _ _ h => h) (Or.inl ⟨by rfl, ?_⟩) hH11 ?_
              rotate_left
              · (intro w hSw; (try dsimp only at hSw); go_simp; (try with_reducible rfl))
              (try simp only [Act.put, List.setIfInBounds_toArray, List.set_cons_zero, List.set_cons_succ])
              refine wpAnyH_ready (rs := [13]) (by kernel_rfl) (by simp) ?_
              refine AllReadyH.cons (o := { dst := none, op := Go.Op.store 32 (Go.Operand.tmp 35) (Go.Operand.tmp 34), type := 0, pos := "ref.go:96", after := #[{ on := 12, ground := Go.Ground.data }, { on := 11, ground := Go.Ground.data }, { on := 11, ground := Go.Ground.chain }, { on := 0, ground := Go.Ground.phase }, { on := 1, ground := Go.Ground.phase }, { on := 2, ground := Go.Ground.phase }, { on := 3, ground := Go.Ground.phase }, { on := 4, ground := Go.Ground.phase }, { on := 5, ground := Go.Ground.phase }, { on := 6, ground := Go.Ground.phase }, { on := 7, ground := Go.Ground.phase }, { on := 8, ground := Go.Ground.phase }, { on := 9, ground := Go.Ground.phase }, { on := 10, ground := Go.Ground.phase }, { on := 11, ground := Go.Ground.phase }], guard := none }) rfl (fun K hK => ?_) ?_
              · skip
                go_simp
                refine hK.out _ _ ⟨(World.cell?_setCell_far _ _ _ _ (by simp)).trans ((HB5.out.cell (p := ⟨w.heap.size + 1, 0, none⟩) hlx).trans xu0), (World.cell?_setCell_far _ _ _ _ (by simp)).trans ((HB5.out.cell (p := ⟨w.heap.size + 1, 1, none⟩) hlx).trans xu1), (World.cell?_setCell_far _ _ _ _ (by simp)).trans ((HB5.out.cell (p := ⟨w.heap.size + 1, 2, none⟩) hlx).trans xu2)⟩ (fun hH13 => ?_)
                clear hK K
                clear hH11
                refine wpAnyH_done (by kernel_rfl) ?_ _
                have Lh9 := (HLh.out.below HB5.out HLh.out.lt).set 1 (.slice (some ⟨g34, 0, none⟩) (n + 1) cap34)
                have Lr9 := (HLr.out.below HB5.out HLr.out.lt).far (p := ⟨w.heap.size, 1, none⟩) (by simp; omega) (.slice (some ⟨g34, 0, none⟩) (n + 1) cap34)
                have FIN9 := Lib.hid (Owned.far FIN.out (HLh.out.below HB5.out HLh.out.lt) (by decide) (by decide) 1 (.slice (some ⟨g34, 0, none⟩) (n + 1) cap34))
                have B9 := Lib.hid ((on B0.out B0.out.size HB5.out).setCell (p := ⟨w.heap.size, 1, none⟩) (by simp) (.slice (some ⟨g34, 0, none⟩) (n + 1) cap34))
                clear hb5 hf5
                refine named2 (fun V hV => ?_)
                rw [← hV] at Lh9 Lr9 FIN9 B9
                clear hV
                have a0 : V.cell? ⟨w.heap.size, 0, none⟩ = some (.int .i64 (Z : Int)) := Lh9.cell 0
                have a1 : V.cell? ⟨w.heap.size, 1, none⟩ = some (.slice (some ⟨g34, 0, none⟩) (n + 1) cap34) := Lh9.cell 1
                have c0 : V.cell? ⟨w.heap.size + 1 + 1, 0, none⟩ = some (.int .i64 0) := Lr9.cell 0
                have c1 : V.cell? ⟨w.heap.size + 1 + 1, 1, none⟩ = some (.slice none 0 0) := Lr9.cell 1
                have c2 := Lr9.frozen 0
                have c3 := Lr9.frozen 1
                have c4 := Lr9.lt
                have HLr9 := Lib.hid Lr9
                clear Lh9 Lr9
                go_wp2
                exact bodyPost_ret (v := .tuple #[.agg #[.int .i64 (Z : Int), .slice (some ⟨g34, 0, none⟩) (n + 1) cap34], .int .i64 (N : Int), .int .i64 0]) (by simp [results, Tryz.results41, go_sem, a0, a1, c0, c1, c2, c3, c4]) rfl ⟨⟨_, _, _, rfl, Owned.far (Owned.far FIN9.out HLr9.out (by decide) (by decide) 0 _) (HLr9.out.set 0 _) (by decide) (by decide) 1 _, fun N0 h0 ho => OFF.out N0 (Nat.lt_of_lt_of_le h0 B0.out.size) ho⟩, by
                  have := B9.out
                  repeat (first | exact this | refine Below.setCell ?_ (by simp <;> omega) _)⟩
              exact AllReadyH.nil
            exact AllReadyH.nil
          exact AllReadyH.nil
        exact AllReadyH.nil
      exact AllReadyH.nil
    refine AllReadyH.cons (o := { dst := some 33, op := Go.Op.buildSlice 32 1 #[(0, Go.Operand.tmp 32)], type := 32, pos := "ref.go:96", after := #[{ on := 9, ground := Go.Ground.data }], guard := none }) rfl (fun K hK => ?_) ?_
    · skip
      go_simp
      refine named (fun U2 hU => ?_)
      have HB2 := Lib.hid (show Below U0.heap.size U0 U2 by rw [hU]; exact HB1.out.alloc HB1.out.size _)
      have hs2 : U1.heap.size < U2.heap.size := by rw [hU]; simp
      have MK_2 := Lib.hid (show Lies U2 U0.heap.size 3 (noughts l) by rw [hU]; exact MK_1.out.alloc _)
      have OB_2 := Lib.hid (show Lies U2 U1.heap.size 66 [.int .i64 (N : Int), .int .i64 k, .int .i64 (l : Int), .int .i64 p, .slice (some ⟨U0.heap.size, 0, none⟩) l l] by rw [hU]; exact Lies.new U1 66 [.int .i64 (N : Int), .int .i64 k, .int .i64 (l : Int), .int .i64 p, .slice (some ⟨U0.heap.size, 0, none⟩) l l])
      clear hU
      clear HB1 MK_1
      have hb2 : U2.cell? ⟨w.heap.size, 1, none⟩ = some (.slice A n c) := (HB2.out.cell (p := ⟨w.heap.size, 1, none⟩) hlh).trans yu1
      clear hb1
      refine hK.out _ _ ⟨(HB2.out.cell (p := ⟨w.heap.size + 1, 0, none⟩) hlx).trans xu0, (HB2.out.cell (p := ⟨w.heap.size + 1, 1, none⟩) hlx).trans xu1, (HB2.out.cell (p := ⟨w.heap.size + 1, 2, none⟩) hlx).trans xu2⟩ (fun hH7 => ?_)
      clear hK K
      clear hH5
      refine wpAnyH_ready (rs := [0, 2]) (by kernel_rfl) (by simp) ?_
      refine AllReadyH.cons (o := { dst := some 23, op := Go.Op.buildSlice 32 0 #[], type := 32, pos := "ref.go:96", after := #[], guard := none }) rfl (fun K hK => ?_) ?_
      · skip
        go_simp
        refine named (fun U3 hU => ?_)
        have HB3 := Lib.hid (show Below U0.heap.size U0 U3 by rw [hU]; exact HB2.out.alloc HB2.out.size _)
        have hs3 : U2.heap.size < U3.heap.size := by rw [hU]; simp
        have MK_3 := Lib.hid (show Lies U3 U0.heap.size 3 (noughts l) by rw [hU]; exact MK_2.out.alloc _)
        have OB_3 := Lib.hid (show Lies U3 U1.heap.size 66 [.int .i64 (N : Int), .int .i64 k, .int .i64 (l : Int), .int .i64 p, .slice (some ⟨U0.heap.size, 0, none⟩) l l] by rw [hU]; exact OB_2.out.alloc _)
        have O23_3 := Lib.hid (show U3.ownsRow U0.heap.size 66 5 (.slice (some ⟨U2.heap.size, 0, none⟩) 0 0) 0 [] by rw [hU]; exact own_new53 U2 HB2.out.size)
        clear hU
        clear HB2 MK_2 OB_2
        have hb3 : U3.cell? ⟨w.heap.size, 1, none⟩ = some (.slice A n c) := (HB3.out.cell (p := ⟨w.heap.size, 1, none⟩) hlh).trans yu1
        clear hb2
        refine hK.out _ _ ⟨(HB3.out.cell (p := ⟨w.heap.size + 1, 0, none⟩) hlx).trans xu0, (HB3.out.cell (p := ⟨w.heap.size + 1, 1, none⟩) hlx).trans xu1, (HB3.out.cell (p := ⟨w.heap.size + 1, 2, none⟩) hlx).trans xu2⟩ (fun hH8 => ?_)
        clear hK K
        clear hH7
        refine wpAnyH_ready (rs := [2]) (by kernel_rfl) (by simp) ?_
        refine AllReadyH.cons (o := { dst := some 25, op := Go.Op.load 32 (Go.Operand.tmp 24), type := 32, pos := "ref.go:96", after := #[{ on := 1, ground := Go.Ground.data }], guard := none }) rfl (fun K hK => ?_) ?_
        · skip
          go_simp
          refine hK.out _ _ ⟨(HB3.out.cell (p := ⟨w.heap.size + 1, 0, none⟩) hlx).trans xu0, (HB3.out.cell (p := ⟨w.heap.size + 1, 1, none⟩) hlx).trans xu1, (HB3.out.cell (p := ⟨w.heap.size + 1, 2, none⟩) hlx).trans xu2⟩ (fun hH9 => ?_)
          clear hK K
          clear hH8
          refine wpAnyH_ready (rs := [3]) (by kernel_rfl) (by simp) ?_
          refine AllReadyH.cons (o := { dst := some 26, op := Go.Op.call { callee := Go.Callee.builtin Go.Builtin.append, args := #[Go.Operand.tmp 23, Go.Operand.tmp 25], argTypes := #[32, 32] }, type := 32, pos := "ref.go:96", after := #[{ on := 0, ground := Go.Ground.data }, { on := 2, ground := Go.Ground.data }], guard := none }) rfl (fun K hK => ?_) ?_
          · skip
            refine step_list rfl (.tmp 23) (.tmp 25) rfl U0.heap.size U2.heap.size 0 rfl O23_3.out base A n c xs rfl (owns_any OWN.out.own HB3.out) ONE.out (by omega) HB3.out.size ?_
            intro g26 cap26 U4 O26 G26
            have HB4 := Lib.hid (below_row HB3.out HB3.out.size G26 (by omega))
            have hs4 : U3.heap.size ≤ U4.heap.size := G26.size
            have MK_4 := Lib.hid (show Lies U4 U0.heap.size 3 (noughts l) from lies_grown' MK_3.out (by omega) G26)
            have OB_4 := Lib.hid (show Lies U4 U1.heap.size 66 [.int .i64 (N : Int), .int .i64 k, .int .i64 (l : Int), .int .i64 p, .slice (some ⟨U0.heap.size, 0, none⟩) l l] from lies_grown' OB_3.out (by omega) G26)
            have O26_4 := Lib.hid O26
            clear O26 G26
            clear HB3 MK_3 OB_3 O23_3
            (try clear hb3)
            refine hK.out _ _ ⟨(HB4.out.cell (p := ⟨w.heap.size + 1, 0, none⟩) hlx).trans xu0, (HB4.out.cell (p := ⟨w.heap.size + 1, 1, none⟩) hlx).trans xu1, (HB4.out.cell (p := ⟨w.heap.size + 1, 2, none⟩) hlx).trans xu2⟩ (fun hH10 => ?_)
            clear hK K
            clear hH9
            refine wpAnyH_ready (rs := [11]) (by kernel_rfl) (by simp) ?_
            refine AllReadyH.cons (o := { dst := some 34, op := Go.Op.call { callee := Go.Callee.builtin Go.Builtin.append, args := #[Go.Operand.tmp 26, Go.Operand.tmp 33], argTypes := #[32, 32] }, type := 32, pos := "ref.go:96", after := #[{ on := 3, ground := Go.Ground.data }, { on := 10, ground := Go.Ground.data }, { on := 3, ground := Go.Ground.chain }], guard := none }) rfl (fun K hK => ?_) ?_
            · skip
              refine step_one rfl (.tmp 26) (.tmp 33) rfl U0.heap.size g26 n cap26 xs rfl O26_4.out U1.heap.size 1 [.int .i64 (N : Int), .int .i64 k, .int .i64 (l : Int), .int .i64 p, .slice (some ⟨U0.heap.size, 0, none⟩) l l] rfl OB_4.out rfl (one_cells _ _ _ _ _) (by omega) HB4.out.size ?_
              intro g34 cap34 U5 O34 G34
              have HB5 := Lib.hid (below_row HB4.out HB4.out.size G34 (owns_ge O26_4.out))
              have MK_5 := Lib.hid (show Lies U5 U0.heap.size 3 (noughts l) from lies_grown MK_4.out O26_4.out (by decide) G34)
              have FIN := Lib.hid (place_owned OWN.out HB5.out O34 MK_5.out hbU (by omega) HN.out hg).1
              have OFF := Lib.hid (place_owned OWN.out HB5.out O34 MK_5.out hbU (by omega) HN.out hg).2
              clear O34 G34
              clear HB4 MK_4 OB_4 O26_4
              clear MK_5
              have hb5 : U5.cell? ⟨w.heap.size, 1, none⟩ = some (.slice A n c) := (HB5.out.cell (p := ⟨w.heap.size, 1, none⟩) hlh).trans yu1
              have hf5 : U5.frozen? ⟨w.heap.size, 1, none⟩ = false := (HB5.out.frozen (p := ⟨w.heap.size, 1, none⟩) hlh).trans yf1
              refine hK.out _ _ ⟨(HB5.out.cell (p := ⟨w.heap.size + 1, 0, none⟩) hlx).trans xu0, (HB5.out.cell (p := ⟨w.heap.size + 1, 1, none⟩) hlx).trans xu1, (HB5.out.cell (p := ⟨w.heap.size + 1, 2, none⟩) hlx).trans xu2⟩ (fun hH11 => ?_)
              clear hK K
              clear hH10
              refine wpAnyH_take (i := 12) (oi := { dst := some 35, op := Go.Op.fieldAddr 34 (Go.Operand.tmp 2) 1, type := 0, pos := "ref.go:96", after := #[{ on := 0, ground := Go.Ground.phase }, { on := 1, ground := Go.Ground.phase }, { on := 2, ground := Go.Ground.phase }, { on := 3, ground := Go.Ground.phase }, { on := 4, ground := Go.Ground.phase }, { on := 5, ground := Go.Ground.phase }, { on := 6, ground := Go.Ground.phase }, { on := 7, ground := Go.Ground.phase }, { on := 8, ground := Go.Ground.phase }, { on := 9, ground := Go.Ground.phase }, { on := 10, ground := Go.Ground.phase }, { on := 11, ground := Go.Ground.phase }], guard := none }) (v := ?_) rfl (by kernel_rfl) (by kernel_rfl) (by kernel_rfl) (fun _ _ _ h => h) (Or.inl ⟨by rfl, ?_⟩) hH11 ?_
              rotate_left
              · (intro w hSw; (try dsimp only at hSw); go_simp; (try with_reducible rfl))
              (try simp only [Act.put, List.setIfInBounds_toArray, List.set_cons_zero, List.set_cons_succ])
              refine wpAnyH_ready (rs := [13]) (by kernel_rfl) (by simp) ?_
              refine AllReadyH.cons (o := { dst := none, op := Go.Op.store 32 (Go.Operand.tmp 35) (Go.Operand.tmp 34), type := 0, pos := "ref.go:96", after := #[{ on := 12, ground := Go.Ground.data }, { on := 11, ground := Go.Ground.data }, { on := 11, ground := Go.Ground.chain }, { on := 0, ground := Go.Ground.phase }, { on := 1, ground := Go.Ground.phase }, { on := 2, ground := Go.Ground.phase }, { on := 3, ground := Go.Ground.phase }, { on := 4, ground := Go.Ground.phase }, { on := 5, ground := Go.Ground.phase }, { on := 6, ground := Go.Ground.phase }, { on := 7, ground := Go.Ground.phase }, { on := 8, ground := Go.Ground.phase }, { on := 9, ground := Go.Ground.phase }, { on := 10, ground := Go.Ground.phase }, { on := 11, ground := Go.Ground.phase }], guard := none }) rfl (fun K hK => ?_) ?_
              · skip
                go_simp
                refine hK.out _ _ ⟨(World.cell?_setCell_far _ _ _ _ (by simp)).trans ((HB5.out.cell (p := ⟨w.heap.size + 1, 0, none⟩) hlx).trans xu0), (World.cell?_setCell_far _ _ _ _ (by simp)).trans ((HB5.out.cell (p := ⟨w.heap.size + 1, 1, none⟩) hlx).trans xu1), (World.cell?_setCell_far _ _ _ _ (by simp)).trans ((HB5.out.cell (p := ⟨w.heap.size + 1, 2, none⟩) hlx).trans xu2)⟩ (fun hH13 => ?_)
                clear hK K
                clear hH11
                refine wpAnyH_done (by kernel_rfl) ?_ _
                have Lh9 := (HLh.out.below HB5.out HLh.out.lt).set 1 (.slice (some ⟨g34, 0, none⟩) (n + 1) cap34)
                have Lr9 := (HLr.out.below HB5.out HLr.out.lt).far (p := ⟨w.heap.size, 1, none⟩) (by simp; omega) (.slice (some ⟨g34, 0, none⟩) (n + 1) cap34)
                have FIN9 := Lib.hid (Owned.far FIN.out (HLh.out.below HB5.out HLh.out.lt) (by decide) (by decide) 1 (.slice (some ⟨g34, 0, none⟩) (n + 1) cap34))
                have B9 := Lib.hid ((on B0.out B0.out.size HB5.out).setCell (p := ⟨w.heap.size, 1, none⟩) (by simp) (.slice (some ⟨g34, 0, none⟩) (n + 1) cap34))
                clear hb5 hf5
                refine named2 (fun V hV => ?_)
                rw [← hV] at Lh9 Lr9 FIN9 B9
                clear hV
                have a0 : V.cell? ⟨w.heap.size, 0, none⟩ = some (.int .i64 (Z : Int)) := Lh9.cell 0
                have a1 : V.cell? ⟨w.heap.size, 1, none⟩ = some (.slice (some ⟨g34, 0, none⟩) (n + 1) cap34) := Lh9.cell 1
                have c0 : V.cell? ⟨w.heap.size + 1 + 1, 0, none⟩ = some (.int .i64 0) := Lr9.cell 0
                have c1 : V.cell? ⟨w.heap.size + 1 + 1, 1, none⟩ = some (.slice none 0 0) := Lr9.cell 1
                have c2 := Lr9.frozen 0
                have c3 := Lr9.frozen 1
                have c4 := Lr9.lt
                have HLr9 := Lib.hid Lr9
                clear Lh9 Lr9
                go_wp2
                exact bodyPost_ret (v := .tuple #[.agg #[.int .i64 (Z : Int), .slice (some ⟨g34, 0, none⟩) (n + 1) cap34], .int .i64 (N : Int), .int .i64 0]) (by simp [results, Tryz.results41, go_sem, a0, a1, c0, c1, c2, c3, c4]) rfl ⟨⟨_, _, _, rfl, Owned.far (Owned.far FIN9.out HLr9.out (by decide) (by decide) 0 _) (HLr9.out.set 0 _) (by decide) (by decide) 1 _, fun N0 h0 ho => OFF.out N0 (Nat.lt_of_lt_of_le h0 B0.out.size) ho⟩, by
                  have := B9.out
                  repeat (first | exact this | refine Below.setCell ?_ (by simp <;> omega) _)⟩
              exact AllReadyH.nil
            exact AllReadyH.nil
          exact AllReadyH.nil
        exact AllReadyH.nil
      refine AllReadyH.cons (o := { dst := some 25, op := Go.Op.load 32 (Go.Operand.tmp 24), type := 32, pos := "ref.go:96", after := #[{ on := 1, ground := Go.Ground.data }], guard := none }) rfl (fun K hK => ?_) ?_
      · skip
        go_simp
        refine hK.out _ _ ⟨(HB2.out.cell (p := ⟨w.heap.size + 1, 0, none⟩) hlx).trans xu0, (HB2.out.cell (p := ⟨w.heap.size + 1, 1, none⟩) hlx).trans xu1, (HB2.out.cell (p := ⟨w.heap.size + 1, 2, none⟩) hlx).trans xu2⟩ (fun hH8 => ?_)
        clear hK K
        clear hH7
        refine wpAnyH_ready (rs := [0]) (by kernel_rfl) (by simp) ?_
        refine AllReadyH.cons (o := { dst := some 23, op := Go.Op.buildSlice 32 0 #[], type := 32, pos := "ref.go:96", after := #[], guard := none }) rfl (fun K hK => ?_) ?_
        · skip
          go_simp
          refine named (fun U3 hU => ?_)
          have HB3 := Lib.hid (show Below U0.heap.size U0 U3 by rw [hU]; exact HB2.out.alloc HB2.out.size _)
          have hs3 : U2.heap.size < U3.heap.size := by rw [hU]; simp
          have MK_3 := Lib.hid (show Lies U3 U0.heap.size 3 (noughts l) by rw [hU]; exact MK_2.out.alloc _)
          have OB_3 := Lib.hid (show Lies U3 U1.heap.size 66 [.int .i64 (N : Int), .int .i64 k, .int .i64 (l : Int), .int .i64 p, .slice (some ⟨U0.heap.size, 0, none⟩) l l] by rw [hU]; exact OB_2.out.alloc _)
          have O23_3 := Lib.hid (show U3.ownsRow U0.heap.size 66 5 (.slice (some ⟨U2.heap.size, 0, none⟩) 0 0) 0 [] by rw [hU]; exact own_new53 U2 HB2.out.size)
          clear hU
          clear HB2 MK_2 OB_2
          refine hK.out _ _ ⟨(HB3.out.cell (p := ⟨w.heap.size + 1, 0, none⟩) hlx).trans xu0, (HB3.out.cell (p := ⟨w.heap.size + 1, 1, none⟩) hlx).trans xu1, (HB3.out.cell (p := ⟨w.heap.size + 1, 2, none⟩) hlx).trans xu2⟩ (fun hH9 => ?_)
          clear hK K
          clear hH8
          refine wpAnyH_ready (rs := [3]) (by kernel_rfl) (by simp) ?_
          refine AllReadyH.cons (o := { dst := some 26, op := Go.Op.call { callee := Go.Callee.builtin Go.Builtin.append, args := #[Go.Operand.tmp 23, Go.Operand.tmp 25], argTypes := #[32, 32] }, type := 32, pos := "ref.go:96", after := #[{ on := 0, ground := Go.Ground.data }, { on := 2, ground := Go.Ground.data }], guard := none }) rfl (fun K hK => ?_) ?_
          · skip
            refine step_list rfl (.tmp 23) (.tmp 25) rfl U0.heap.size U2.heap.size 0 rfl O23_3.out base A n c xs rfl (owns_any OWN.out.own HB3.out) ONE.out (by omega) HB3.out.size ?_
            intro g26 cap26 U4 O26 G26
            have HB4 := Lib.hid (below_row HB3.out HB3.out.size G26 (by omega))
            have hs4 : U3.heap.size ≤ U4.heap.size := G26.size
            have MK_4 := Lib.hid (show Lies U4 U0.heap.size 3 (noughts l) from lies_grown' MK_3.out (by omega) G26)
            have OB_4 := Lib.hid (show Lies U4 U1.heap.size 66 [.int .i64 (N : Int), .int .i64 k, .int .i64 (l : Int), .int .i64 p, .slice (some ⟨U0.heap.size, 0, none⟩) l l] from lies_grown' OB_3.out (by omega) G26)
            have O26_4 := Lib.hid O26
            clear O26 G26
            clear HB3 MK_3 OB_3 O23_3
            (try clear hb3)
            refine hK.out _ _ ⟨(HB4.out.cell (p := ⟨w.heap.size + 1, 0, none⟩) hlx).trans xu0, (HB4.out.cell (p := ⟨w.heap.size + 1, 1, none⟩) hlx).trans xu1, (HB4.out.cell (p := ⟨w.heap.size + 1, 2, none⟩) hlx).trans xu2⟩ (fun hH10 => ?_)
            clear hK K
            clear hH9
            refine wpAnyH_ready (rs := [11]) (by kernel_rfl) (by simp) ?_
            refine AllReadyH.cons (o := { dst := some 34, op := Go.Op.call { callee := Go.Callee.builtin Go.Builtin.append, args := #[Go.Operand.tmp 26, Go.Operand.tmp 33], argTypes := #[32, 32] }, type := 32, pos := "ref.go:96", after := #[{ on := 3, ground := Go.Ground.data }, { on := 10, ground := Go.Ground.data }, { on := 3, ground := Go.Ground.chain }], guard := none }) rfl (fun K hK => ?_) ?_
            · skip
              refine step_one rfl (.tmp 26) (.tmp 33) rfl U0.heap.size g26 n cap26 xs rfl O26_4.out U1.heap.size 1 [.int .i64 (N : Int), .int .i64 k, .int .i64 (l : Int), .int .i64 p, .slice (some ⟨U0.heap.size, 0, none⟩) l l] rfl OB_4.out rfl (one_cells _ _ _ _ _) (by omega) HB4.out.size ?_
              intro g34 cap34 U5 O34 G34
              have HB5 := Lib.hid (below_row HB4.out HB4.out.size G34 (owns_ge O26_4.out))
              have MK_5 := Lib.hid (show Lies U5 U0.heap.size 3 (noughts l) from lies_grown MK_4.out O26_4.out (by decide) G34)
              have FIN := Lib.hid (place_owned OWN.out HB5.out O34 MK_5.out hbU (by omega) HN.out hg).1
              have OFF := Lib.hid (place_owned OWN.out HB5.out O34 MK_5.out hbU (by omega) HN.out hg).2
              clear O34 G34
              clear HB4 MK_4 OB_4 O26_4
              clear MK_5
              have hb5 : U5.cell? ⟨w.heap.size, 1, none⟩ = some (.slice A n c) := (HB5.out.cell (p := ⟨w.heap.size, 1, none⟩) hlh).trans yu1
              have hf5 : U5.frozen? ⟨w.heap.size, 1, none⟩ = false := (HB5.out.frozen (p := ⟨w.heap.size, 1, none⟩) hlh).trans yf1
              refine hK.out _ _ ⟨(HB5.out.cell (p := ⟨w.heap.size + 1, 0, none⟩) hlx).trans xu0, (HB5.out.cell (p := ⟨w.heap.size + 1, 1, none⟩) hlx).trans xu1, (HB5.out.cell (p := ⟨w.heap.size + 1, 2, none⟩) hlx).trans xu2⟩ (fun hH11 => ?_)
              clear hK K
              clear hH10
              refine wpAnyH_take (i := 12) (oi := { dst := some 35, op := Go.Op.fieldAddr 34 (Go.Operand.tmp 2) 1, type := 0, pos := "ref.go:96", after := #[{ on := 0, ground := Go.Ground.phase }, { on := 1, ground := Go.Ground.phase }, { on := 2, ground := Go.Ground.phase }, { on := 3, ground := Go.Ground.phase }, { on := 4, ground := Go.Ground.phase }, { on := 5, ground := Go.Ground.phase }, { on := 6, ground := Go.Ground.phase }, { on := 7, ground := Go.Ground.phase }, { on := 8, ground := Go.Ground.phase }, { on := 9, ground := Go.Ground.phase }, { on := 10, ground := Go.Ground.phase }, { on := 11, ground := Go.Ground.phase }], guard := none }) (v := ?_) rfl (by kernel_rfl) (by kernel_rfl) (by kernel_rfl) (fun _ _ _ h => h) (Or.inl ⟨by rfl, ?_⟩) hH11 ?_
              rotate_left
              · (intro w hSw; (try dsimp only at hSw); go_simp; (try with_reducible rfl))
              (try simp only [Act.put, List.setIfInBounds_toArray, List.set_cons_zero, List.set_cons_succ])
              refine wpAnyH_ready (rs := [13]) (by kernel_rfl) (by simp) ?_
              refine AllReadyH.cons (o := { dst := none, op := Go.Op.store 32 (Go.Operand.tmp 35) (Go.Operand.tmp 34), type := 0, pos := "ref.go:96", after := #[{ on := 12, ground := Go.Ground.data }, { on := 11, ground := Go.Ground.data }, { on := 11, ground := Go.Ground.chain }, { on := 0, ground := Go.Ground.phase }, { on := 1, ground := Go.Ground.phase }, { on := 2, ground := Go.Ground.phase }, { on := 3, ground := Go.Ground.phase }, { on := 4, ground := Go.Ground.phase }, { on := 5, ground := Go.Ground.phase }, { on := 6, ground := Go.Ground.phase }, { on := 7, ground := Go.Ground.phase }, { on := 8, ground := Go.Ground.phase }, { on := 9, ground := Go.Ground.phase }, { on := 10, ground := Go.Ground.phase }, { on := 11, ground := Go.Ground.phase }], guard := none }) rfl (fun K hK => ?_) ?_
              · skip
                go_simp
                refine hK.out _ _ ⟨(World.cell?_setCell_far _ _ _ _ (by simp)).trans ((HB5.out.cell (p := ⟨w.heap.size + 1, 0, none⟩) hlx).trans xu0), (World.cell?_setCell_far _ _ _ _ (by simp)).trans ((HB5.out.cell (p := ⟨w.heap.size + 1, 1, none⟩) hlx).trans xu1), (World.cell?_setCell_far _ _ _ _ (by simp)).trans ((HB5.out.cell (p := ⟨w.heap.size + 1, 2, none⟩) hlx).trans xu2)⟩ (fun hH13 => ?_)
                clear hK K
                clear hH11
                refine wpAnyH_done (by kernel_rfl) ?_ _
                have Lh9 := (HLh.out.below HB5.out HLh.out.lt).set 1 (.slice (some ⟨g34, 0, none⟩) (n + 1) cap34)
                have Lr9 := (HLr.out.below HB5.out HLr.out.lt).far (p := ⟨w.heap.size, 1, none⟩) (by simp; omega) (.slice (some ⟨g34, 0, none⟩) (n + 1) cap34)
                have FIN9 := Lib.hid (Owned.far FIN.out (HLh.out.below HB5.out HLh.out.lt) (by decide) (by decide) 1 (.slice (some ⟨g34, 0, none⟩) (n + 1) cap34))
                have B9 := Lib.hid ((on B0.out B0.out.size HB5.out).setCell (p := ⟨w.heap.size, 1, none⟩) (by simp) (.slice (some ⟨g34, 0, none⟩) (n + 1) cap34))
                clear hb5 hf5
                refine named2 (fun V hV => ?_)
                rw [← hV] at Lh9 Lr9 FIN9 B9
                clear hV
                have a0 : V.cell? ⟨w.heap.size, 0, none⟩ = some (.int .i64 (Z : Int)) := Lh9.cell 0
                have a1 : V.cell? ⟨w.heap.size, 1, none⟩ = some (.slice (some ⟨g34, 0, none⟩) (n + 1) cap34) := Lh9.cell 1
                have c0 : V.cell? ⟨w.heap.size + 1 + 1, 0, none⟩ = some (.int .i64 0) := Lr9.cell 0
                have c1 : V.cell? ⟨w.heap.size + 1 + 1, 1, none⟩ = some (.slice none 0 0) := Lr9.cell 1
                have c2 := Lr9.frozen 0
                have c3 := Lr9.frozen 1
                have c4 := Lr9.lt
                have HLr9 := Lib.hid Lr9
                clear Lh9 Lr9
                go_wp2
                exact bodyPost_ret (v := .tuple #[.agg #[.int .i64 (Z : Int), .slice (some ⟨g34, 0, none⟩) (n + 1) cap34], .int .i64 (N : Int), .int .i64 0]) (by simp [results, Tryz.results41, go_sem, a0, a1, c0, c1, c2, c3, c4]) rfl ⟨⟨_, _, _, rfl, Owned.far (Owned.far FIN9.out HLr9.out (by decide) (by decide) 0 _) (HLr9.out.set 0 _) (by decide) (by decide) 1 _, fun N0 h0 ho => OFF.out N0 (Nat.lt_of_lt_of_le h0 B0.out.size) ho⟩, by
                  have := B9.out
                  repeat (first | exact this | refine Below.setCell ?_ (by simp <;> omega) _)⟩
              exact AllReadyH.nil
            exact AllReadyH.nil
          exact AllReadyH.nil
        exact AllReadyH.nil
      exact AllReadyH.nil
    exact AllReadyH.nil
  exact AllReadyH.nil
end Go.Proofs.YtklhdilbmpndkaaGreat
