/- Check of layer 1, whole. Is of layer 1, whole: what the plain seat did not need. The law's own Is. -/
import Derived.Test.YtklhdilbmpndkaaGreatGd
import Derived.Test.YtklhdilbmpndkaaGreatGr
import Derived.Test.YtklhdilbmpndkaaGreatGl
import Derived.Test.YtklhdilbmpndkaaGreatGe
import Derived.Deep.AppendLies
import Derived.Deep.RegionHeld3
import Derived.Test.YtklhdilbmpndkaaGreatHj
import Derived.Deep.DeepCutAuto
import Derived.BigQuiet
namespace Go.Proofs.YtklhdilbmpndkaaGreat
set_option maxRecDepth 20000
open Go.RowKit Go.Shelf Go.Sort
attribute [local go_sem] Oper.semAt_some
attribute [local go_sem] store_func
set_option linter.unusedVariables false
set_option linter.unusedSimpArgs false

set_option maxHeartbeats 1000000 in
theorem ints_any (A B : Option Addr) (c d : Nat) (xs ys : List Int) (w : World) (hx : Row w A xs) (hy : Row w B ys) (hn : xs.length ≤ 65536) (hm : ys.length ≤ 65536) :
    Calls Tryz.prog 69 #[.slice A xs.length c, .slice B ys.length d] w fun e w' => e = .returned (.bool (decide (xs = ys))) ∧ Below w.heap.size w w' := by
  by_cases hl : xs.length = ys.length
  · have hl' : ((xs.length : Int) != (ys.length : Int)) = false := by simp [hl]
    go_enter Tryz.func69, Tryz.ntmps69
    go_wp2
    go_loopw [13] (fun i wr => ∃ k : Nat, k ≤ xs.length ∧ i = .int .i64 k ∧ xs.take k = ys.take k ∧ ∃ nq, wr = w.drewN nq) (fun i _ => xs.length - (intOf i).toNat)
    case atStart => exact ⟨0, Nat.zero_le _, rfl, rfl, 0, rfl⟩
    case round =>
      obtain ⟨k, hk, rfl, ht, nq, rfl⟩ := hrel
      by_cases hlt : k < xs.length
      · obtain ⟨ad, rfl, hcx⟩ := hx.at_ hlt
        obtain ⟨bd, rfl, hcy⟩ := hy.at_ (hl ▸ hlt)
        have hkx : (k : Int) < (xs.length : Int) := by omega
        have hky : (k : Int) < (ys.length : Int) := by omega
        have hk0 : (0 : Int) ≤ (k : Int) := by omega
        generalize hX : xs.getD k 0 = x at hcx
        generalize hY : ys.getD k 0 = y at hcy
        by_cases hxy : x = y
        · have hne : (x != y) = false := by simp [hxy]
          have HT : Hid (xs.take (k + 1) = ys.take (k + 1)) := take_next ht hlt (hl ▸ hlt) (by rw [hX, hY, hxy])
          clear hX hY ht hl hxy
          go_wp2
          go_quiet (fail)
          go_wp2
          exact ⟨⟨k + 1, by omega, by go_num, HT.out, _, rfl⟩, by simp [intOf]; omega⟩
        · have hne : (x != y) = true := by simp [hxy]
          have HT : Hid (decide (xs = ys) = false) := decide_eq_false (fun e => hxy (by rw [← hX, ← hY, e]))
          clear hX hY ht hl hxy
          go_wp2
          go_quiet (fail)
          go_wp2
          go_ret
          exact ⟨ret_bool HT.out.symm, ⟨rfl, rfl, rfl, Nat.le_refl _, fun _ _ => rfl⟩⟩
      · have HT : Hid (decide (xs = ys) = true) := by
          refine decide_eq_true ?_
          rw [List.take_of_length_le (by omega), List.take_of_length_le (by omega)] at ht
          exact ht
        have hge : ys.length ≤ k := by omega
        have hge' : xs.length ≤ k := by omega
        clear ht hl hlt
        go_wp2
        go_ret
        exact ⟨ret_bool HT.out.symm, ⟨rfl, rfl, rfl, Nat.le_refl _, fun _ _ => rfl⟩⟩
  · have hl' : ((xs.length : Int) != (ys.length : Int)) = true := by simp; omega
    have HT : Hid (decide (xs = ys) = false) := decide_eq_false (fun e => hl (by rw [e]))
    go_enter Tryz.func69, Tryz.ntmps69
    go_wp2
    go_ret
    exact ⟨ret_bool HT.out.symm, Below.refl _ _⟩

theorem ints_n (A B : Option Addr) (c d n m : Nat) (xs ys : List Int) (w : World) (hx : Row w A xs) (hy : Row w B ys) (hn : xs.length = n) (hm : ys.length = m) (h1 : n ≤ 65536) (h2 : m ≤ 65536) (b : Bool) (hb : decide (xs = ys) = b) :
    Calls Tryz.prog 69 #[.slice A n c, .slice B m d] w fun e w' => e = .returned (.bool b) ∧ Below w.heap.size w w' := by
  subst hn hm hb
  exact ints_any A B c d xs ys w hx hy h1 h2

set_option maxHeartbeats 1000000 in
theorem refPack_any (k l p : Int) (w : World) (hg : goodB k l p = true) :
    Calls Tryz.prog 99 #[.agg #[.int .i64 k, .int .i64 l, .int .i64 p]] w fun e w' => e = .returned (.int .i64 (packW k l p)) ∧ w' = w.alloc (.cells #[.int .i64 k, .int .i64 l, .int .i64 p] 64) := by
  obtain ⟨b1, b2, b3, b4, b5, b6, _⟩ := (good_iff k l p).1 hg
  go_enter Tryz.func99, Tryz.ntmps99
  go_wp2
  go_ret
  exact ⟨rfl, rfl⟩

set_option maxHeartbeats 1000000 in
theorem index_any {w : World} {g gw gb : Nat} {obs : List Ob} {tail : List Int} (S : St w g gw gb obs tail) (A : Option Addr) (c : Nat) (ys : List Int) (hr : Row w A ys) (hn : ys.length ≤ 65536) (hw : ∀ v ∈ ys, InR v) :
    Calls Tryz.prog 109 #[.slice A ys.length c, .func (.func 79) #[.pointer (some ⟨g, 0, none⟩)] #[]] w fun e w' => (∃ i : Int, e = .returned (.int .i64 i) ∧ (ys.any (astrayO obs) = true ↔ 0 ≤ i)) ∧ Below w.heap.size w w' := by
  have HW := Lib.hid hw
  have HR := Lib.hid hr
  have HA : Hid (∃ B : Bool, ys.any (astrayO obs) = B) := ⟨_, rfl⟩
  clear hw hr
  go_enter Tryz.func109, Tryz.ntmps109
  go_wp2
  go_loopw [8] (fun i wr => ∃ k : Nat, k ≤ ys.length ∧ i = .int .i64 k ∧ (ys.take k).any (astrayO obs) = false ∧ Below w.heap.size w wr) (fun i _ => ys.length - (intOf i).toNat)
  case atStart => exact ⟨0, Nat.zero_le _, rfl, rfl, Below.refl _ _⟩
  case round =>
    obtain ⟨k, hk, rfl, hall, BB⟩ := hrel
    have HL := Lib.hid hall
    clear hall
    by_cases hlt : k < ys.length
    · obtain ⟨ad, rfl, hcx⟩ := (HR.out.kept BB).at_ hlt
      have e0 : ys.getD k 0 = ys[k] := by simp [List.getD, hlt]
      rw [e0] at hcx
      have hin := HW.out ys[k] (List.getElem_mem hlt)
      have hk0 : (0 : Int) ≤ (k : Int) := by omega
      have hk1 : (k : Int) < (ys.length : Int) := by omega
      have hnx : (ys.take (k + 1)).any (astrayO obs) = astrayO obs ys[k] := by
        rw [List.take_succ_eq_append_getElem hlt, List.any_append, HL.out]; simp
      have HNx := Lib.hid hnx
      have Sr := S.kept BB
      have hyes : astrayO obs ys[k] = true → ys.any (astrayO obs) = true := fun h => List.any_eq_true.2 ⟨ys[k], List.getElem_mem hlt, h⟩
      have HYs := Lib.hid hyes
      clear hnx hyes e0
      generalize ys[k] = v at *
      have hent := enter47
      go_wp2_with fail
      refine (astray_st Sr v hin).mono ?_
      rintro e w2 ⟨rfl, hb2⟩
      have B2 := on BB BB.size hb2
      cases hb : astrayO obs v with
      | false =>
        rw [hb] at HNx
        go_wp2
        exact ⟨⟨k + 1, by omega, by go_num, HNx.out, B2⟩, by simp [intOf]; omega⟩
      | true =>
        go_wp2
        go_ret
        exact ⟨⟨k, rfl, ⟨fun _ => hk0, fun _ => HYs.out hb⟩⟩, B2⟩
    · have hall : ys.any (astrayO obs) = false := by
        have := HL.out
        rwa [List.take_of_length_le (by omega)] at this
      have HAll := Lib.hid hall
      clear hall
      go_wp2
      go_ret
      exact ⟨⟨-1, rfl, ⟨(fun h => by rw [HAll.out] at h; exact Bool.noConfusion h), (fun h => by omega)⟩⟩, BB⟩

set_option maxHeartbeats 1000000 in
theorem contains_any {w : World} {g gw gb : Nat} {obs : List Ob} {tail : List Int} (S : St w g gw gb obs tail) (A : Option Addr) (c : Nat) (ys : List Int) (hr : Row w A ys) (hn : ys.length ≤ 65536) (hw : ∀ v ∈ ys, InR v) :
    Calls Tryz.prog 100 #[.slice A ys.length c, .func (.func 79) #[.pointer (some ⟨g, 0, none⟩)] #[]] w fun e w' => e = .returned (.bool (ys.any (astrayO obs))) ∧ Below w.heap.size w w' := by
  go_enter Tryz.func100, Tryz.ntmps100
  go_wp2_with fail
  refine (index_any S A c ys hr hn hw).mono ?_
  rintro e w2 ⟨⟨i, rfl, hi⟩, hb2⟩
  have HI := Lib.hid hi
  clear hi
  by_cases h0 : 0 ≤ i
  · go_wp2
    go_ret
    exact ⟨ret_bool (by rw [HI.out.2 h0]), hb2⟩
  · have h1 : decide (0 ≤ i) = false := decide_eq_false h0
    go_wp2
    go_ret
    exact ⟨ret_bool (by cases hb : ys.any (astrayO obs) with | false => rfl | true => exact absurd (HI.out.1 hb) (by omega)), hb2⟩

theorem contains_m {w : World} {g gw gb : Nat} {obs : List Ob} {tail : List Int} (S : St w g gw gb obs tail) (A : Option Addr) (c n : Nat) (ys : List Int) (hr : Row w A ys) (hl : ys.length = n) (hn : n ≤ 65536) (hw : ∀ v ∈ ys, InR v) (b : Bool) (hb : ys.any (astrayO obs) = b) :
    Calls Tryz.prog 100 #[.slice A n c, .func (.func 79) #[.pointer (some ⟨g, 0, none⟩)] #[]] w fun e w' => e = .returned (.bool b) ∧ Below w.heap.size w w' := by
  subst hl hb
  exact contains_any S A c ys hr hn hw

set_option maxRecDepth 100000 in
set_option maxHeartbeats 1000000 in
theorem check_in {w : World} {g gw gb : Nat} {obs : List Ob} {tail : List Int} (S : St w g gw gb obs tail) (hW : Within obs) :
    CallsIn Fence.wide 5 Tryz.prog 71 #[.pointer (some ⟨g, 0, none⟩)] w fun e w' => e = .returned (.int .i64 (checkV obs)) ∧ Below w.heap.size w w' := by
  have HW := Lib.hid hW
  clear hW
  refine callsIn_of_wp_marks Tryz.func71 rfl trivial ?_ rfl
  simp only [Tryz.ntmps71, List.size_toArray, List.length_cons, List.length_nil, Nat.reduceAdd, Nat.reduceSub, Array.replicate_succ, Array.replicate_zero, List.push_toArray, List.append_toArray, List.nil_append, List.cons_append]
  gi_wp2_with fail
  refine ⟨trivial, (callsIn_wide.2 walk_any).mono ?_⟩
  rintro e w2 ⟨rfl, rfl⟩
  gi_wp2_with fail
  obtain ⟨W0, hW0⟩ : ∃ W0, (((w.alloc (.cells #[.pointer (some ⟨g, 0, none⟩)] 29)).alloc (.cells #[.int .i64 0] 39)).alloc (.cells #[.func (.func 79) #[.pointer (some ⟨g, 0, none⟩)] #[]] 47)).alloc (.cells #[.pointer (some ⟨g, 0, none⟩)] 29) = W0 := ⟨_, rfl⟩
  have hsz : W0.heap.size = w.heap.size + 1 + 1 + 1 + 1 := by rw [← hW0]; simp
  have hI0 : CkI w g gw gb obs tail [] W0 := by
    rw [← hW0]
    refine ⟨(((S.alloc _).alloc _).alloc _).alloc _, (((Lies.new w 29 [.pointer (some ⟨g, 0, none⟩)]).alloc _).alloc _).alloc _, ?_, ?_, ((((Below.refl _ w).alloc (Nat.le_refl _) _).alloc (by simp) _).alloc (by simp; omega) _).alloc (by simp; omega) _, rfl⟩
    · have := ((Lies.new (w.alloc (.cells #[.pointer (some ⟨g, 0, none⟩)] 29)) 39 [.int .i64 0]).alloc (.cells #[.func (.func 79) #[.pointer (some ⟨g, 0, none⟩)] #[]] 47)).alloc (.cells #[.pointer (some ⟨g, 0, none⟩)] 29)
      simpa using this
    · have := (Lies.new ((w.alloc (.cells #[.pointer (some ⟨g, 0, none⟩)] 29)).alloc (.cells #[.int .i64 0] 39)) 47 [.func (.func 79) #[.pointer (some ⟨g, 0, none⟩)] #[]]).alloc (.cells #[.pointer (some ⟨g, 0, none⟩)] 29)
      simpa using this
  have hwb : Lies W0 (w.heap.size + 1 + 1 + 1) 29 [.pointer (some ⟨g, 0, none⟩)] := by
    rw [← hW0]
    have := Lies.new (((w.alloc (.cells #[.pointer (some ⟨g, 0, none⟩)] 29)).alloc (.cells #[.int .i64 0] 39)).alloc (.cells #[.func (.func 79) #[.pointer (some ⟨g, 0, none⟩)] #[]] 47)) 29 [.pointer (some ⟨g, 0, none⟩)]
    simpa using this
  rw [hW0]
  have HS := Lib.hid hsz
  clear hW0 hsz
  refine wpIn_rangeFunc_ownH rfl (by omega) (gf := 83) (lb := #[.pointer (some ⟨w.heap.size + 1 + 1 + 1, 0, none⟩)]) rfl trivial (enters_of Tryz.func83 (by kernel_rfl) rfl)
    (walk_stops 4 (by omega) g gw gb (w.heap.size + 1 + 1 + 1) obs tail W0 hI0.st hwb) KeepsCells.trans KeepsCells.put (Below.refl _ _) (fun _ => rfl)
    (CkI w g gw gb obs tail) (CkX w obs)
    (fun s A B row hs hg hr => ⟨hs.st.grown hg (fun r e => (hr r e).2), hs.box.grown hg (fun r e => (hr r e).2), hs.res.grown hg (fun r e => (hr r e).2), hs.fn.grown hg (fun r e => (hr r e).2), below_grown hs.old (by rw [HS.out]; omega) hg hr, hs.good⟩)
    (fun c s A B row hs hg hr => ⟨hs.ret, hs.res.grown hg (fun r e => (hr r e).2), below_grown hs.old (by rw [HS.out]; omega) hg hr, hs.bad⟩)
    hI0
    (fun x a' W => ∃ Bx, Lies W Bx 64 [.int .i64 (x.1.2.1 % 16), .int .i64 (x.1.2.1 / 65536), .int .i64 (x.1.2.1 % 65536 / 16)] ∧ Bx ≠ w.heap.size + 1 ∧ a' = { tmps := #[.pointer (some ⟨g, 0, none⟩), .pointer (some ⟨w.heap.size, 0, none⟩), .pointer (some ⟨w.heap.size + 1, 0, none⟩), .pointer (some ⟨w.heap.size + 1 + 1, 0, none⟩), .int .i64 (x.1.1 : Nat), .pointer (some ⟨Bx, 0, none⟩), .pointer (some ⟨g, 0, none⟩), .func (.func 79) #[.pointer (some ⟨g, 0, none⟩)] #[], .pointer (some ⟨g, 0, none⟩), .func (.func 83) #[] #[.pointer (some ⟨w.heap.size + 1 + 1 + 1, 0, none⟩)], .int .i64 (x.1.1 : Nat), .agg #[.int .i64 (x.1.2.1 % 16), .int .i64 (x.1.2.1 / 65536), .int .i64 (x.1.2.1 % 65536 / 16)], undef, undef, undef, undef, undef, undef, undef, undef, undef, undef, undef, undef, undef, undef], defers := [] })
    (fun x a' s A B row hs hg hr => by obtain ⟨Bx, h1, h2, h3⟩ := hs; exact ⟨Bx, h1.grown hg (fun r e => (hr r e).2), h2, h3⟩) ?assign ?body ?done ?stop
  case assign =>
    rintro l pre x W K hi hK
    dsimp only [encAt]
    gi_wp2
    have hlt := hi.res.lt
    refine hK _ _ ((KeepsOthers.alloc _ _).from _) (KeepsCells.of_below ((Below.refl _ W).alloc (Nat.le_refl _) _)) ⟨hi.st.alloc _, hi.box.alloc _, hi.res.alloc _, hi.fn.alloc _, hi.old.alloc hi.old.size _, hi.good⟩ ⟨W.heap.size, Lies.new W 64 [_, _, _], by omega, rfl⟩
  case body =>
    rintro l pre x a' W hl ⟨r, hr⟩ hi ⟨Bx, hBx, hne, rfl⟩ hlt
    obtain ⟨pre0, post0, ho, hN⟩ := x.2
    have hxo : obOf x = x.1.2 := rfl
    obtain ⟨N, hN0⟩ : ∃ N, x.1.1 = N := ⟨_, rfl⟩
    obtain ⟨o, ho0⟩ : ∃ o, x.1.2 = o := ⟨_, rfl⟩
    rw [hN0] at hN ⊢
    rw [ho0] at ho hBx hxo ⊢
    have HX := Lib.hid hxo
    clear hxo hN0 ho0
    have x0 : W.cell? ⟨w.heap.size, 0, none⟩ = some (.pointer (some ⟨g, 0, none⟩)) := hi.box.cell 0
    have x1 : W.cell? ⟨w.heap.size + 1 + 1, 0, none⟩ = some (.func (.func 79) #[.pointer (some ⟨g, 0, none⟩)] #[]) := hi.fn.cell 0
    have x2 := hi.st.lies.c0
    have x3 : W.cell? ⟨Bx, 2, none⟩ = some (.int .i64 (o.1 % 65536 / 16)) := hBx.cell 2
    obtain ⟨Z, hZ⟩ : ∃ Z, (flat obs ++ tail).length = Z := ⟨_, rfl⟩
    have hfine : Fine (pre0 ++ o :: post0) := by rw [← ho]; exact hi.st.fine
    have hhd := hfine.right.head
    obtain ⟨_, _, _, _, hp0, hp1, _⟩ := (good_iff _ _ _).1 (head_good hhd.1)
    obtain ⟨P, hP⟩ := Int.eq_ofNat_of_zero_le hp0
    have hP' : ptrs o.1 = P := by unfold ptrs; rw [hP]; simp
    have hPl : P ≤ o.2.length := by have := hhd.2; unfold lenOf at this; omega
    have hfit : N + 1 + o.2.length ≤ (flat obs).length := by rw [ho, hN]; simp [flat_append, flat_cons]; omega
    have hZ0 : N + 1 + P ≤ Z := by rw [← hZ]; simp; omega
    have hZ1 : Z ≤ 65536 := by rw [← hZ]; exact hi.st.lies.most
    rw [hZ] at x2
    rw [hP] at x3
    have hys : ((flat obs ++ tail).drop (N + 1)).take P = o.2.take P := by
      rw [ho, flat_append, flat_cons, hN]
      simp [List.drop_append, List.take_append, hPl]
    have hRow : Row W (if Z = N + 1 then some ⟨gw, 0, none⟩ else some ⟨gw, N + 1, none⟩) (o.2.take P) := by
      intro h0
      have hP0 : 0 < P := by simp at h0; omega
      rw [if_neg (by omega)]
      refine ⟨_, rfl, hi.st.lies.words.lt, fun i v hv => ?_⟩
      have e : (⟨gw, N + 1, none⟩ : Addr).add i = ⟨gw, N + 1 + i, none⟩ := by unfold Addr.add; split <;> simp_all
      rw [e, hi.st.lies.words.cell, ← hv, ← hys]
      simp only [List.map_take, List.map_drop, List.getElem?_take, List.getElem?_drop]
      have : i < P := by
        have := (List.getElem?_eq_some_iff.1 hv).1
        simp at this; omega
      rw [if_pos this]
    have hin : ∀ v ∈ o.2.take P, InR v := fun v hv => HW.out o (by rw [ho]; simp) v (List.mem_of_mem_take hv)
    have hlen : (o.2.take P).length = P := by simp; omega
    have hob : (o.2.take P).any (astrayO obs) = badOb obs o := by unfold badOb; rw [hP']
    have HRow := Lib.hid hRow
    have HIn := Lib.hid hin
    have HLen := Lib.hid hlen
    have HOb := Lib.hid hob
    have HO := Lib.hid ho
    clear hRow hin hlen hob hys ho hN hP hP' hZ hp0 hp1 hhd hfine hfit hPl
    have b1 : IntKind.i64.wrap ((N : Int) + 1) = (N : Int) + 1 := IntWalk.i64_in _ (by omega)
    have b2 : IntKind.i64.wrap ((N : Int) + 1 + (P : Int)) = (N : Int) + 1 + (P : Int) := IntWalk.i64_in _ (by omega)
    have b3 : (0 : Int) ≤ (N : Int) + 1 := by omega
    have b4 : (N : Int) + 1 ≤ (N : Int) + 1 + (P : Int) := by omega
    have b5 : (N : Int) + 1 + (P : Int) ≤ (Z : Int) := by omega
    have b6 : ((N : Int) + 1).toNat = N + 1 := by omega
    have b7 : ((N : Int) + 1 + (P : Int)).toNat = N + 1 + P := by omega
    have hmx : Tryz.prog.follows .mixedOrders = true := by kernel_rfl
    have y1 := hi.res.cell 0
    have y2 := hi.res.frozen 0
    by_cases hcap : Z = N + 1
    · rw [if_pos hcap] at HRow
      subst hcap
      obtain rfl : P = 0 := by omega
      have X0 := fun d os => cell_regrown x0 d os
      have X1 := fun d os => cell_regrown x1 d os
      have X2 := fun d os => cell_regrown x2 d os
      have X3 := fun d os => cell_regrown x3 d os
      have HC : ∀ d os, Hid (CallsIn Fence.wide 2 Tryz.prog 100 #[.slice (some ⟨gw, 0, none⟩) 0 0, .func (.func 79) #[.pointer (some ⟨g, 0, none⟩)] #[]] (grow (redrawn W d) os) fun e w' => e = .returned (.bool (badOb obs o)) ∧ Below (grow (redrawn W d) os).heap.size (grow (redrawn W d) os) w') := fun d os =>
        Lib.hid ((callsIn_wide (n := 2)).2 (contains_m (hi.st.kept (below_regrown W d os)) (some ⟨gw, 0, none⟩) 0 0 (o.2.take 0) (HRow.out.kept (below_regrown W d os)) HLen.out (by omega) HIn.out (badOb obs o) HOb.out))
      clear x0 x1 x2 x3
      gi_wp2_with fail
      refine quiet_round l (by kernel_rfl) (by kernel_rfl) rfl ?_
      quiet_step_in (fail)
      quiet_step_in (fail)
      quiet_step_in (fail)
      quiet_step_in (fail)
      quiet_step_in (fail)
      quiet_step_in (fail)
      quiet_step_in (fail)
      quiet_step_in (fail)
      quiet_step_in (fail)
      quiet_step_in (fail)
      quiet_step_in (fail)
      quiet_step_in (fail)
      quiet_step_in (fail)
      refine wpQuietIn_step (fun _ _ _ _ => trivial) (fun K hK => ?_)
      go_simp
      apply Exists.intro
      refine ⟨fun p => ?_, hK _ ?_⟩
      · exact CallsIn.regrown_of (HC p.d p.os).out
      clear hK K
      refine wpQuietIn_nil ?_
      rintro w2 ⟨p, rfl⟩
      have hb2 := below_regrown W p.d p.os
      generalize grow (redrawn W p.d) p.os = w2 at *
      have R2 := hi.res.below hb2 hi.res.lt
      have z1 : w2.cell? ⟨w.heap.size + 1, 0, none⟩ = some (.int .i64 0) := R2.cell 0
      have z2 : w2.frozen? ⟨w.heap.size + 1, 0, none⟩ = false := R2.frozen 0
      clear X0 X1 X2 X3 HC y1 y2
      cases hbad : badOb obs o with
      | false =>
        gi_wp2
        exact ⟨keepsFrom_below _ hb2, KeepsCells.of_below hb2, hi.next hb2 (by rw [HX.out]; exact hbad)⟩
      | true =>
        gi_wp2
        exact ⟨(keepsFrom_below _ hb2).trans ((KeepsOthers.setCell _ _ _).from _), rfl, R2.set 0 _, (on hi.old hi.old.size hb2).setCell (by simp) _, List.any_eq_true.2 ⟨o, by rw [HO.out]; simp, hbad⟩⟩
    · rw [if_neg hcap] at HRow
      have X0 := fun d os => cell_regrown x0 d os
      have X1 := fun d os => cell_regrown x1 d os
      have X2 := fun d os => cell_regrown x2 d os
      have X3 := fun d os => cell_regrown x3 d os
      have HC : ∀ d os, Hid (CallsIn Fence.wide 2 Tryz.prog 100 #[.slice (some ⟨gw, N + 1, none⟩) P (Z - (N + 1)), .func (.func 79) #[.pointer (some ⟨g, 0, none⟩)] #[]] (grow (redrawn W d) os) fun e w' => e = .returned (.bool (badOb obs o)) ∧ Below (grow (redrawn W d) os).heap.size (grow (redrawn W d) os) w') := fun d os =>
        Lib.hid ((callsIn_wide (n := 2)).2 (contains_m (hi.st.kept (below_regrown W d os)) (some ⟨gw, N + 1, none⟩) (Z - (N + 1)) P (o.2.take P) (HRow.out.kept (below_regrown W d os)) HLen.out (by omega) HIn.out (badOb obs o) HOb.out))
      clear x0 x1 x2 x3
      gi_wp2_with fail
      refine quiet_round l (by kernel_rfl) (by kernel_rfl) rfl ?_
      quiet_step_in (fail)
      quiet_step_in (fail)
      quiet_step_in (fail)
      quiet_step_in (fail)
      quiet_step_in (fail)
      quiet_step_in (fail)
      quiet_step_in (fail)
      quiet_step_in (fail)
      quiet_step_in (fail)
      quiet_step_in (fail)
      quiet_step_in (fail)
      quiet_step_in (fail)
      quiet_step_in (fail)
      refine wpQuietIn_step (fun _ _ _ _ => trivial) (fun K hK => ?_)
      go_simp
      apply Exists.intro
      refine ⟨fun p => ?_, hK _ ?_⟩
      · exact CallsIn.regrown_of (HC p.d p.os).out
      clear hK K
      refine wpQuietIn_nil ?_
      rintro w2 ⟨p, rfl⟩
      have hb2 := below_regrown W p.d p.os
      generalize grow (redrawn W p.d) p.os = w2 at *
      have R2 := hi.res.below hb2 hi.res.lt
      have z1 : w2.cell? ⟨w.heap.size + 1, 0, none⟩ = some (.int .i64 0) := R2.cell 0
      have z2 : w2.frozen? ⟨w.heap.size + 1, 0, none⟩ = false := R2.frozen 0
      clear X0 X1 X2 X3 HC y1 y2
      cases hbad : badOb obs o with
      | false =>
        gi_wp2
        exact ⟨keepsFrom_below _ hb2, KeepsCells.of_below hb2, hi.next hb2 (by rw [HX.out]; exact hbad)⟩
      | true =>
        gi_wp2
        exact ⟨(keepsFrom_below _ hb2).trans ((KeepsOthers.setCell _ _ _).from _), rfl, R2.set 0 _, (on hi.old hi.old.size hb2).setCell (by simp) _, List.any_eq_true.2 ⟨o, by rw [HO.out]; simp, hbad⟩⟩
  case done =>
    rintro D ys W hD hys hi hK
    have y1 : W.cell? ⟨w.heap.size + 1, 0, none⟩ = some (.int .i64 0) := hi.res.cell 0
    have y2 : W.frozen? ⟨w.heap.size + 1, 0, none⟩ = false := hi.res.frozen 0
    have hbad : badB obs = false := by
      have h := hi.good
      rw [hys] at h
      exact h
    have hv : checkV obs = 0 := by unfold checkV; rw [hbad]; rfl
    have HV := Lib.hid hv
    clear hbad hys hv
    gi_wp2
    have hK' := (KeepsOthers.setCell W ⟨w.heap.size + 1, 0, none⟩ (.int .i64 0)).same D _ hK rfl
    refine ⟨by simp, .inl ⟨_, _, rfl, run_takeDeferred hK', ?_⟩⟩
    have hc5 := cell_kept (World.cell?_setCell_same' W ⟨w.heap.size + 1, 0, none⟩ (.int .i64 0) (by rw [y1]; rfl)) (grownBy_putObj' _ D (.deferred none)) (fun r e => by cases e; exact ⟨_, hK', rfl⟩)
    refine ⟨.int .i64 0, ?_, by rw [HV.out], (hi.old.setCell (p := ⟨w.heap.size + 1, 0, none⟩) (by simp) _).trans (belowK_b (w := w) (Nat.le_refl _) _ D _ _ (by rw [HS.out] at hD; omega) hK' rfl rfl)⟩
    simp [results, Tryz.f71, go_sem, hc5]
  case stop =>
    rintro D c pre W hD _ hx hK
    have hr := hx.ret
    subst hr
    have hv : checkV obs = 5 := by unfold checkV; rw [hx.bad]; rfl
    have HV := Lib.hid hv
    clear hv
    have y1 : W.cell? ⟨w.heap.size + 1, 0, none⟩ = some (.int .i64 5) := hx.res.cell 0
    gi_wp2
    refine ⟨by simp, .inl ⟨_, _, rfl, run_takeDeferred hK, ?_⟩⟩
    have hc5 := cell_kept y1 (grownBy_putObj' _ D (.deferred none)) (fun r e => by cases e; exact ⟨_, hK, rfl⟩)
    refine ⟨.int .i64 5, ?_, by rw [HV.out], hx.old.trans (belowK_b (w := w) (Nat.le_refl _) W D _ _ (by rw [HS.out] at hD; omega) hK rfl rfl)⟩
    simp [results, Tryz.f71, go_sem, hc5]

theorem check_any {w : World} {g gw gb : Nat} {obs : List Ob} {tail : List Int} (S : St w g gw gb obs tail) (hW : Within obs) :
    Calls Tryz.prog 71 #[.pointer (some ⟨g, 0, none⟩)] w fun e w' => e = .returned (.int .i64 (checkV obs)) ∧ Below w.heap.size w w' :=
  callsIn_wide.1 (check_in S hW)

theorem words_z {w : World} {g gw gb : Nat} {obs : List Ob} {tail : List Int} (S : St w g gw gb obs tail) (Z : Nat) (hZ : (flat obs ++ tail).length = Z) :
    Calls Tryz.prog 8 #[.pointer (some ⟨g, 0, none⟩)] w fun e w' => e = .returned (.slice (some ⟨w.heap.size, 0, none⟩) Z Z) ∧ Lies w' w.heap.size 3 ((flat obs ++ tail).map (Value.int .i64)) ∧ Below w.heap.size w w' := by
  subst hZ
  exact words_any S.lies

end Go.Proofs.YtklhdilbmpndkaaGreat

namespace Go.Proofs.YtklhdilbmpndkaaGreat
set_option maxRecDepth 20000
open Go.RowKit Go.Sort
set_option linter.unusedVariables false
set_option linter.unusedSimpArgs false

set_option maxRecDepth 100000 in
set_option maxHeartbeats 400000 in
theorem rcheck_any {w : World} {A : Option Addr} {obs : List Ob} (s : Int) (n c : Nat) (hf : Fine obs) (h : Things w A obs) (hw : Within obs) (hn : obs.length = n) (hm : n ≤ 65536) :
    Calls Tryz.prog 72 #[.agg #[.int .i64 s, .slice A n c]] w fun e w' => e = .returned (.bool (!badB obs)) ∧ Below w.heap.size w w' := by
  have HH := Lib.hid h
  have HF := Lib.hid hf
  have HW := Lib.hid hw
  have HN := Lib.hid hn
  clear h hf hn hw
  have hmx : Tryz.prog.follows .mixedOrders = true := by kernel_rfl
  go_enter Tryz.func72, Tryz.ntmps72
  go_wp2
  go_loopw [8, 3, 4] (fun i _ _ wr => ∃ k : Nat, k ≤ n ∧ i = .int .i64 k ∧ (obs.take k).any (badOb obs) = false ∧ Lies wr w.heap.size 34 [.int .i64 s, .slice A n c] ∧ Below w.heap.size w wr) (fun i _ _ _ => n - (intOf i).toNat)
  case atStart => exact ⟨0, Nat.zero_le _, rfl, rfl, Lies.new w 34 [.int .i64 s, .slice A n c], (Below.refl _ w).alloc (Nat.le_refl _) _⟩
  case round =>
    obtain ⟨k, hk, rfl, hno, L, BB⟩ := hrel
    have HNo := Lib.hid hno
    clear hno
    by_cases hlt : k < n
    · obtain ⟨o, ho⟩ : ∃ o, obs[k]? = some o := ⟨_, List.getElem?_eq_getElem (by rw [HN.out]; exact hlt)⟩
      have hfo := HF.out o (List.mem_of_getElem? ho)
      obtain ⟨_, _, _, _, hp0, hp1, _⟩ := (good_iff _ _ _).1 (head_good hfo.1)
      obtain ⟨P, hP⟩ := Int.eq_ofNat_of_zero_le hp0
      have hP' : ptrs o.1 = P := by unfold ptrs; rw [hP]; simp
      have hPl : P ≤ o.2.length := by have := hfo.2; unfold lenOf at this; omega
      have hPb : P ≤ 4095 := by have := len_le hfo.1; have := hfo.2; omega
      have hob : badOb obs o = (o.2.take P).any (astrayO obs) := by unfold badOb; rw [hP']
      obtain ⟨M, hM⟩ : ∃ M, o.2.length = M := ⟨_, rfl⟩
      rw [hM] at hPl
      have HO := Lib.hid ho
      have HP := Lib.hid hP
      have HOb := Lib.hid hob
      have HM := Lib.hid hM
      clear ho hP hob hM hP' hfo hp0 hp1
      have k0 : (0 : Int) ≤ (k : Int) := by omega
      have k1 : (k : Int) < (n : Int) := by omega
      go_wp2
      go_loopw [4] (fun i wr => ∃ q : Nat, q ≤ P ∧ i = .int .i64 q ∧ (o.2.take q).any (astrayO obs) = false ∧ Lies wr w.heap.size 34 [.int .i64 s, .slice A n c] ∧ Below w.heap.size w wr) (fun i _ => P - (intOf i).toNat)
      case atStart => exact ⟨0, Nat.zero_le _, rfl, rfl, L, BB⟩
      case round =>
        clear L BB
        obtain ⟨q, hq, rfl, hno, L, BB⟩ := hrel
        have HNq := Lib.hid hno
        clear hno
        obtain ⟨ad, B, cc, rfl, c0, c1, c2, c3, c4, hR, -, -⟩ := (HH.out.kept BB).at_ HO.out
        rw [HP.out] at c3
        rw [HM.out] at c4
        have HR := Lib.hid hR
        have x1 : wr.cell? ⟨w.heap.size, 1, none⟩ = some (.slice (some ad) n c) := L.cell 1
        have x0 : wr.cell? ⟨w.heap.size, 0, none⟩ = some (.int .i64 s) := L.cell 0
        clear c0 c1 c2 hR
        by_cases hql : q < P
        · obtain ⟨bd, rfl, hcx⟩ := HR.out.at_ (i := q) (by rw [HM.out]; omega)
          have hqm : q < o.2.length := by rw [HM.out]; omega
          have e0 : o.2.getD q 0 = o.2[q] := by simp [List.getD, hqm]
          have hin := HW.out o (List.mem_of_getElem? HO.out) o.2[q] (List.getElem_mem hqm)
          have hnx : (o.2.take (q + 1)).any (astrayO obs) = astrayO obs (o.2.getD q 0) := by
            rw [List.take_succ_eq_append_getElem hqm, List.any_append, HNq.out, e0]; simp
          have hyes : astrayO obs (o.2.getD q 0) = true → badB obs = true := fun hc => by
            unfold badB
            rw [List.any_eq_true]
            refine ⟨o, List.mem_of_getElem? HO.out, ?_⟩
            rw [HOb.out, List.any_eq_true]
            refine ⟨o.2.getD q 0, ?_, hc⟩
            rw [e0, List.mem_iff_getElem?]
            exact ⟨q, by rw [List.getElem?_take, if_pos hql]; exact List.getElem?_eq_getElem hqm⟩
          rw [← e0] at hin
          have HNx := Lib.hid hnx
          have HYs := Lib.hid hyes
          clear hnx hyes e0 hqm
          generalize o.2.getD q 0 = v at *
          have X0 := fun d os => cell_regrown x0 d os
          have X1 := fun d os => cell_regrown x1 d os
          have X4 := fun d os => cell_regrown c4 d os
          have XV := fun d os => cell_regrown hcx d os
          have HC : ∀ d os, Hid (Calls Tryz.prog 80 #[.agg #[.int .i64 s, .slice (some ad) n c], .int .i64 v] (grow (redrawn wr d) os) fun e w' => e = .returned (.bool (!astrayO obs v)) ∧ Below (grow (redrawn wr d) os).heap.size (grow (redrawn wr d) os) w') := fun d os =>
            Lib.hid (leads_any s v n c ((HH.out.kept BB).kept (below_regrown wr d os)) HN.out hm hin)
          have q0 : (0 : Int) ≤ (q : Int) := by omega
          have q1 : (q : Int) < (M : Int) := by omega
          clear hin
          go_wp2_with fail
          refine wp_region_quiet_below hmx (by kernel_rfl) ?_
          repeat (quiet_step (exact Calls.regrown_of (HC _ _).out))
          refine wpQuiet_nil ?_
          rintro w4 ⟨p, rfl⟩
          have hb4 := below_regrown wr p.d p.os
          generalize grow (redrawn wr p.d) p.os = w4 at *
          have B4 := on BB BB.size hb4
          have L4 := L.below hb4 L.lt
          clear X0 X1 X4 XV HC x0 x1 c3 c4 hcx
          cases hb : astrayO obs v with
          | false =>
            go_wp2
            exact ⟨⟨q + 1, by omega, by go_num, by rw [HNx.out]; exact hb, L4, B4⟩, by simp [intOf]; omega⟩
          | true =>
            go_wp2
            go_ret
            exact ⟨by rw [HYs.out hb]; rfl, B4⟩
        · obtain rfl : q = P := by omega
          have hnx : (obs.take (k + 1)).any (badOb obs) = false := by
            obtain ⟨hi, he⟩ := List.getElem?_eq_some_iff.1 HO.out
            rw [List.take_succ_eq_append_getElem hi, List.any_append, HNo.out, he]
            have := HNq.out
            simp [HOb.out, this]
          have HNx := Lib.hid hnx
          clear hnx c4
          go_wp2
          exact ⟨⟨k + 1, by omega, by go_num, HNx.out, L, BB⟩, by simp [intOf]; omega⟩
    · obtain rfl : k = n := by omega
      have hall : badB obs = false := by
        have := HNo.out
        rw [List.take_of_length_le (by rw [HN.out]; exact Nat.le_refl _)] at this
        exact this
      have HAll := Lib.hid hall
      clear hall
      go_wp2
      go_ret
      exact ⟨by rw [HAll.out]; rfl, BB⟩

theorem rpack_ob (n : Int) (w : World) (h : headB n = true) :
    Calls Tryz.prog 99 #[.agg #[.int .i64 (n % 16), .int .i64 (n / 65536), .int .i64 (n % 65536 / 16)]] w fun e w' => e = .returned (.int .i64 n) ∧ w' = w.alloc (.cells #[.int .i64 (n % 16), .int .i64 (n / 65536), .int .i64 (n % 65536 / 16)] 64) := by
  have := refPack_any (n % 16) (n / 65536) (n % 65536 / 16) w (head_good h)
  rw [pack_back h] at this
  exact this

set_option maxRecDepth 100000 in
set_option maxHeartbeats 400000 in
theorem rwords_any {w : World} {A : Option Addr} {obs : List Ob} (s : Int) (n c : Nat) (hf : Fine obs) (h : Things w A obs) (hn : obs.length = n) (hm : (flat obs).length ≤ 65536) :
    Calls Tryz.prog 70 #[.agg #[.int .i64 s, .slice A n c]] w fun e w' => (∃ B d, e = .returned (.slice B (flat obs).length d) ∧ Row w' B (flat obs)) ∧ Below w.heap.size w w' := by
  obtain ⟨W0, hW0⟩ : ∃ W0, W0 = w.alloc (.cells #[.int .i64 s, .slice A n c] 34) := ⟨_, rfl⟩
  have b0 : Below w.heap.size w W0 := by rw [hW0]; exact (Below.refl _ w).alloc (Nat.le_refl _) _
  have L0 : Lies W0 w.heap.size 34 [.int .i64 s, .slice A n c] := by rw [hW0]; exact Lies.new w 34 _
  have hz0 : W0.heap.size = w.heap.size + 1 := by rw [hW0]; simp
  have HH := Lib.hid (h.kept b0)
  have HF := Lib.hid hf
  have HN := Lib.hid hn
  have HM := Lib.hid hm
  have hn6 : n ≤ 65536 := by have := count_le obs; omega
  have HW0 := Lib.hid hW0
  have HZ0 := Lib.hid hz0
  clear h hf hn hm hW0 hz0
  go_enter Tryz.func70, Tryz.ntmps70
  go_wp2
  go_loopw [8, 3, 4] (fun i t _ wr => ∃ k : Nat, k ≤ n ∧ i = .int .i64 k ∧ wr.ownsRow W0.heap.size 3 1 t (atI obs k) ((flat (obs.take k)).map (Value.int .i64)) ∧ Below W0.heap.size W0 wr) (fun i _ _ _ => n - (intOf i).toNat)
  case atStart => exact ⟨0, Nat.zero_le _, rfl, ⟨by simp [atI, flat_nil], .inl ⟨rfl, atI_zero obs⟩⟩, by rw [← HW0.out]; exact Below.refl _ _⟩
  case round =>
    obtain ⟨k, hk, rfl, OW, BB⟩ := hrel
    have hbl : w.heap.size < W0.heap.size := L0.lt
    have x1 : wr.cell? ⟨w.heap.size, 1, none⟩ = some (.slice A n c) := (BB.cell (p := ⟨w.heap.size, 1, none⟩) hbl).trans (L0.cell 1)
    by_cases hlt : k < n
    · obtain ⟨o, ho⟩ : ∃ o, obs[k]? = some o := ⟨_, List.getElem?_eq_getElem (by rw [HN.out]; exact hlt)⟩
      obtain ⟨ad, bd, cc, rfl, c0, c1, c2, c3, c4, hR, hadl⟩ := HH.out.at2 ho BB
      have hfo := HF.out o (List.mem_of_getElem? ho)
      have hs := atI_succ ho
      have hle := atI_le obs (k + 1)
      have hM := HM.out
      obtain ⟨M, hMm⟩ : ∃ M, o.2.length = M := ⟨_, rfl⟩
      obtain ⟨N, hN⟩ : ∃ N, atI obs k = N := ⟨_, rfl⟩
      rw [hN, hMm] at hs
      rw [hN] at OW
      rw [hMm] at c4
      have hb2 : N + 1 + M ≤ 65536 := by omega
      have hfl : flat (obs.take (k + 1)) = flat (obs.take k) ++ [o.1] ++ o.2 := by
        obtain ⟨hi, he⟩ := List.getElem?_eq_some_iff.1 ho
        rw [List.take_succ_eq_append_getElem hi, flat_append, he, flat_cons, flat_nil]
        simp
      have HFl := Lib.hid hfl
      have HS := Lib.hid hs
      have HMm := Lib.hid hMm
      have HR := Lib.hid hR
      have HFo := Lib.hid hfo
      have HB := Lib.hid BB
      have HOW := Lib.hid OW
      clear c0 hfo hs hle hM hN hMm hR ho hfl BB OW
      have k0 : (0 : Int) ≤ (k : Int) := by omega
      have k1 : (k : Int) < (n : Int) := by omega
      have n1 : w.heap.size < wr.heap.size := by have := HB.out.size; omega
      have n2 : (ad.add (k * 5)).block < wr.heap.size := by have := HB.out.size; omega
      obtain ⟨Wb, hWb⟩ : ∃ Wb, Wb = ((wr.alloc (.cells #[.int .i64 (o.1 % 16), .int .i64 (o.1 / 65536), .int .i64 (o.1 % 65536 / 16)] 64)).alloc (.cells #[.int .i64 o.1] 3)).drew := ⟨_, rfl⟩
      have hbw : Below wr.heap.size wr Wb := by
        rw [hWb]
        have h1 := ((Below.refl wr.heap.size wr).alloc (Nat.le_refl _) (.cells #[.int .i64 (o.1 % 16), .int .i64 (o.1 / 65536), .int .i64 (o.1 % 65536 / 16)] 64)).alloc (by rw [World.size_alloc]; exact Nat.le_succ _) (.cells #[.int .i64 o.1] 3)
        exact ⟨h1.os, h1.tape, h1.output, h1.size, h1.block⟩
      have hnew : Row Wb (some ⟨wr.heap.size + 1, 0, none⟩) [o.1] := by
        rw [hWb]
        have := Row.of_lies (zs := [o.1]) (Lies.new (wr.alloc (.cells #[.int .i64 (o.1 % 16), .int .i64 (o.1 / 65536), .int .i64 (o.1 % 65536 / 16)] 64)) 3 [.int .i64 o.1])
        exact Row.drew (by simpa using this)
      have hwb := owns_kept HOW.out hbw
      have hbb := on HB.out HB.out.size hbw
      have hsb : W0.heap.size ≤ Wb.heap.size := hbb.size
      rw [hWb] at hnew hwb hbb hsb
      have HNew := Lib.hid hnew
      have HWB := Lib.hid hwb
      have HBB := Lib.hid hbb
      have HSB := Lib.hid hsb
      clear hnew hwb hbb hsb hbw hWb
      go_wp2_with fail
      go_region_held3 (fun W => W.cell? ⟨w.heap.size, 1, none⟩ = some (.slice (some ad) n c) ∧ W.cell? ⟨(ad.add (k * 5)).block, (ad.add (k * 5)).off + 1, none⟩ = some (.int .i64 (o.1 % 16)) ∧ W.cell? ⟨(ad.add (k * 5)).block, (ad.add (k * 5)).off + 2, none⟩ = some (.int .i64 (o.1 / 65536)) ∧ W.cell? ⟨(ad.add (k * 5)).block, (ad.add (k * 5)).off + 3, none⟩ = some (.int .i64 (o.1 % 65536 / 16)) ∧ W.cell? ⟨(ad.add (k * 5)).block, (ad.add (k * 5)).off + 4, none⟩ = some (.slice (some bd) M cc))
        (first | go_keep | exact ⟨hS1 _ _ hbl x1, hS1 _ _ hadl c1, hS1 _ _ hadl c2, hS1 _ _ hadl c3, hS1 _ _ hadl c4⟩ | exact ⟨hS2 _ _ hbl x1, hS2 _ _ hadl c1, hS2 _ _ hadl c2, hS2 _ _ hadl c3, hS2 _ _ hadl c4⟩)
        ((first
        | (go_at_call 99; refine (rpack_ob o.1 _ HFo.out.1).mono ?_; rintro e w' ⟨rfl, rfl⟩)
        | (refine step_ints rfl (.tmp 11) (.tmp 19) rfl W0.heap.size u3 N (flat (obs.take k)) rfl HWB.out _ 1 1 [o.1] rfl rfl HNew.out (by omega) HSB.out ?_; intro v1 w1 O1 G1; have B1 := Lib.hid (below_own HBB.out (Nat.le_refl _) HSB.out HWB.out G1); have hS1 := cell_two HB.out B1.out; have HO1 := Lib.hid O1; clear O1 G1)
        | (refine step_ints rfl (.tmp 20) (.tmp 26) rfl W0.heap.size v1 (N + 1) (flat (obs.take k) ++ [o.1]) rfl HO1.out bd M cc o.2 rfl HMm.out (HR.out.kept B1.out) (by omega) B1.out.size ?_; intro v2 w2 O2 G2; have B2 := Lib.hid (below_own B1.out (Nat.le_refl _) B1.out.size HO1.out G2); have hS2 := cell_two HB.out B2.out; have HO2 := Lib.hid O2; clear O2 G2)
        | fail))
      go_wp2
      refine ⟨⟨k + 1, by omega, by go_num, ?_, B2.out⟩, by simp [intOf]; omega⟩
      rw [HS.out, HFl.out]
      exact HO2.out
    · obtain rfl : k = n := by omega
      have hall : atI obs k = (flat obs).length := by rw [← HN.out]; exact atI_all obs
      have htk : flat (obs.take k) = flat obs := by rw [List.take_of_length_le (by rw [HN.out]; exact Nat.le_refl _)]
      rw [hall, htk] at OW
      obtain ⟨B, d, rfl, hRow⟩ := owns_row OW
      have HRow := Lib.hid hRow
      clear hall htk OW hRow
      go_wp2
      go_ret
      exact ⟨⟨B, d, rfl, HRow.out⟩, on b0 b0.size BB⟩

theorem enter49 (args : Array Value) (W : World) : (callFunc 68 args).run Tryz.prog W = .ok (.enter 68 args) W := by
  simp [callFunc, go_sem, Tryz.func68]
  kernel_rfl

set_option maxRecDepth 100000 in
set_option maxHeartbeats 400000 in
theorem is1_any {w0 w : World} {A : Option Addr} {obs : List Ob} {o : Ob} {bo bi bm : Nat} (s : Int) (I N n c : Nat) (T : Things w0 A obs) (hb : Below w0.heap.size w0 w) (ho : obs[I]? = some o) (hN : atI obs I = N) (hn : obs.length = n) (hn6 : n ≤ 65536)
    (h1 : Lies w bo 4 [.bool true]) (h2 : Lies w bi 3 [.int .i64 (I : Int)]) (h3 : Lies w bm 34 [.int .i64 s, .slice A n c]) (ko : w0.heap.size ≤ bo) (ki : w0.heap.size ≤ bi) :
    Calls Tryz.prog 68 #[.int .i64 (N : Int), .agg #[.int .i64 (o.1 % 16), .int .i64 (o.1 / 65536), .int .i64 (o.1 % 65536 / 16)], .pointer (some ⟨bo, 0, none⟩), .pointer (some ⟨bi, 0, none⟩), .pointer (some ⟨bm, 0, none⟩)] w fun e w' =>
      e = .returned (.bool true) ∧ Lies w' bo 4 [.bool true] ∧ Lies w' bi 3 [.int .i64 ((I + 1 : Nat) : Int)] ∧ Else bo bi bi w w' := by
  obtain ⟨ad, bd, cc, rfl, c0, c1, c2, c3, c4, -, hadl⟩ := T.at2 ho hb
  rw [hN] at c0
  have hI : I < n := by rw [← hn]; exact (List.getElem?_eq_some_iff.1 ho).1
  clear c4 T ho hN hn
  have n1 : bo ≠ bi := h1.apart h2 (by decide)
  have n2 : bo ≠ bm := h1.apart h3 (by decide)
  have n3 : bi ≠ bm := h2.apart h3 (by decide)
  have l1 := h1.lt
  have l2 := h2.lt
  have l3 := h3.lt
  have l4 : (ad.add (I * 5)).block < w.heap.size := by have := hb.size; omega
  have n4 : (ad.add (I * 5)).block ≠ bo := by omega
  have n5 : (ad.add (I * 5)).block ≠ bi := by omega
  have d1 : w.cell? ⟨bo, 0, none⟩ = some (.bool true) := h1.cell 0
  have d2 : w.cell? ⟨bi, 0, none⟩ = some (.int .i64 I) := h2.cell 0
  have d3 : w.cell? ⟨bm, 1, none⟩ = some (.slice (some ad) n c) := h3.cell 1
  have f1 : w.frozen? ⟨bo, 0, none⟩ = false := h1.frozen 0
  have f2 : w.frozen? ⟨bi, 0, none⟩ = false := h2.frozen 0
  have k0 : (0 : Int) ≤ (I : Int) := by omega
  have k1 : (I : Int) < (n : Int) := by omega
  have k2 : decide ((I : Int) < (n : Int)) = true := by simp; omega
  have hN' : ((N : Int) == (N : Int)) = true := by simp
  clear hb
  generalize o.1 % 65536 / 16 = r at *
  generalize o.1 / 65536 = q at *
  generalize o.1 % 16 = p at *
  obtain ⟨V, hV⟩ : ∃ V, V = (w.setCell ⟨bo, 0, none⟩ (.bool true)).alloc (.cells #[.int .i64 p, .int .i64 q, .int .i64 r] 64) := ⟨_, rfl⟩
  have hsz : (w.setCell ⟨bo, 0, none⟩ (.bool true)).heap.size = w.heap.size := by simp [World.setCell]
  have A1 : Lies V bo 4 [.bool true] := by rw [hV]; exact (h1.set 0 (.bool true)).alloc _
  have A2 : Lies V bi 3 [.int .i64 (I : Int)] := by rw [hV]; exact (h2.far (p := ⟨bo, 0, none⟩) n1.symm _).alloc _
  have A3 : Lies V bm 34 [.int .i64 s, .slice (some ad) n c] := by rw [hV]; exact (h3.far (p := ⟨bo, 0, none⟩) n2.symm _).alloc _
  have A4 : Lies V w.heap.size 64 [.int .i64 p, .int .i64 q, .int .i64 r] := by
    have := Lies.new (w.setCell ⟨bo, 0, none⟩ (.bool true)) 64 [.int .i64 p, .int .i64 q, .int .i64 r]
    rw [hsz] at this
    rw [hV]; exact this
  have hE : Else bo bi bi w V := by
    rw [hV]
    exact ⟨rfl, rfl, rfl, by simp [World.setCell], fun k hk hb _ _ => (Below.heap_alloc _ _ k (by rw [hsz]; exact hk)).trans (Below.heap_setCell _ _ _ _ hb)⟩
  have hcell : ∀ (a : Addr) (u : Value), a.block = (ad.add (I * 5)).block → w.cell? a = some u → V.cell? a = some u := fun a u ha hc =>
    (World.cell?_of_block (hE.block a.block (by rw [ha]; exact l4) (by rw [ha]; exact n4) (by rw [ha]; exact n5) (by rw [ha]; exact n5))).trans hc
  have hS : V.drew.cell? ⟨bo, 0, none⟩ = some (.bool true) ∧ V.drew.cell? ⟨bi, 0, none⟩ = some (.int .i64 I) ∧ V.drew.cell? ⟨bm, 1, none⟩ = some (.slice (some ad) n c) ∧ V.drew.cell? (ad.add (I * 5)) = some (.int .i64 N) ∧ V.drew.cell? ⟨(ad.add (I * 5)).block, (ad.add (I * 5)).off + 1, none⟩ = some (.int .i64 p) ∧ V.drew.cell? ⟨(ad.add (I * 5)).block, (ad.add (I * 5)).off + 2, none⟩ = some (.int .i64 q) ∧ V.drew.cell? ⟨(ad.add (I * 5)).block, (ad.add (I * 5)).off + 3, none⟩ = some (.int .i64 r) ∧ V.drew.cell? ⟨w.heap.size, 0, none⟩ = some (.int .i64 p) ∧ V.drew.cell? ⟨w.heap.size, 1, none⟩ = some (.int .i64 q) ∧ V.drew.cell? ⟨w.heap.size, 2, none⟩ = some (.int .i64 r) :=
    ⟨A1.cell 0, A2.cell 0, A3.cell 1, hcell _ _ rfl c0, hcell ⟨_, _, _⟩ _ rfl c1, hcell ⟨_, _, _⟩ _ rfl c2, hcell ⟨_, _, _⟩ _ rfl c3, A4.cell 0, A4.cell 1, A4.cell 2⟩
  have g1 : V.drew.cell? ⟨bi, 0, none⟩ = some (.int .i64 I) := A2.cell 0
  have g2 : V.drew.frozen? ⟨bi, 0, none⟩ = false := A2.frozen 0
  have g3 : V.drew.cell? ⟨bo, 0, none⟩ = some (.bool true) := A1.cell 0
  rw [hV] at hS g1 g2 g3
  obtain ⟨-, -, -, t4, t5, t6, t7, t8, t9, t10⟩ := hS
  clear hV A1 A2 A3 A4 hE hcell hsz
  go_enter Tryz.func68, Tryz.ntmps68
  go_wp2_with fail
  go_region_held3 (fun W => W.cell? ⟨bo, 0, none⟩ = some (.bool true) ∧ W.cell? ⟨bi, 0, none⟩ = some (.int .i64 I) ∧ W.cell? ⟨bm, 1, none⟩ = some (.slice (some ad) n c) ∧ W.cell? (ad.add (I * 5)) = some (.int .i64 N) ∧ W.cell? ⟨(ad.add (I * 5)).block, (ad.add (I * 5)).off + 1, none⟩ = some (.int .i64 p) ∧ W.cell? ⟨(ad.add (I * 5)).block, (ad.add (I * 5)).off + 2, none⟩ = some (.int .i64 q) ∧ W.cell? ⟨(ad.add (I * 5)).block, (ad.add (I * 5)).off + 3, none⟩ = some (.int .i64 r) ∧ W.cell? ⟨w.heap.size, 0, none⟩ = some (.int .i64 p) ∧ W.cell? ⟨w.heap.size, 1, none⟩ = some (.int .i64 q) ∧ W.cell? ⟨w.heap.size, 2, none⟩ = some (.int .i64 r))
    (first | go_keep)
    ((first | fail))
  go_wp2
  go_ret
  have e1 : ((I + 1 : Nat) : Int) = (I : Int) + 1 := by omega
  rw [e1]
  refine ⟨rfl, (((h1.set 0 (.bool true)).far (p := ⟨bi, 0, none⟩) n1 _).alloc _).drew, (((h2.far (p := ⟨bo, 0, none⟩) n1.symm _).set 0 _).alloc _).drew, ⟨rfl, rfl, rfl, ?_, fun k hk h1 h2 _ => ?_⟩⟩
  · simp [World.setCell]
  · exact (Below.heap_alloc _ _ k (by simp [World.setCell]; exact hk)).trans ((Below.heap_setCell _ _ _ _ h2).trans (Below.heap_setCell _ _ _ _ h1))

theorem JI.step {w W : World} {g gw gb bW bm bi bo n c : Nat} {s : Int} {A : Option Addr} {obs pre post : List Ob} {tail : List Int} {o : Ob} (h : JI w g gw gb bW bm bi bo s A n c obs tail pre W) (T : Things w A obs) (he : obs = pre ++ o :: post) (hn : obs.length = n) (hn6 : n ≤ 65536)
    (k1 : gw < w.heap.size) (k2 : gb < w.heap.size) (w1 : w.heap.size ≤ bi) (w2 : w.heap.size ≤ bo) (B : Nat) (b1 : bi < B) (b2 : bo < B) :
    Calls Tryz.prog 68 #[.int .i64 ((flat pre).length : Nat), .agg #[.int .i64 (o.1 % 16), .int .i64 (o.1 / 65536), .int .i64 (o.1 % 65536 / 16)], .pointer (some ⟨bo, 0, none⟩), .pointer (some ⟨bi, 0, none⟩), .pointer (some ⟨bm, 0, none⟩)] W fun e W' =>
      e = .returned (.bool true) ∧ JI w g gw gb bW bm bi bo s A n c obs tail (pre ++ [o]) W' ∧ Above B W W' := by
  have ho : obs[pre.length]? = some o := by rw [he]; simp
  have hN : atI obs pre.length = (flat pre).length := by unfold atI; rw [he]; simp
  refine (is1_any s pre.length _ n c T h.old ho hN hn hn6 h.ok h.i h.box w2 w1).mono fun e W' ⟨he', a1, a2, a4⟩ => ⟨he', ⟨⟨h.st.fine, ?_⟩, ?_, ?_, ?_, a1, ?_⟩, ⟨a4.size, fun j h1 h2 => a4.block j h2 (by omega) (by omega) (by omega)⟩⟩
  · have H := h.st.lies
    have e1 : g ≠ bi := H.own.apart h.i (by decide)
    have e2 : gb ≠ bi := H.begins.apart h.i (by decide)
    exact ⟨H.own.of_block (a4.block _ H.own.lt (H.own.apart h.ok (by decide)) e1 e1), H.words.of_block (a4.block _ H.words.lt (H.words.apart h.ok (by decide)) (by omega) (by omega)), H.begins.of_block (a4.block _ H.begins.lt (by omega) e2 e2), H.same, H.some_, H.most, H.fits⟩
  · have e1 : bW ≠ bi := h.walk.apart h.i (by decide)
    exact h.walk.of_block (a4.block _ h.walk.lt (h.walk.apart h.ok (by decide)) e1 e1)
  · have e1 : bm ≠ bi := h.box.apart h.i (by decide)
    exact h.box.of_block (a4.block _ h.box.lt (h.box.apart h.ok (by decide)) e1 e1)
  · simpa using a2
  · exact h.old.trans (a4.below h.old.size w2 w1 w1)

set_option maxRecDepth 100000 in
set_option maxHeartbeats 400000 in
theorem is_any {w : World} {g gw gb : Nat} {obs : List Ob} {tail : List Int} {A : Option Addr} (S : St w g gw gb obs tail) (T : Things w A obs) (hW : Within obs) (n c Z : Nat) (hn : obs.length = n) (hZ : (flat obs ++ tail).length = Z) :
    Calls Tryz.prog 36 #[.pointer (some ⟨g, 0, none⟩), .agg #[.int .i64 (Z : Int), .slice A n c]] w fun e w' => e = .returned (.bool true) ∧ Below w.heap.size w w' := by
  have hnil := fun W g => nil_ne W g
  have hZ6 : Z ≤ 65536 := by rw [← hZ]; exact S.lies.most
  have hfl : (flat obs).length ≤ 65536 := by have := S.lies.most; simp at this; omega
  have hn6 : n ≤ 65536 := by have := count_le obs; omega
  obtain ⟨N, hN⟩ : ∃ N, (flat obs).length = N := ⟨_, rfl⟩
  have hNZ : N ≤ Z := by rw [← hN, ← hZ]; simp
  have HN := Lib.hid hN
  have HZ := Lib.hid hZ
  have Hn := Lib.hid hn
  have HW := Lib.hid hW
  have HFL := Lib.hid hfl
  have b0 : Below w.heap.size w (w.alloc (.cells #[.int .i64 (Z : Int), .slice A n c] 34)).drew := by
    have h1 := (Below.refl w.heap.size w).alloc (Nat.le_refl _) (.cells #[.int .i64 (Z : Int), .slice A n c] 34)
    exact ⟨h1.os, h1.tape, h1.output, h1.size, h1.block⟩
  have S1 := S.kept b0
  have T1 := T.kept b0
  have L1 := (Lies.new w 34 [.int .i64 (Z : Int), .slice A n c]).drew
  have x0 : (w.alloc (.cells #[.int .i64 (Z : Int), .slice A n c] 34)).drew.cell? ⟨w.heap.size, 0, none⟩ = some (.int .i64 (Z : Int)) := L1.cell 0
  have x1 : (w.alloc (.cells #[.int .i64 (Z : Int), .slice A n c] 34)).drew.cell? ⟨w.heap.size, 1, none⟩ = some (.slice A n c) := L1.cell 1
  have hts : N = (flat obs).length := HN.out.symm
  have HRT : ∀ W, Things W A obs → Calls Tryz.prog 67 #[.agg #[.int .i64 (Z : Int), .slice A n c]] W fun e w' => e = .returned (.int .i64 (N : Int)) ∧ Below W.heap.size W w' := fun W hT => by
    have := rtop_any (Z : Int) n c S.fine hT Hn.out HFL.out
    rw [HN.out] at this
    exact this
  have HRTh := Lib.hid HRT
  clear hN hZ hn hW hfl hts HRT
  have eZ : ((Z : Int) != (Z : Int)) = false := by simp
  have eN : ((N : Int) != (N : Int)) = false := by simp
  go_enter Tryz.func36, Tryz.ntmps36
  go_wp2_with fail
  go_region_held3 (fun W => W.cell? ⟨w.heap.size, 0, none⟩ = some (.int .i64 (Z : Int)) ∧ W.cell? ⟨w.heap.size, 1, none⟩ = some (.slice A n c))
    (first | go_keep | exact ⟨hS2.cell 0, hS2.cell 1⟩ | exact ⟨hS3.cell 0, hS3.cell 1⟩)
    ((first
    | (go_at_call 15; refine (size_z S1 Z HZ.out).mono ?_; rintro e w' ⟨rfl, rfl⟩)
    | (go_at_call 18; refine (top_n S1 N HN.out).mono ?_; rintro e w' ⟨rfl, rfl⟩)
    | (go_at_call 67; refine (HRTh.out _ T1).mono ?_; rintro e w2 ⟨rfl, hb2⟩; have hS2 := L1.below hb2 L1.lt; have S2 := S1.kept hb2; have HB2 := Lib.hid hb2; clear hb2)
    | (go_at_call 8; refine (words_z S2 Z HZ.out).mono ?_; rintro e w3 ⟨rfl, hL3, hb3⟩; have hS3 := hS2.below hb3 hS2.lt; have S3 := S2.kept hb3; have HB3 := Lib.hid hb3; clear hb3 hL3)
    | fail))
  have B3 : Below w.heap.size w w3 := on (on b0 b0.size HB2.out) (by have := b0.size; have := HB2.out.size; omega) HB3.out
  have z1 := S.lies.words.lt
  have z2 := S.lies.begins.lt
  have z3 := B3.size
  have z4 := hS3.lt
  clear x0 x1 hS2 S2 S1 L1 b0 HB2 HB3 T1 HRTh
  go_wp2_with fail
  refine walk_any.mono ?_
  rintro e w5 ⟨rfl, rfl⟩
  have J0 : JI w g gw gb (w3.heap.size + 1 + 1) w.heap.size w3.heap.size (w3.heap.size + 1) (Z : Int) A n c obs tail [] (((w3.alloc (.cells #[.int .i64 0] 3)).alloc (.cells #[.bool true] 4)).alloc (.cells #[.pointer (some ⟨g, 0, none⟩)] 29)) := by
    refine ⟨((S3.alloc _).alloc _).alloc _, ?_, ((hS3.alloc _).alloc _).alloc _, ((Lies.new w3 3 [.int .i64 0]).alloc _).alloc _, ?_, ((B3.alloc B3.size _).alloc (by simp; omega) _).alloc (by simp; omega) _⟩
    · have := Lies.new ((w3.alloc (.cells #[.int .i64 0] 3)).alloc (.cells #[.bool true] 4)) 29 [.pointer (some ⟨g, 0, none⟩)]
      simpa using this
    · have := (Lies.new (w3.alloc (.cells #[.int .i64 0] 3)) 4 [.bool true]).alloc (.cells #[.pointer (some ⟨g, 0, none⟩)] 29)
      simpa using this
  have HC := Lib.hid (walk1 68 #[.pointer (some ⟨w3.heap.size + 1, 0, none⟩), .pointer (some ⟨w3.heap.size, 0, none⟩), .pointer (some ⟨w.heap.size, 0, none⟩)] g gw gb (w3.heap.size + 1 + 1) (w3.heap.size + 1 + 1) obs tail
    (JI w g gw gb (w3.heap.size + 1 + 1) w.heap.size w3.heap.size (w3.heap.size + 1) (Z : Int) A n c obs tail) (fun _ _ => False)
    (fun pre W hj => ⟨hj.st, hj.walk⟩) (fun pre W W' hj hb => hj.kept hb)
    (fun pre o post W he hj => (hj.step T he Hn.out hn6 z1 z2 z3 (by omega) (w3.heap.size + 1 + 1) (by omega) (by omega)).mono fun e W' h => .inl h) enter49 _ (by simp) J0)
  go_wp2_with fail
  refine HC.out.mono ?_
  clear HC J0
  rintro e w6 ⟨rfl, (hj6 | ⟨_, _, _, _, hf⟩)⟩
  rotate_left
  · exact hf.elim
  have x0 : w6.cell? ⟨w.heap.size, 0, none⟩ = some (.int .i64 (Z : Int)) := hj6.box.cell 0
  have x1 : w6.cell? ⟨w.heap.size, 1, none⟩ = some (.slice A n c) := hj6.box.cell 1
  have x2 : w6.cell? ⟨w3.heap.size, 0, none⟩ = some (.int .i64 (n : Int)) := by rw [← Hn.out]; exact hj6.i.cell 0
  have x3 : w6.cell? ⟨w3.heap.size + 1, 0, none⟩ = some (.bool true) := hj6.ok.cell 0
  have hd6 : Below w6.heap.size w6 w6.drew := ⟨rfl, rfl, rfl, Nat.le_refl _, fun _ _ => rfl⟩
  have hj6 := hj6.kept hd6
  have HT6 := Lib.hid (T.kept hj6.old)
  have LC := Lib.hid hj6
  have HS := Lib.hid S.fine
  have eZ' : ((n : Int) == (n : Int)) = true := by simp
  have n1 : (0 : Int) ≤ (N : Int) := by omega
  have n2 : (N : Int) ≤ (Z : Int) := by omega
  have n3 : (N : Int).toNat = N := by omega
  have HRW : ∀ W, Things W A obs → Calls Tryz.prog 70 #[.agg #[.int .i64 (Z : Int), .slice A n c]] W fun e w' => (∃ B d, e = .returned (.slice B N d) ∧ Row w' B (flat obs)) ∧ Below W.heap.size W w' := fun W hT => by
    have := rwords_any (Z : Int) n c HS.out hT Hn.out HFL.out
    rw [HN.out] at this
    exact this
  have HRWh := Lib.hid HRW
  have hz0 : 0 < Z := by rw [← HZ.out]; exact S.lies.some_
  have hz1 : ¬ Z = 0 := by omega
  obtain ⟨C, b, hC, hb, hCb⟩ : ∃ (C : Int) (b : Bool), checkV obs = C ∧ (!badB obs) = b ∧ ((C == 0) == b) = true := by
    unfold checkV
    cases badB obs
    · exact ⟨0, true, rfl, rfl, rfl⟩
    · exact ⟨5, false, rfl, rfl, rfl⟩
  have HCK : ∀ W, St W g gw gb obs tail → Calls Tryz.prog 71 #[.pointer (some ⟨g, 0, none⟩)] W fun e w' => e = .returned (.int .i64 C) ∧ Below W.heap.size W w' := fun W hS => by
    have := check_any hS HW.out
    rw [hC] at this
    exact this
  have HRK : ∀ W, Things W A obs → Calls Tryz.prog 72 #[.agg #[.int .i64 (Z : Int), .slice A n c]] W fun e w' => e = .returned (.bool b) ∧ Below W.heap.size W w' := fun W hT => by
    have := rcheck_any (Z : Int) n c HS.out hT HW.out Hn.out hn6
    rw [hb] at this
    exact this
  have HCKh := Lib.hid HCK
  have HRKh := Lib.hid HRK
  have HT := Lib.hid T
  clear HRW S3 hS3 B3 z1 z2 z3 z4 hd6 hj6 T HCK HRK hC hb S HT6
  go_wp2_with fail
  go_region_held3 (fun W => W.cell? ⟨w.heap.size, 0, none⟩ = some (.int .i64 (Z : Int)) ∧ W.cell? ⟨w.heap.size, 1, none⟩ = some (.slice A n c) ∧ W.cell? ⟨w3.heap.size, 0, none⟩ = some (.int .i64 (n : Int)) ∧ W.cell? ⟨w3.heap.size + 1, 0, none⟩ = some (.bool true))
    (first | go_keep | exact c7 | exact c8 | exact c9 | exact c10 | exact c11)
    ((first
    | (go_at_call 8; refine (words_z LC.out.st Z HZ.out).mono ?_; rintro e w7 ⟨rfl, hL7, hb7⟩; have J7 := Lib.hid (LC.out.kept hb7); have c7 := J7.out.cells Hn.out; have R7 := Lib.hid (Row.of_lies hL7); clear hL7 hb7)
    | (go_at_call 18; refine (top_n J7.out.st N HN.out).mono ?_; rintro e w' ⟨rfl, rfl⟩)
    | (go_at_call 70; refine (HRWh.out _ (HT.out.kept J7.out.old)).mono ?_; rintro e w8 ⟨⟨B8, d8, rfl, hR8⟩, hb8⟩; have J8 := Lib.hid (J7.out.kept hb8); have c8 := J8.out.cells Hn.out; have R8 := Lib.hid hR8; have R78 := Lib.hid (R7.out.kept hb8); clear hR8 hb8)
    | (go_at_call 69; refine (ints_n _ _ _ _ N N (flat obs) (flat obs) _ R78.out.front R8.out HN.out HN.out (by omega) (by omega) true (decide_eq_true rfl)).mono ?_; rintro e w9 ⟨rfl, hb9⟩; have J9 := Lib.hid (J8.out.kept hb9); have c9 := J9.out.cells Hn.out; clear hb9)
    | (go_at_call 71; refine (HCKh.out _ J9.out.st).mono ?_; rintro e w10 ⟨rfl, hb10⟩; have J10 := Lib.hid (J9.out.kept hb10); have c10 := J10.out.cells Hn.out; clear hb10)
    | (go_at_call 72; refine (HRKh.out _ (HT.out.kept J10.out.old)).mono ?_; rintro e w11 ⟨rfl, hb11⟩; have J11 := Lib.hid (J10.out.kept hb11); have c11 := J11.out.cells Hn.out; clear hb11)
    | fail))
  go_wp2
  go_ret
  exact ⟨rfl, J11.out.old⟩

end Go.Proofs.YtklhdilbmpndkaaGreat

namespace Go.Proofs.YtklhdilbmpndkaaGreat
set_option maxRecDepth 20000
open Go.RowKit Go.Sort
set_option linter.unusedVariables false
set_option linter.unusedSimpArgs false

set_option maxRecDepth 1000000 in
set_option maxHeartbeats 4000000 in
theorem is14_any {w : World} {g gw gb q : Nat} {new : List Ob} {tl was : List Int} {A : Option Addr} (S : St w g gw gb new tl) (Th : Things w A new) (hW : Within new) (n c Z T old : Nat) (hn : new.length = n) (hZ : (flat new ++ tl).length = Z) (hT : (flat new).length = T) (hq : Lies w q 3 (was.map (Value.int .i64))) (hl : was.length = Z) (hold : old ≤ Z)
    (hv : ∀ p, T ≤ p → p < Z → (p < old → (flat new ++ tl).getD p 0 = 0) ∧ (old ≤ p → (flat new ++ tl).getD p 0 = was.getD p 0)) :
    Calls Tryz.prog 17 #[.pointer (some ⟨g, 0, none⟩), .slice (some ⟨q, 0, none⟩) Z Z, .int .i64 (old : Nat), .agg #[.int .i64 (Z : Int), .slice A n c]] w fun e w' => e = .returned (.bool true) ∧ Below w.heap.size w w' := by
  have HS := Lib.hid S
  have HTh := Lib.hid Th
  have HWi := Lib.hid hW
  have HN := Lib.hid hn
  have HZ := Lib.hid hZ
  have HT := Lib.hid hT
  have HQ := Lib.hid hq
  have HL := Lib.hid hl
  have HV := Lib.hid hv
  have hZ6 : Z ≤ 65536 := by rw [← hZ]; exact S.lies.most
  have hTZ : T ≤ Z := by rw [← hZ, ← hT, List.length_append]; omega
  have b1 := below_one w (.cells #[.int .i64 (Z : Int), .slice A n c] 34)
  have L1 : Lies (w.alloc (.cells #[.int .i64 (Z : Int), .slice A n c] 34)) w.heap.size 34 [.int .i64 (Z : Int), .slice A n c] := Lies.new w 34 [_, _]
  obtain ⟨w1, hw1⟩ : ∃ w1, w.alloc (.cells #[.int .i64 (Z : Int), .slice A n c] 34) = w1 := ⟨_, rfl⟩
  rw [hw1] at b1 L1
  have HW1 := Lib.hid hw1
  have HB1 := Lib.hid b1
  have y0 : w1.cell? ⟨w.heap.size, 0, none⟩ = some (.int .i64 (Z : Int)) := L1.cell 0
  have y1 : w1.cell? ⟨w.heap.size, 1, none⟩ = some (.slice A n c) := L1.cell 1
  clear S Th hW hn hZ hT hq hl hv b1 L1 hw1
  go_enter Tryz.func17, Tryz.ntmps17
  go_upto_region 1 with fail
  rw [HW1.out]
  go_wp2_with fail
  refine (is_any (HS.out.kept HB1.out) (HTh.out.kept HB1.out) HWi.out n c Z HN.out HZ.out).mono ?_
  rintro e w2 ⟨rfl, hb2⟩
  have HB2 := Lib.hid (on HB1.out HB1.out.size hb2)
  have HWD := Lib.hid (words_z (HS.out.kept HB2.out) Z HZ.out)
  obtain ⟨l1, hl1⟩ : ∃ l1, w2.heap.size = l1 := ⟨_, rfl⟩
  rw [hl1] at HWD
  have HL1 := Lib.hid hl1
  clear hb2 y0 y1 hl1
  go_wp2_with fail
  refine HWD.out.mono ?_
  rintro e w3 ⟨rfl, hL3, hb3⟩
  have HL3 := Lib.hid hL3
  have HB3 := Lib.hid (on HB2.out HB2.out.size (show Below w2.heap.size w2 w3 by rw [HL1.out]; exact hb3))
  have HTP := Lib.hid (top_n (HS.out.kept HB3.out) T HT.out)
  clear hL3 hb3
  go_wp2_with fail
  refine HTP.out.mono ?_
  rintro e wx ⟨rfl, hwx⟩
  rw [← hwx]; clear hwx wx
  go_wp2_with fail
  go_loopw [10] (fun i wr => ∃ p : Nat, T ≤ p ∧ p ≤ Z ∧ i = .int .i64 (p : Nat) ∧ Below w3.heap.size w3 wr) (fun i _ => Z - (intOf i).toNat)
  case atStart => exact ⟨T, Nat.le_refl _, hTZ, rfl, Below.refl _ _⟩
  case round =>
    obtain ⟨p, hTp, hpZ, rfl, hb⟩ := hrel
    have HB := Lib.hid hb
    by_cases hp : p < Z
    · obtain ⟨y, hy⟩ : ∃ y, (flat new ++ tl).getD p 0 = y := ⟨_, rfl⟩
      have h9 := HV.out p hTp hp
      rw [hy] at h9
      have c1 : wr.cell? ⟨l1, p, none⟩ = some (.int .i64 y) := by
        rw [(HL3.out.kept hb).cell, List.getElem?_map, List.getElem?_eq_getElem (by rw [HZ.out]; exact hp), ← hy]
        simp [List.getD, List.getElem?_eq_getElem (show p < (flat new ++ tl).length by rw [HZ.out]; exact hp)]
      obtain ⟨y2, hy2⟩ : ∃ y2, was.getD p 0 = y2 := ⟨_, rfl⟩
      rw [hy2] at h9
      have c2 : wr.cell? ⟨q, p, none⟩ = some (.int .i64 y2) := by
        rw [((HQ.out.kept HB3.out).kept hb).cell, List.getElem?_map, List.getElem?_eq_getElem (by rw [HL.out]; exact hp), ← hy2]
        simp [List.getD, List.getElem?_eq_getElem (show p < was.length by rw [HL.out]; exact hp)]
      have a1 : (⟨l1, 0, none⟩ : Addr).add p = ⟨l1, p, none⟩ := add_at _ _
      have a2 : (⟨q, 0, none⟩ : Addr).add p = ⟨q, p, none⟩ := add_at _ _
      have j0 : (0 : Int) ≤ (p : Int) := by omega
      have j1 : (p : Int) < (Z : Int) := by omega
      clear hb hy hy2
      by_cases ho : p < old
      · have d0 : decide ((p : Int) < (old : Int)) = true := by simp; omega
        have d1 : decide (old ≤ p) = false := by simp; omega
        have e0 := h9.1 ho
        subst e0
        clear h9
        go_upto_region 7 with fail
        go_quiet (fail)
        have HBn := Lib.hid (on HB.out HB.out.size (Mk.below_drewN wr nq))
        go_wp2_with fail
        exact ⟨⟨p + 1, by omega, by omega, by go_num, HBn.out⟩, by simp [intOf]; omega⟩
      · have d0 : decide ((p : Int) < (old : Int)) = false := by simp; omega
        have d1 : decide (old ≤ p) = true := by simp; omega
        have e0 := h9.2 (by omega)
        subst e0
        have dy : (y != y) = false := by simp
        clear h9
        go_upto_region 7 with fail
        go_quiet (fail)
        have HBn := Lib.hid (on HB.out HB.out.size (Mk.below_drewN wr nq))
        go_wp2_with fail
        exact ⟨⟨p + 1, by omega, by omega, by go_num, HBn.out⟩, by simp [intOf]; omega⟩
    · obtain rfl : p = Z := by omega
      clear hb
      go_wp2_with fail
      go_ret
      exact ⟨rfl, on HB3.out HB3.out.size HB.out⟩
end Go.Proofs.YtklhdilbmpndkaaGreat
