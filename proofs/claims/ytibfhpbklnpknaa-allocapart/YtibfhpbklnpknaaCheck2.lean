/- What Check answers. -/
import Derived.Test.YtibfhpbklnpknaaRound
import Derived.Laws.Entries
namespace Go.Proofs.Ytibfhpbklnpknaa
open Go.RowKit Go.Shelf Go.Sort
set_option linter.unusedVariables false
set_option linter.unusedSimpArgs false
attribute [local go_sem] Oper.semAt_some

theorem store_func (P : Program) (w : World) (a : Addr) (m : Mode) (f : Fn) (b c : Array Value) : (store a (.func f b c) m).run P w = stored P w a (.func f b c) m := run_store P w a _ m rfl
attribute [local go_sem] store_func

theorem Lies.grown {W W' : World} {k : Nat} {t : TypeId} {cs : List Value} {row : Option Nat} (h : Lies W k t cs) (hg : W.grownBy W' row) (hr : ∀ r, row = some r → ∃ o : Obj, W.heap[r]? = some o ∧ o.isCells = false) : Lies W' k t cs := by
  refine h.of_block (hg.block k h.lt fun e => ?_)
  obtain ⟨o, ho, hc⟩ := hr k e.symm
  unfold Lies at h
  rw [h] at ho
  injection ho with ho
  subst ho
  simp [Obj.isCells] at hc
theorem St.grown {W W' : World} {g gw gb : Nat} {obs : List Ob} {tail : List Int} {row : Option Nat} (h : St W g gw gb obs tail) (hg : W.grownBy W' row) (hr : ∀ r, row = some r → ∃ o : Obj, W.heap[r]? = some o ∧ o.isCells = false) : St W' g gw gb obs tail :=
  ⟨h.fine, h.lies.own.grown hg hr, h.lies.words.grown hg hr, h.lies.begins.grown hg hr, h.lies.same, h.lies.some_, h.lies.most, h.lies.fits⟩

/-- How many of an object's words lead to others. -/
def ptrs (n : Int) : Nat := (n % 65536 / 16).toNat
/-- Does one of an object's references lead astray? -/
def badOb (obs : List Ob) (o : Ob) : Bool := (o.2.take (ptrs o.1)).any (astrayO obs)
def badB (obs : List Ob) : Bool := obs.any (badOb obs)
/-- What Check answers. -/
def checkV (obs : List Ob) : Int := if badB obs = true then 5 else 0

def Within (obs : List Ob) : Prop := ∀ o ∈ obs, ∀ v ∈ o.2, InR v

theorem contains_m {w : World} {g gw gb : Nat} {obs : List Ob} {tail : List Int} (S : St w g gw gb obs tail) (A : Option Addr) (c n : Nat) (ys : List Int) (hr : Row w A ys) (hl : ys.length = n) (hn : n ≤ 65536) (hw : ∀ v ∈ ys, InR v) (b : Bool) (hb : ys.any (astrayO obs) = b) :
    Calls Try.prog 45 #[.slice A n c, .func (.func 44) #[.pointer (some ⟨g, 0, none⟩)] #[]] w fun e w' => e = .returned (.bool b) ∧ Below w.heap.size w w' := by
  subst hl hb
  exact contains_any S A c ys hr hn hw

/-- Between two rounds. -/
structure CkI (w : World) (g gw gb : Nat) (obs : List Ob) (tail : List Int) (pre : List (At obs)) (W : World) : Prop where
  st : St W g gw gb obs tail
  box : Lies W w.heap.size 26 [.pointer (some ⟨g, 0, none⟩)]
  res : Lies W (w.heap.size + 1) 27 [.int .i64 0]
  fn : Lies W (w.heap.size + 1 + 1) 67 [.func (.func 44) #[.pointer (some ⟨g, 0, none⟩)] #[]]
  old : Below w.heap.size w W
  good : (pre.map obOf).any (badOb obs) = false
/-- Behind a round that left. -/
structure CkX (w : World) (obs : List Ob) (c : Code) (pre : List (At obs)) (W : World) : Prop where
  ret : c = .ret
  res : Lies W (w.heap.size + 1) 27 [.int .i64 5]
  old : Below w.heap.size w W
  bad : badB obs = true

theorem below_grown {w W W' : World} {B : Nat} {row : Option Nat} (h : Below w.heap.size w W) (hB : w.heap.size ≤ B) (hg : W.grownBy W' row) (hr : ∀ r, row = some r → B ≤ r ∧ ∃ o : Obj, W.heap[r]? = some o ∧ o.isCells = false) : Below w.heap.size w W' :=
  h.grown hg h.size (fun k e => by have := (hr k e).1; omega)

theorem keepsFrom_below {W w2 : World} (B : Nat) (h : Below W.heap.size W w2) : KeepsFrom B W w2 := ⟨h.size, fun k o _ hk _ => (h.block k (Array.getElem?_eq_some_iff.1 hk).1).trans hk⟩
theorem CkI.next {w W w2 : World} {g gw gb : Nat} {obs : List Ob} {tail : List Int} {pre : List (At obs)} {x : At obs} (h : CkI w g gw gb obs tail pre W) (hb : Below W.heap.size W w2) (hx : badOb obs (obOf x) = false) : CkI w g gw gb obs tail (pre ++ [x]) w2 :=
  ⟨h.st.kept hb, h.box.below hb h.box.lt, h.res.below hb h.res.lt, h.fn.below hb h.fn.lt, on h.old h.old.size hb, by rw [List.map_append, List.any_append, h.good]; simp [hx]⟩

set_option maxRecDepth 100000 in
set_option maxHeartbeats 1000000 in
theorem check_in {w : World} {g gw gb : Nat} {obs : List Ob} {tail : List Int} (S : St w g gw gb obs tail) (hW : Within obs) :
    CallsIn Fence.wide 5 Try.prog 22 #[.pointer (some ⟨g, 0, none⟩)] w fun e w' => e = .returned (.int .i64 (checkV obs)) ∧ Below w.heap.size w w' := by
  have HW := Lib.hid hW
  clear hW
  refine callsIn_of_wp_marks Try.func22 rfl trivial ?_ rfl
  simp only [Try.ntmps22, List.size_toArray, List.length_cons, List.length_nil, Nat.reduceAdd, Nat.reduceSub, Array.replicate_succ, Array.replicate_zero, List.push_toArray, List.append_toArray, List.nil_append, List.cons_append]
  gi_wp2_with fail
  refine ⟨trivial, (callsIn_wide.2 walk_any).mono ?_⟩
  rintro e w2 ⟨rfl, rfl⟩
  gi_wp2_with fail
  obtain ⟨W0, hW0⟩ : ∃ W0, (((w.alloc (.cells #[.pointer (some ⟨g, 0, none⟩)] 26)).alloc (.cells #[.int .i64 0] 27)).alloc (.cells #[.func (.func 44) #[.pointer (some ⟨g, 0, none⟩)] #[]] 67)).alloc (.cells #[.pointer (some ⟨g, 0, none⟩)] 26) = W0 := ⟨_, rfl⟩
  have hsz : W0.heap.size = w.heap.size + 1 + 1 + 1 + 1 := by rw [← hW0]; simp
  have hI0 : CkI w g gw gb obs tail [] W0 := by
    rw [← hW0]
    refine ⟨(((S.alloc _).alloc _).alloc _).alloc _, (((Lies.new w 26 [.pointer (some ⟨g, 0, none⟩)]).alloc _).alloc _).alloc _, ?_, ?_, ((((Below.refl _ w).alloc (Nat.le_refl _) _).alloc (by simp) _).alloc (by simp; omega) _).alloc (by simp; omega) _, rfl⟩
    · have := ((Lies.new (w.alloc (.cells #[.pointer (some ⟨g, 0, none⟩)] 26)) 27 [.int .i64 0]).alloc (.cells #[.func (.func 44) #[.pointer (some ⟨g, 0, none⟩)] #[]] 67)).alloc (.cells #[.pointer (some ⟨g, 0, none⟩)] 26)
      simpa using this
    · have := (Lies.new ((w.alloc (.cells #[.pointer (some ⟨g, 0, none⟩)] 26)).alloc (.cells #[.int .i64 0] 27)) 67 [.func (.func 44) #[.pointer (some ⟨g, 0, none⟩)] #[]]).alloc (.cells #[.pointer (some ⟨g, 0, none⟩)] 26)
      simpa using this
  have hwb : Lies W0 (w.heap.size + 1 + 1 + 1) 26 [.pointer (some ⟨g, 0, none⟩)] := by
    rw [← hW0]
    have := Lies.new (((w.alloc (.cells #[.pointer (some ⟨g, 0, none⟩)] 26)).alloc (.cells #[.int .i64 0] 27)).alloc (.cells #[.func (.func 44) #[.pointer (some ⟨g, 0, none⟩)] #[]] 67)) 26 [.pointer (some ⟨g, 0, none⟩)]
    simpa using this
  rw [hW0]
  have HS := Lib.hid hsz
  clear hW0 hsz
  refine wpIn_rangeFunc_ownH rfl (by omega) (gf := 50) (lb := #[.pointer (some ⟨w.heap.size + 1 + 1 + 1, 0, none⟩)]) rfl trivial (enters_of Try.func50 (by kernel_rfl) rfl)
    (walk_stops 4 (by omega) g gw gb (w.heap.size + 1 + 1 + 1) obs tail W0 hI0.st hwb) KeepsCells.trans KeepsCells.put (Below.refl _ _) (fun _ => rfl)
    (CkI w g gw gb obs tail) (CkX w obs)
    (fun s A B row hs hg hr => ⟨hs.st.grown hg (fun r e => (hr r e).2), hs.box.grown hg (fun r e => (hr r e).2), hs.res.grown hg (fun r e => (hr r e).2), hs.fn.grown hg (fun r e => (hr r e).2), below_grown hs.old (by rw [HS.out]; omega) hg hr, hs.good⟩)
    (fun c s A B row hs hg hr => ⟨hs.ret, hs.res.grown hg (fun r e => (hr r e).2), below_grown hs.old (by rw [HS.out]; omega) hg hr, hs.bad⟩)
    hI0
    (fun x a' W => ∃ Bx, Lies W Bx 40 [.int .i64 (x.1.2.1 % 16), .int .i64 (x.1.2.1 / 65536), .int .i64 (x.1.2.1 % 65536 / 16)] ∧ Bx ≠ w.heap.size + 1 ∧ a' = { tmps := #[.pointer (some ⟨g, 0, none⟩), .pointer (some ⟨w.heap.size, 0, none⟩), .pointer (some ⟨w.heap.size + 1, 0, none⟩), .pointer (some ⟨w.heap.size + 1 + 1, 0, none⟩), .int .i64 (x.1.1 : Nat), .pointer (some ⟨Bx, 0, none⟩), .pointer (some ⟨g, 0, none⟩), .func (.func 44) #[.pointer (some ⟨g, 0, none⟩)] #[], .pointer (some ⟨g, 0, none⟩), .func (.func 50) #[] #[.pointer (some ⟨w.heap.size + 1 + 1 + 1, 0, none⟩)], .int .i64 (x.1.1 : Nat), .agg #[.int .i64 (x.1.2.1 % 16), .int .i64 (x.1.2.1 / 65536), .int .i64 (x.1.2.1 % 65536 / 16)], undef, undef, undef, undef, undef, undef, undef, undef, undef, undef, undef, undef, undef, undef], defers := [] })
    (fun x a' s A B row hs hg hr => by obtain ⟨Bx, h1, h2, h3⟩ := hs; exact ⟨Bx, h1.grown hg (fun r e => (hr r e).2), h2, h3⟩) ?assign ?body ?done ?stop
  case assign =>
    rintro l pre x W K hi hK
    dsimp only [encAt]
    gi_wp2
    have hlt := hi.res.lt
    refine hK _ _ ((KeepsOthers.alloc _ _).from _) (KeepsCells.of_below ((Below.refl _ W).alloc (Nat.le_refl _) _)) ⟨hi.st.alloc _, hi.box.alloc _, hi.res.alloc _, hi.fn.alloc _, hi.old.alloc hi.old.size _, hi.good⟩ ⟨W.heap.size, Lies.new W 40 [_, _, _], by omega, rfl⟩
  case body =>
    rintro l pre x a' W hl ⟨r, hr⟩ hi ⟨Bx, hBx, hne, rfl⟩ hlt
    obtain ⟨pre0, post0, ho, hN⟩ := x.2
    have hxo : obOf x = x.1.2 := rfl
    obtain ⟨N, hN0⟩ : ∃ N, x.1.1 = N := ⟨_, rfl⟩
    obtain ⟨o, ho0⟩ : ∃ o, x.1.2 = o := ⟨_, rfl⟩
    rw [hN0] at hN ⊢
    rw [ho0] at ho hBx hxo ⊢
    have HX := Lib.hid hxo
    clear hxo hN0 ho0
    have x0 : W.cell? ⟨w.heap.size, 0, none⟩ = some (.pointer (some ⟨g, 0, none⟩)) := hi.box.cell 0
    have x1 : W.cell? ⟨w.heap.size + 1 + 1, 0, none⟩ = some (.func (.func 44) #[.pointer (some ⟨g, 0, none⟩)] #[]) := hi.fn.cell 0
    have x2 := hi.st.lies.c0
    have x3 : W.cell? ⟨Bx, 2, none⟩ = some (.int .i64 (o.1 % 65536 / 16)) := hBx.cell 2
    obtain ⟨Z, hZ⟩ : ∃ Z, (flat obs ++ tail).length = Z := ⟨_, rfl⟩
    have hfine : Fine (pre0 ++ o :: post0) := by rw [← ho]; exact hi.st.fine
    have hhd := hfine.right.head
    obtain ⟨_, _, _, _, hp0, hp1, _⟩ := (good_iff _ _ _).1 (head_good hhd.1)
    obtain ⟨P, hP⟩ := Int.eq_ofNat_of_zero_le hp0
    have hP' : ptrs o.1 = P := by unfold ptrs; rw [hP]; simp
    have hPl : P ≤ o.2.length := by have := hhd.2; unfold lenOf at this; omega
    have hfit : N + 1 + o.2.length ≤ (flat obs).length := by rw [ho, hN]; simp [flat_append, flat_cons]; omega
    have hZ0 : N + 1 + P ≤ Z := by rw [← hZ]; simp; omega
    have hZ1 : Z ≤ 65536 := by rw [← hZ]; exact hi.st.lies.most
    rw [hZ] at x2
    rw [hP] at x3
    have hys : ((flat obs ++ tail).drop (N + 1)).take P = o.2.take P := by
      rw [ho, flat_append, flat_cons, hN]
      simp [List.drop_append, List.take_append, hPl]
    have hRow : Row W (if Z = N + 1 then some ⟨gw, 0, none⟩ else some ⟨gw, N + 1, none⟩) (o.2.take P) := by
      intro h0
      have hP0 : 0 < P := by simp at h0; omega
      rw [if_neg (by omega)]
      refine ⟨_, rfl, hi.st.lies.words.lt, fun i v hv => ?_⟩
      have e : (⟨gw, N + 1, none⟩ : Addr).add i = ⟨gw, N + 1 + i, none⟩ := by unfold Addr.add; split <;> simp_all
      rw [e, hi.st.lies.words.cell, ← hv, ← hys]
      simp only [List.map_take, List.map_drop, List.getElem?_take, List.getElem?_drop]
      have : i < P := by
        have := (List.getElem?_eq_some_iff.1 hv).1
        simp at this; omega
      rw [if_pos this]
    have hin : ∀ v ∈ o.2.take P, InR v := fun v hv => HW.out o (by rw [ho]; simp) v (List.mem_of_mem_take hv)
    have hlen : (o.2.take P).length = P := by simp; omega
    have hob : (o.2.take P).any (astrayO obs) = badOb obs o := by unfold badOb; rw [hP']
    have HRow := Lib.hid hRow
    have HIn := Lib.hid hin
    have HLen := Lib.hid hlen
    have HOb := Lib.hid hob
    have HO := Lib.hid ho
    clear hRow hin hlen hob hys ho hN hP hP' hZ hp0 hp1 hhd hfine hfit hPl
    have b1 : IntKind.i64.wrap ((N : Int) + 1) = (N : Int) + 1 := IntWalk.i64_in _ (by omega)
    have b2 : IntKind.i64.wrap ((N : Int) + 1 + (P : Int)) = (N : Int) + 1 + (P : Int) := IntWalk.i64_in _ (by omega)
    have b3 : (0 : Int) ≤ (N : Int) + 1 := by omega
    have b4 : (N : Int) + 1 ≤ (N : Int) + 1 + (P : Int) := by omega
    have b5 : (N : Int) + 1 + (P : Int) ≤ (Z : Int) := by omega
    have b6 : ((N : Int) + 1).toNat = N + 1 := by omega
    have b7 : ((N : Int) + 1 + (P : Int)).toNat = N + 1 + P := by omega
    have hmx : Try.prog.follows .mixedOrders = true := by kernel_rfl
    have y1 := hi.res.cell 0
    have y2 := hi.res.frozen 0
    by_cases hcap : Z = N + 1
    · rw [if_pos hcap] at HRow
      subst hcap
      obtain rfl : P = 0 := by omega
      have X0 := fun d os => cell_regrown x0 d os
      have X1 := fun d os => cell_regrown x1 d os
      have X2 := fun d os => cell_regrown x2 d os
      have X3 := fun d os => cell_regrown x3 d os
      have HC : ∀ d os, Hid (CallsIn Fence.wide 2 Try.prog 45 #[.slice (some ⟨gw, 0, none⟩) 0 0, .func (.func 44) #[.pointer (some ⟨g, 0, none⟩)] #[]] (grow (redrawn W d) os) fun e w' => e = .returned (.bool (badOb obs o)) ∧ Below (grow (redrawn W d) os).heap.size (grow (redrawn W d) os) w') := fun d os =>
        Lib.hid ((callsIn_wide (n := 2)).2 (contains_m (hi.st.kept (below_regrown W d os)) (some ⟨gw, 0, none⟩) 0 0 (o.2.take 0) (HRow.out.kept (below_regrown W d os)) HLen.out (by omega) HIn.out (badOb obs o) HOb.out))
      clear x0 x1 x2 x3
      gi_wp2_with fail
      refine quiet_round l (by kernel_rfl) (by kernel_rfl) rfl ?_
      quiet_step_in (fail)
      quiet_step_in (fail)
      quiet_step_in (fail)
      quiet_step_in (fail)
      quiet_step_in (fail)
      quiet_step_in (fail)
      quiet_step_in (fail)
      quiet_step_in (fail)
      quiet_step_in (fail)
      quiet_step_in (fail)
      quiet_step_in (fail)
      quiet_step_in (fail)
      quiet_step_in (fail)
      refine wpQuietIn_step (fun _ _ _ _ => trivial) (fun K hK => ?_)
      go_simp
      apply Exists.intro
      refine ⟨fun p => ?_, hK _ ?_⟩
      · exact CallsIn.regrown_of (HC p.d p.os).out
      clear hK K
      refine wpQuietIn_nil ?_
      rintro w2 ⟨p, rfl⟩
      have hb2 := below_regrown W p.d p.os
      generalize grow (redrawn W p.d) p.os = w2 at *
      have R2 := hi.res.below hb2 hi.res.lt
      have z1 : w2.cell? ⟨w.heap.size + 1, 0, none⟩ = some (.int .i64 0) := R2.cell 0
      have z2 : w2.frozen? ⟨w.heap.size + 1, 0, none⟩ = false := R2.frozen 0
      clear X0 X1 X2 X3 HC y1 y2
      cases hbad : badOb obs o with
      | false =>
        gi_wp2
        exact ⟨keepsFrom_below _ hb2, KeepsCells.of_below hb2, hi.next hb2 (by rw [HX.out]; exact hbad)⟩
      | true =>
        gi_wp2
        exact ⟨(keepsFrom_below _ hb2).trans ((KeepsOthers.setCell _ _ _).from _), rfl, R2.set 0 _, (on hi.old hi.old.size hb2).setCell (by simp) _, List.any_eq_true.2 ⟨o, by rw [HO.out]; simp, hbad⟩⟩
    · rw [if_neg hcap] at HRow
      have X0 := fun d os => cell_regrown x0 d os
      have X1 := fun d os => cell_regrown x1 d os
      have X2 := fun d os => cell_regrown x2 d os
      have X3 := fun d os => cell_regrown x3 d os
      have HC : ∀ d os, Hid (CallsIn Fence.wide 2 Try.prog 45 #[.slice (some ⟨gw, N + 1, none⟩) P (Z - (N + 1)), .func (.func 44) #[.pointer (some ⟨g, 0, none⟩)] #[]] (grow (redrawn W d) os) fun e w' => e = .returned (.bool (badOb obs o)) ∧ Below (grow (redrawn W d) os).heap.size (grow (redrawn W d) os) w') := fun d os =>
        Lib.hid ((callsIn_wide (n := 2)).2 (contains_m (hi.st.kept (below_regrown W d os)) (some ⟨gw, N + 1, none⟩) (Z - (N + 1)) P (o.2.take P) (HRow.out.kept (below_regrown W d os)) HLen.out (by omega) HIn.out (badOb obs o) HOb.out))
      clear x0 x1 x2 x3
      gi_wp2_with fail
      refine quiet_round l (by kernel_rfl) (by kernel_rfl) rfl ?_
      quiet_step_in (fail)
      quiet_step_in (fail)
      quiet_step_in (fail)
      quiet_step_in (fail)
      quiet_step_in (fail)
      quiet_step_in (fail)
      quiet_step_in (fail)
      quiet_step_in (fail)
      quiet_step_in (fail)
      quiet_step_in (fail)
      quiet_step_in (fail)
      quiet_step_in (fail)
      quiet_step_in (fail)
      refine wpQuietIn_step (fun _ _ _ _ => trivial) (fun K hK => ?_)
      go_simp
      apply Exists.intro
      refine ⟨fun p => ?_, hK _ ?_⟩
      · exact CallsIn.regrown_of (HC p.d p.os).out
      clear hK K
      refine wpQuietIn_nil ?_
      rintro w2 ⟨p, rfl⟩
      have hb2 := below_regrown W p.d p.os
      generalize grow (redrawn W p.d) p.os = w2 at *
      have R2 := hi.res.below hb2 hi.res.lt
      have z1 : w2.cell? ⟨w.heap.size + 1, 0, none⟩ = some (.int .i64 0) := R2.cell 0
      have z2 : w2.frozen? ⟨w.heap.size + 1, 0, none⟩ = false := R2.frozen 0
      clear X0 X1 X2 X3 HC y1 y2
      cases hbad : badOb obs o with
      | false =>
        gi_wp2
        exact ⟨keepsFrom_below _ hb2, KeepsCells.of_below hb2, hi.next hb2 (by rw [HX.out]; exact hbad)⟩
      | true =>
        gi_wp2
        exact ⟨(keepsFrom_below _ hb2).trans ((KeepsOthers.setCell _ _ _).from _), rfl, R2.set 0 _, (on hi.old hi.old.size hb2).setCell (by simp) _, List.any_eq_true.2 ⟨o, by rw [HO.out]; simp, hbad⟩⟩
  case done =>
    rintro D ys W hD hys hi hK
    have y1 : W.cell? ⟨w.heap.size + 1, 0, none⟩ = some (.int .i64 0) := hi.res.cell 0
    have y2 : W.frozen? ⟨w.heap.size + 1, 0, none⟩ = false := hi.res.frozen 0
    have hbad : badB obs = false := by
      have h := hi.good
      rw [hys] at h
      exact h
    have hv : checkV obs = 0 := by unfold checkV; rw [hbad]; rfl
    have HV := Lib.hid hv
    clear hbad hys hv
    gi_wp2
    have hK' := (KeepsOthers.setCell W ⟨w.heap.size + 1, 0, none⟩ (.int .i64 0)).same D _ hK rfl
    refine ⟨by simp, .inl ⟨_, _, rfl, run_takeDeferred hK', ?_⟩⟩
    have hc5 := cell_kept (World.cell?_setCell_same' W ⟨w.heap.size + 1, 0, none⟩ (.int .i64 0) (by rw [y1]; rfl)) (grownBy_putObj' _ D (.deferred none)) (fun r e => by cases e; exact ⟨_, hK', rfl⟩)
    refine ⟨.int .i64 0, ?_, by rw [HV.out], (hi.old.setCell (p := ⟨w.heap.size + 1, 0, none⟩) (by simp) _).trans (belowK_b (w := w) (Nat.le_refl _) _ D _ _ (by rw [HS.out] at hD; omega) hK' rfl rfl)⟩
    simp [results, Try.f22, go_sem, hc5]
  case stop =>
    rintro D c pre W hD _ hx hK
    have hr := hx.ret
    subst hr
    have hv : checkV obs = 5 := by unfold checkV; rw [hx.bad]; rfl
    have HV := Lib.hid hv
    clear hv
    have y1 : W.cell? ⟨w.heap.size + 1, 0, none⟩ = some (.int .i64 5) := hx.res.cell 0
    gi_wp2
    refine ⟨by simp, .inl ⟨_, _, rfl, run_takeDeferred hK, ?_⟩⟩
    have hc5 := cell_kept y1 (grownBy_putObj' _ D (.deferred none)) (fun r e => by cases e; exact ⟨_, hK, rfl⟩)
    refine ⟨.int .i64 5, ?_, by rw [HV.out], hx.old.trans (belowK_b (w := w) (Nat.le_refl _) W D _ _ (by rw [HS.out] at hD; omega) hK rfl rfl)⟩
    simp [results, Try.f22, go_sem, hc5]

theorem check_any {w : World} {g gw gb : Nat} {obs : List Ob} {tail : List Int} (S : St w g gw gb obs tail) (hW : Within obs) :
    Calls Try.prog 22 #[.pointer (some ⟨g, 0, none⟩)] w fun e w' => e = .returned (.int .i64 (checkV obs)) ∧ Below w.heap.size w w' :=
  callsIn_wide.1 (check_in S hW)
end Go.Proofs.Ytibfhpbklnpknaa
