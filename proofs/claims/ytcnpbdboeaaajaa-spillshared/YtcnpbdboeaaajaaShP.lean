/- SpillShared: the closure. -/
import Derived.Test.YtcnpbdboeaaajaaShM
import Derived.Deep.CutBlock
namespace Go.Proofs.Ytcnpbdboeaaajaa
open Go.RowKit Go.Maps
set_option linter.unusedVariables false
set_option linter.unusedSimpArgs false

theorem clo_none {w : World} {x : Bx} {kk : Nat} (hk4 : kk < 4) (a0 : w.cell? ⟨x.bc, kk, none⟩ = some (.pointer none)) :
    Calls Try.prog 15 #[.int .i64 kk, .pointer (some ⟨x.bc, 0, none⟩), .pointer (some ⟨x.bp, 0, none⟩), .pointer (some ⟨x.bw, 0, none⟩), .pointer (some ⟨x.bn, 0, none⟩)] w fun e w' => e = .returned (.bool true) ∧ w = w' := by
  have q28 : ∀ W : World, (binOp .eql 28 (.pointer none) (.pointer none)).run Try.prog W = .ok (.bool true) W := fun _ => by kernel_rfl
  have hk6 : (kk : Int) < 4 := by omega
  have hk0 : (0 : Int) ≤ (kk : Int) := by omega
  go_enter Try.func15, Try.ntmps15
  go_wp2
  go_ret
  exact ⟨rfl, rfl⟩

/-- What is asked of a call that is done, and what is told then. -/
def Ends (w0 w1 : World) (x : Bx) (kk gc : Nat) (P : World → Prop) : Prop :=
  ∃ (cl' : Cl) (xx : Int) (cs1 : Cs) (pile1 : List Int) (ps : List Int) (f : Int → Int) (k mm : Nat) (nx : Int),
    Core w0 w1 x cs1 pile1 nx ps f k mm ∧ cs1[kk]? = some (some (gc, cl', xx)) ∧ cl'.nx = 0 ∧ (∀ y, -1000 ≤ f y ∧ f y ≤ 1000) ∧ mm ≤ 100000 ∧
    ((cl'.err = 0 ∧ cl'.word = 0 ∧ ps.getD kk 0 = xx ∧ 0 < xx ∧ xx ≤ 1000 ∧ ∀ W, Core w0 W x (cs1.set kk none) pile1 nx ps (fun z => if z = xx then f xx + 1 else f z) k (mm + 1) → P W) ∨
     (cl'.err = 6 ∧ cl'.word = 0 ∧ ps.getD kk 0 = xx ∧ 0 < xx ∧ xx ≤ 1000 ∧ ∀ W, Core w0 W x (cs1.set kk none) pile1 nx ps f k mm → P W) ∨
     (cl'.err = 0 ∧ ps.getD kk 0 = 0 ∧ 0 < cl'.word ∧ cl'.word < nx ∧ nx ≤ 1000 ∧ ∀ W, Core w0 W x (cs1.set kk none) pile1 nx ps (fun z => if z = cl'.word then f cl'.word - 1 else f z) k (mm + 1) → P W) ∨
     (cl'.err = 7 ∧ cl'.word = 0 ∧ ps.getD kk 0 = 0 ∧ ∀ W, Core w0 W x (cs1.set kk none) pile1 nx ps f k mm → P W))

set_option maxHeartbeats 2000000 in
theorem clo_some {w0 w : World} {x : Bx} {kk gc : Nat} {P : World → Prop} (hk4 : kk < 4) (a0 : w.cell? ⟨x.bc, kk, none⟩ = some (.pointer (some ⟨gc, 0, none⟩)))
    (hS : Calls Try.prog 16 #[.pointer (some ⟨gc, 0, none⟩)] w fun e w1 => (e = .returned (.bool false) ∧ P w1) ∨ (e = .returned (.bool true) ∧ Ends w0 w1 x kk gc P)) :
    Calls Try.prog 15 #[.int .i64 kk, .pointer (some ⟨x.bc, 0, none⟩), .pointer (some ⟨x.bp, 0, none⟩), .pointer (some ⟨x.bw, 0, none⟩), .pointer (some ⟨x.bn, 0, none⟩)] w fun e w' => e = .returned (.bool true) ∧ P w' := by
  have n1 := nil28
  have hk6 : (kk : Int) < 4 := by omega
  have hk0 : (0 : Int) ≤ (kk : Int) := by omega
  have HS := Lib.hid hS
  clear hS
  go_enter Try.func15, Try.ntmps15
  go_wp2_with fail
  refine HS.out.mono ?_
  rintro e w1 (⟨rfl, p⟩ | ⟨rfl, cl, xx, cs1, pile1, ps, f, k, mm, nx, C1, hc1, hz, hf, hmm, T⟩)
  · have HP := Lib.hid p
    clear p
    go_wp2
    go_ret
    exact ⟨rfl, HP.out⟩
  · have a1 := C1.cell hc1
    simp only [cellOf, Option.map] at a1
    have HR : Hid (Calls Try.prog 17 #[.pointer (some ⟨gc, 0, none⟩)] w1 fun e w' => e = .returned (.tuple #[.int .i64 cl.word, .int .i64 cl.err]) ∧ Below w1.heap.size w1 w') := Lib.hid (by
      obtain ⟨k', _, C'⟩ := C1.conc
      exact result_yes (C'.lies hc1) hz)
    have HC1 := Lib.hid C1
    have Hc1 := Lib.hid hc1
    have HZ := Lib.hid hz
    have HF := Lib.hid hf
    have HT := Lib.hid T
    clear a0 HS C1 hc1 hz hf T
    go_wp2_with fail
    refine HR.out.mono ?_
    rintro e w2 ⟨rfl, B2⟩
    have HC2 := Lib.hid (HC1.out.kept B2)
    have a2 := HC2.out.cell Hc1.out
    simp only [cellOf, Option.map] at a2
    have f2 := HC2.out.arr.frozen kk
    have HC3 := Lib.hid (HC2.out.drop Hc1.out HZ.out)
    clear B2 HR a1 HC1
    go_upto_region 5 with fail
    generalize w2.setCell ⟨x.bc, kk, none⟩ (.pointer none) = w3 at *
    clear a2 f2 HC2
    have p3 := HC3.out.pcell hk4
    have m3 : w3.cell? ⟨x.bw, 0, none⟩ = some (.map (some x.bm)) := HC3.out.wh.cell 0
    have x3 : w3.cell? ⟨x.bn, 0, none⟩ = some (.int .i64 nx) := HC3.out.nx_.cell 0
    rcases HT.out with ⟨e1, e2, e3, y0, y1, K⟩ | ⟨e1, e2, e3, y0, y1, K⟩ | ⟨e1, e3, y0, y1, y2, K⟩ | ⟨e1, e2, e3, K⟩
    · have HK := Lib.hid K
      rw [e1, e2]
      rw [e3] at p3
      clear K e1 e2 e3 HT
      have HC3d := Lib.hid (HC3.out.kept (drew_below w3))
      have l3 := HC3d.out.look xx (by omega)
      have hfy := HF.out xx
      obtain ⟨w4, u4, C4, O4⟩ := HC3d.out.store xx (f xx + 1) (by omega) (by omega) hmm
      have HC4 := Lib.hid C4
      clear C4 O4
      have dp : decide (0 < xx) = true := decide_eq_true y0
      generalize f xx = fx at *
      go_wp2_with fail
      go_still_tail 4, (by kernel_rfl)
      change wpList _ _ _ _ _ w3.drew
      go_wp2
      go_ret
      exact ⟨rfl, HK.out _ HC4.out⟩
    · have HK := Lib.hid K
      rw [e1, e2]
      rw [e3] at p3
      clear K e1 e2 e3 HT
      have dp : decide (0 < xx) = true := decide_eq_true y0
      go_wp2
      go_ret
      exact ⟨rfl, HK.out _ HC3.out⟩
    · have HK := Lib.hid K
      rw [e1]
      rw [e3] at p3
      clear K e1 e3 HT
      have l3 := HC3.out.look cl.word (by omega)
      have hfy := HF.out cl.word
      obtain ⟨w4, u4, C4, O4⟩ := HC3.out.store cl.word (f cl.word - 1) (by omega) (by omega) hmm
      have HC4 := Lib.hid C4
      have x4 : w4.cell? ⟨x.bn, 0, none⟩ = some (.int .i64 nx) := C4.nx_.cell 0
      clear C4 O4
      have dp : decide (0 < cl.word) = true := decide_eq_true y0
      have dq : decide (cl.word < nx) = true := decide_eq_true y1
      generalize f cl.word = fx at *
      generalize cl.word = y at *
      go_wp2
      go_ret
      exact ⟨rfl, HK.out _ HC4.out⟩
    · have HK := Lib.hid K
      rw [e1, e2]
      rw [e3] at p3
      clear K e1 e2 e3 HT
      go_wp2
      go_ret
      exact ⟨rfl, HK.out _ HC3.out⟩

section
variable {w0 w : World} {x : Bx} {cs : Cs} {nx : Int} {k mm kk : Nat}
theorem pick_any (h : Sta w0 w x cs nx k mm) (hk4 : kk < 4) (hk : k ≤ 30000) (hm : mm ≤ 100000) (hnx : nx ≤ 1000) :
    Calls Try.prog 15 #[.int .i64 kk, .pointer (some ⟨x.bc, 0, none⟩), .pointer (some ⟨x.bp, 0, none⟩), .pointer (some ⟨x.bw, 0, none⟩), .pointer (some ⟨x.bn, 0, none⟩)] w fun e w' => e = .returned (.bool true) ∧ ∃ cs', Sta w0 w' x cs' nx (k + 1) (mm + 1) ∧ Turn cs cs' kk := by
  obtain ⟨pile, ps, C, M⟩ := h
  obtain ⟨o, ho⟩ : ∃ o, cs[kk]? = some o := ⟨cs[kk]'(by rw [C.clen]; exact hk4), List.getElem?_eq_getElem _⟩
  cases o with
  | none =>
    refine (clo_none hk4 (C.cell ho)).mono ?_
    rintro e w' ⟨rfl, rfl⟩
    exact ⟨rfl, cs, ⟨pile, ps, C.more (by omega) (by omega), M⟩, Or.inl ⟨rfl, fun ⟨g1, c1, x1, h1, _⟩ => by rw [ho] at h1; cases h1⟩⟩
  | some p =>
    obtain ⟨gc, cl, xx⟩ := p
    obtain ⟨hn, hpu⟩ := M.calls _ _ _ _ ho
    refine clo_some (w0 := w0) hk4 (C.cell ho) ?_
    obtain ⟨k1, hk1, CC⟩ := C.conc
    refine (step_conc CC ho hn (by omega)).mono ?_
    rintro e w1 ⟨cl', pile', rfl, C', Mv, hmv, K⟩
    have C1 : Core w0 w1 x (cs.set kk (some (gc, cl', xx))) pile' nx ps (cnt pile) (k + 1) mm := C.step ho CC K ⟨_, by omega, C'⟩
    have hg := List.getElem?_set_self (a := some (gc, cl', xx)) (by rw [C.clen]; exact hk4)
    have T := Mv.turn ho
    have hbd : ∀ y, -1000 ≤ cnt pile y ∧ cnt pile y ≤ 1000 := fun y => by
      have := cnt_bd pile y
      have : pile.length ≤ 1000 := by
        obtain ⟨zs, A, c, ts, H, _⟩ := CC
        rcases H.sh.st with ⟨_, p, _⟩ | ⟨_, h, gc, c, x, _, ho, _⟩
        · have := p.fits; omega
        · obtain ⟨_, _, _, ho⟩ := ho
          rcases ho with ⟨_, p, _⟩ | ⟨_, _, p, _⟩ | ⟨_, _, p, _⟩ | ⟨_, _, p, _⟩ | ⟨_, _, p, _⟩ | ⟨_, _, p, _⟩ | ⟨_, _, q, hq, p⟩
          · have := p.fits; omega
          · have := p.fits; omega
          · have := p.fits; omega
          · have := p.fits; omega
          · have := p.fits; omega
          · have := p.fits; simp at this; omega
          · have := p.fits; rw [hq]; simp; omega
      omega
    have hturn : tot (cs.set kk (some (gc, cl', xx))) < tot cs → Turn cs (cs.set kk none) kk := fun h => Or.inr (by
      have e1 := tot_set (o' := none) ho
      have e2 := tot_set (o' := some (gc, cl', xx)) ho
      simp only [rk] at e1 e2
      omega)
    rcases Mv with ⟨hl, rfl, rfl⟩ | ⟨_, h0, _, rfl, _⟩ | ⟨_, h0, O, hr, _⟩
    · left
      exact ⟨by rw [decide_eq_false hn], _, ⟨pile', ps, C1.more (Nat.le_refl _) (by omega), M.on ho hmv hn⟩, T⟩
    · left
      exact ⟨by rw [decide_eq_false h0], _, ⟨pile', ps, C1.more (Nat.le_refl _) (by omega), M.on ho hmv h0⟩, T⟩
    · right
      have ht2 := hturn (by
        have e2 := tot_set (o' := some (gc, cl', xx)) ho
        simp only [rk] at e2
        omega)
      refine ⟨by rw [decide_eq_true h0], cl', xx, _, pile', ps, cnt pile, k + 1, mm, nx, C1, hg, h0, hbd, hm, ?_⟩
      rcases O with ⟨m, e1, e2, rfl, _⟩ | ⟨m, e1, e2, rfl, _⟩ | ⟨m, e1, e2⟩ | ⟨m, e1, e2, rfl, rfl⟩
      · rcases hpu with ⟨_, q1, q2, q3⟩ | ⟨q, _⟩
        · refine Or.inl ⟨e1, e2, q1, q2, by omega, fun W CW => ?_⟩
          rw [List.set_set, cnt_app] at CW
          refine ⟨_, ⟨_, ps, CW, M.drop fun y hy => ?_⟩, ht2⟩
          rcases List.mem_append.1 hy with hy | hy
          · exact M.rng y hy
          · have : y = xx := by simpa using hy
            rw [this]; exact ⟨q2, q3⟩
        · rw [m] at q; cases q
      · rcases hpu with ⟨_, q1, q2, q3⟩ | ⟨q, _⟩
        · refine Or.inr (Or.inl ⟨e1, e2, q1, q2, by omega, fun W CW => ?_⟩)
          rw [List.set_set] at CW
          exact ⟨_, ⟨_, ps, CW.more (Nat.le_refl _) (by omega), M.drop M.rng⟩, ht2⟩
        · rw [m] at q; cases q
      · rcases hpu with ⟨q, _⟩ | ⟨_, q1⟩
        · rw [m] at q; cases q
        · have hw := M.rng cl'.word (by rw [e2]; simp)
          refine Or.inr (Or.inr (Or.inl ⟨e1, q1, hw.1, hw.2, hnx, fun W CW => ?_⟩))
          rw [List.set_set, e2, cnt_last] at CW
          exact ⟨_, ⟨_, ps, CW, M.drop fun y hy => M.rng y (by rw [e2]; simp [hy])⟩, ht2⟩
      · rcases hpu with ⟨q, _⟩ | ⟨_, q1⟩
        · rw [m] at q; cases q
        · refine Or.inr (Or.inr (Or.inr ⟨e1, e2, q1, fun W CW => ?_⟩))
          rw [List.set_set] at CW
          exact ⟨_, ⟨_, ps, CW.more (Nat.le_refl _) (by omega), M.drop M.rng⟩, ht2⟩
end
end Go.Proofs.Ytcnpbdboeaaajaa
