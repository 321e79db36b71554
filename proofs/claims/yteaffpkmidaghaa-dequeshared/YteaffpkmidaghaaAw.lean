/- The document's example, and DequeNews. -/
import Derived.Test.YteaffpkmidaghaaCj
namespace Go.Proofs.Yteaffpkmidaghaa
open Go.RowKit
set_option linter.unusedVariables false
set_option linter.unusedSimpArgs false

section
variable {w : World} {base gd g gw gc : Nat} {zs : List Int} {A : Option Addr} {c : Nat} {ts : List Tc} {cl : Cl}
theorem step_to (h : At w base g gw zs A c ts) (hl : Lies w gc 58 (cl.cells g)) (hn : ts.length ≤ 1000) (f : Fit zs cl) {c1 : Cl} {zs1 : List Int} {b : Bool} (e : stepF zs cl = (c1, zs1)) (hb : decide (c1.nx = 0) = b) :
    Calls Try.prog 19 #[.pointer (some ⟨gc, 0, none⟩)] w fun e w' => e = .returned (.bool b) ∧ ∃ t, Dn w w' base gc g gw A zs1 (ts ++ [t]) c1 := by
  have := step_any h hl hn f
  rw [e] at this
  subst hb
  exact this
/-- Words of a deque that nobody has a call of. -/
theorem qwords {n t tag : Nat} {row : List Int} (h : At w base g gw zs A c ts) (hd : Lies w gd 55 [.pointer (some ⟨g, 0, none⟩)]) (q : Q zs n t tag row) :
    Calls Try.prog 15 #[.pointer (some ⟨gd, 0, none⟩)] w fun e w' => ∃ a, e = .returned (.slice (some a) row.length row.length) ∧ Row .i64 w' (some a) row ∧ Below w.heap.size w w' := by
  have h1 := q.len
  have h2 := q.n2
  have h3 := q.fits
  have h4 := q.n'
  refine (dwords_any h hd (by omega) (t + row.length) t (by rw [q.bot]; omega) q.topb.1 q.topb.2 (by rw [q.top]; omega) (by omega) (by omega)).mono ?_
  rintro e w' ⟨a, rfl, R, hl, B⟩
  rw [q.row_of] at R hl
  have e : t + row.length - t = row.length := by omega
  rw [e]
  exact ⟨a, rfl, R, B⟩
end

theorem nil31 (gc : Nat) (W : World) : (binOp .eql 31 (.pointer (some ⟨gc, 0, none⟩)) (.pointer none)).run Try.prog W = .ok (.bool false) W := by kernel_rfl
theorem nil24 (gc : Nat) (W : World) : (binOp .eql 24 (.pointer (some ⟨gc, 0, none⟩)) (.pointer none)).run Try.prog W = .ok (.bool false) W := by kernel_rfl

set_option maxHeartbeats 2000000 in
theorem awake_any (w : World) : Calls Try.prog 9 #[] w fun e w' => e = .returned (.bool true) ∧ Below w.heap.size w w' := by
  have n1 := nil31
  have n2 := nil24
  go_enter Try.func9, Try.ntmps9
  go_wp2_with fail
  refine (dnew_yes 2 2 rfl w w.heap.size (Nat.le_refl _) (by omega) (by omega)).mono ?_
  rintro e w1 ⟨gd, g, gw, rfl, B1, H1⟩
  have HB1 := Lib.hid B1
  have HH1 := Lib.hid H1
  clear B1 H1
  go_wp2_with fail
  refine (push_any HH1.out.own 5).mono ?_
  rintro e w2 ⟨rfl, L2, B2⟩
  have HL2 := Lib.hid L2
  have HB2 := Lib.hid B2
  have A2 := Lib.hid (HH1.out.at_.kept B2)
  have O2 := Lib.hid (HH1.out.own.kept B2)
  have B12 : Hid (Below w.heap.size w w2) := Lib.hid (on HB1.out HB1.out.size B2)
  have hgc : Hid (w.heap.size ≤ w1.heap.size) := Lib.hid HB1.out.size
  have hgd : Hid (gd ≠ w1.heap.size) := Lib.hid (by have := HH1.out.own.lt; omega)
  clear L2 B2
  generalize w1.heap.size = gc at *
  have f1 : Fit (List.replicate 4 0) ⟨0, 25, 0, 0, 5, 0⟩ := fit_of (n := 2) (by simp) (by omega) (by omega) (by simp) rfl (by simp) rfl (by simp) (by simp) (by simp) (by simp) (by simp)
  have f2 : Fit (List.replicate 4 0) ⟨0, 33, 0, 0, 5, 0⟩ := fit_of (n := 2) (by simp) (by omega) (by omega) (by simp) rfl (by simp) rfl (by simp) (by simp) (by simp) (by simp) (by simp)
  have f3 : Fit [0, 0, 5, 0] ⟨0, 38, 0, 0, 5, 0⟩ := fit_of (n := 2) (by simp) (by omega) (by omega) (by simp) rfl (by simp) rfl (by simp) (by simp) (by simp) (by simp) (by simp)
  have HF1 := Lib.hid f1
  have HF2 := Lib.hid f2
  have HF3 := Lib.hid f3
  clear f1 f2 f3
  go_wp2_with fail
  refine (step_to A2.out HL2.out (by simp) HF1.out (c1 := ⟨0, 33, 0, 0, 5, 0⟩) (zs1 := List.replicate 4 0) (b := false) rfl rfl).mono ?_
  rintro e w3 ⟨rfl, t3, D3⟩
  have HD3 := Lib.hid D3
  clear D3
  go_wp2_with fail
  obtain ⟨A3, c3, H3, L3, E3, M3⟩ := HD3.out
  refine (step_to H3 L3 (by simp) HF2.out (c1 := ⟨0, 38, 0, 0, 5, 0⟩) (zs1 := [0, 0, 5, 0]) (b := false) rfl rfl).mono ?_
  rintro e w4 ⟨rfl, t4, D4⟩
  have HD4 := Lib.hid D4
  have HA3 := Lib.hid H3
  clear D4 H3 L3 E3 M3
  go_wp2_with fail
  obtain ⟨A4, c4, H4, L4, E4, M4⟩ := HD4.out
  refine (step_to H4 L4 (by simp) HF3.out (c1 := ⟨0, 0, 0, 0, 0, 0⟩) (zs1 := [1, 0, 5, 0]) (b := true) rfl rfl).mono ?_
  rintro e w5 ⟨rfl, t5, D5⟩
  have HD5 := Lib.hid D5
  have HA4 := Lib.hid H4
  clear D5 H4 L4 E4 M4
  go_wp2_with fail
  refine (result_yes HD5.out.lies rfl).mono ?_
  rintro e w6 ⟨rfl, B6⟩
  have O5 := HD5.out.lies58 HA4.out (HD4.out.lies58 HA3.out (HD3.out.lies58 A2.out O2.out hgd.out (by decide) (by decide) (by decide)) hgd.out (by decide) (by decide) (by decide)) hgd.out (by decide) (by decide) (by decide)
  have BB : Below w.heap.size w w6 := ((B12.out.trans (HD3.out.low A2.out hgc.out)).trans (HD4.out.low HA3.out hgc.out)).trans (HD5.out.low HA4.out hgc.out) |>.trans (B6.mono (by obtain ⟨A5, c5, H5, _⟩ := HD5.out; exact H5.old))
  have HBB := Lib.hid BB
  have O6 := Lib.hid (O5.kept B6)
  have A6 : Hid (∃ A c ts, At w6 w.heap.size g gw [1, 0, 5, 0] A c ts) := Lib.hid (by obtain ⟨A5, c5, H5, _⟩ := HD5.out; exact ⟨A5, c5, _, H5.kept B6⟩)
  have q : Hid (Q [1, 0, 5, 0] 2 0 0 [5]) := Lib.hid ⟨rfl, by omega, by omega, rfl, by simp, rfl, by omega, fun i hi => by simp at hi; subst hi; rfl⟩
  clear BB O5 B6 HD5 HD4 HD3 HA3 HA4 A2 O2 HL2 HB2 HB1 B12 HH1 HF1 HF2 HF3 hgc
  obtain ⟨A7, c7, ts7, H7⟩ := A6.out
  go_wp2_with fail
  refine (qwords H7 O6.out q.out).mono ?_
  rintro e w7 ⟨a7, rfl, R7, B7⟩
  have HB7 := Lib.hid B7
  have O7 := Lib.hid (O6.out.kept B7)
  have A8 := Lib.hid (H7.kept B7)
  have hs := Lib.hid (H7.old)
  clear R7 B7 H7
  go_wp2_with fail
  refine (qwords A8.out O7.out q.out).mono ?_
  rintro e w8 ⟨a8, rfl, R8, B8⟩
  obtain ⟨ad, e8, c8⟩ := R8.at_ (i := 0) (by simp)
  injection e8 with e8
  subst e8
  simp only [List.getElem_cons_zero] at c8
  have HB8 := Lib.hid B8
  rw [show a8.add 0 = a8 from by unfold Addr.add; split <;> simp_all] at c8
  clear R8 B8
  go_wp2
  go_ret
  refine ⟨rfl, (HBB.out.trans (HB7.out.mono hs.out)).trans (HB8.out.mono (Nat.le_trans hs.out HB7.out.size))⟩
end Go.Proofs.Yteaffpkmidaghaa
