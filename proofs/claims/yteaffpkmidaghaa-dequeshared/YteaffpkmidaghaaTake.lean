/- DequeShared: what the closure does with a call that is done. -/
import Derived.Test.YteaffpkmidaghaaShM
import Derived.Deep.CutBlock
namespace Go.Proofs.Yteaffpkmidaghaa
open Go.RowKit Go.Maps
set_option linter.unusedVariables false
set_option linter.unusedSimpArgs false

section
variable {w0 w : World} {x : Bx} {cs : List (Option (Nat × Cl))} {oc : Option Cl} {row : List Int} {t tag hi : Nat} {nx pu : Int} {f : Int → Int} {k mm gc kk : Nat} {cl : Cl}

/-- One that got a word. -/
theorem take_got (h : Core w0 w x cs oc row t tag hi nx pu f k mm) (hk4 : kk < 4) (hc : cs[kk]? = some (some (gc, cl))) (h0 : cl.nx = 0) (he : cl.err = 0) (y : Int) (hy : cl.word = y) (hnp : ¬ (0 < pu ∧ kk = 0)) (hy0 : 0 < y) (hy1 : y < nx) (hnx : nx ≤ 1000) (hf : f y = 1) (hm : mm ≤ 100000) :
    Calls Try.prog 16 #[.int .i64 kk, .pointer (some ⟨x.bc, 0, none⟩), .pointer (some ⟨x.bp, 0, none⟩), .pointer (some ⟨x.bw, 0, none⟩), .pointer (some ⟨x.bn, 0, none⟩)] w fun e w' =>
      e = .returned (.bool true) ∧ Core w0 w' x (cs.set kk none) oc row t tag hi nx pu (fun z => if z = y then 0 else f z) k (mm + 1) := by
  have a0 := h.conc.cell hc
  simp only [cellOf, Option.map] at a0
  have HR := Lib.hid (result_yes (h.conc.lies hc) h0)
  have HH := Lib.hid h
  have hk6 : (kk : Int) < 4 := by omega
  have hk0 : (0 : Int) ≤ (kk : Int) := by omega
  rw [he, hy] at HR
  clear h hy he
  go_enter Try.func16, Try.ntmps16
  go_wp2_with fail
  refine HR.out.mono ?_
  rintro e w1 ⟨rfl, B1⟩
  have H1 := Lib.hid (HH.out.kept B1)
  have a1 := H1.out.conc.cell hc
  simp only [cellOf, Option.map] at a1
  have f1 := H1.out.conc.arr_.frozen kk
  have H2 := Lib.hid (H1.out.drop hk4)
  clear B1 a0 HR HH
  go_upto_region 4 with fail
  generalize w1.setCell ⟨x.bc, kk, none⟩ (.pointer none) = w2 at *
  have p2 : w2.cell? ⟨x.bp, 0, none⟩ = some (.int .i64 pu) := H2.out.pu_.cell 0
  have m2 : w2.cell? ⟨x.bw, 0, none⟩ = some (.map (some x.bm)) := H2.out.wh.cell 0
  have l2 := H2.out.look y (by omega)
  rw [hf] at l2
  obtain ⟨w3, u3, C3⟩ := H2.out.store y 0 (by omega) (by omega) hm
  have H3 := Lib.hid C3
  have m3 : w3.cell? ⟨x.bw, 0, none⟩ = some (.map (some x.bm)) := C3.wh.cell 0
  have n3 : w3.cell? ⟨x.bn, 0, none⟩ = some (.int .i64 nx) := C3.nx_.cell 0
  have l3 := C3.look y (by omega)
  simp only [if_pos] at l3
  have d1 : decide (0 < y) = true := by simp; omega
  have d2 : decide (y < nx) = true := by simp; omega
  clear C3 a1 f1 H1 H2
  by_cases hp : 0 < pu
  · have dp : decide (0 < pu) = true := by simp; omega
    have dk : ((kk : Int) == 0) = false := by simp; omega
    go_wp2
    go_ret
    exact ⟨rfl, H3.out⟩
  · have dp : decide (0 < pu) = false := by simp; omega
    go_wp2
    go_ret
    exact ⟨rfl, H3.out⟩
/-- One that got none. -/
theorem take_none (h : Core w0 w x cs oc row t tag hi nx pu f k mm) (hk4 : kk < 4) (hc : cs[kk]? = some (some (gc, cl))) (h0 : cl.nx = 0) (hy : cl.word = 0) (hnp : ¬ (0 < pu ∧ kk = 0)) (he : cl.err = 7 ∨ cl.err = 8 ∧ 0 < kk) :
    Calls Try.prog 16 #[.int .i64 kk, .pointer (some ⟨x.bc, 0, none⟩), .pointer (some ⟨x.bp, 0, none⟩), .pointer (some ⟨x.bw, 0, none⟩), .pointer (some ⟨x.bn, 0, none⟩)] w fun e w' =>
      e = .returned (.bool true) ∧ Core w0 w' x (cs.set kk none) oc row t tag hi nx pu f k mm := by
  have a0 := h.conc.cell hc
  simp only [cellOf, Option.map] at a0
  have HR := Lib.hid (result_yes (h.conc.lies hc) h0)
  have HH := Lib.hid h
  have hk6 : (kk : Int) < 4 := by omega
  have hk0 : (0 : Int) ≤ (kk : Int) := by omega
  rw [hy] at HR
  generalize cl.err = er at *
  clear h hy
  go_enter Try.func16, Try.ntmps16
  go_wp2_with fail
  refine HR.out.mono ?_
  rintro e w1 ⟨rfl, B1⟩
  have H1 := Lib.hid (HH.out.kept B1)
  have a1 := H1.out.conc.cell hc
  simp only [cellOf, Option.map] at a1
  have f1 := H1.out.conc.arr_.frozen kk
  have H2 := Lib.hid (H1.out.drop hk4)
  clear B1 a0 HR HH
  go_upto_region 4 with fail
  generalize w1.setCell ⟨x.bc, kk, none⟩ (.pointer none) = w2 at *
  have p2 : w2.cell? ⟨x.bp, 0, none⟩ = some (.int .i64 pu) := H2.out.pu_.cell 0
  clear a1 f1 H1
  by_cases hp : 0 < pu
  · have dp : decide (0 < pu) = true := by simp; omega
    have dk : ((kk : Int) == 0) = false := by simp; omega
    have dk2 : decide (0 < (kk : Int)) = true := by simp; omega
    rcases he with he | ⟨he, _⟩ <;> subst he
    · go_wp2
      go_ret
      exact ⟨rfl, H2.out⟩
    · go_wp2
      go_ret
      exact ⟨rfl, H2.out⟩
  · have dp : decide (0 < pu) = false := by simp; omega
    rcases he with he | ⟨he, hkk⟩ <;> subst he
    · go_wp2
      go_ret
      exact ⟨rfl, H2.out⟩
    · have dk2 : decide (0 < (kk : Int)) = true := by simp; omega
      go_wp2
      go_ret
      exact ⟨rfl, H2.out⟩
/-- A push that went. -/
theorem take_push (h : Core w0 w x cs oc row t tag hi nx pu f k mm) (hc : cs[0]? = some (some (gc, cl))) (h0 : cl.nx = 0) (he : cl.err = 0) (hp0 : 0 < pu) (hp1 : pu < nx) (hnx : nx ≤ 1000) (hf : f pu = 0) (hm : mm ≤ 100000) :
    Calls Try.prog 16 #[.int .i64 0, .pointer (some ⟨x.bc, 0, none⟩), .pointer (some ⟨x.bp, 0, none⟩), .pointer (some ⟨x.bw, 0, none⟩), .pointer (some ⟨x.bn, 0, none⟩)] w fun e w' =>
      e = .returned (.bool true) ∧ Core w0 w' x (cs.set 0 none) oc row t tag hi nx 0 (fun z => if z = pu then 1 else f z) k (mm + 1) := by
  have a0 := h.conc.cell hc
  simp only [cellOf, Option.map] at a0
  have HR := Lib.hid (result_yes (h.conc.lies hc) h0)
  have HH := Lib.hid h
  rw [he] at HR
  clear h he
  go_enter Try.func16, Try.ntmps16
  go_wp2_with fail
  refine HR.out.mono ?_
  rintro e w1 ⟨rfl, B1⟩
  have H1 := Lib.hid (HH.out.kept B1)
  have a1 := H1.out.conc.cell hc
  simp only [cellOf, Option.map] at a1
  have f1 := H1.out.conc.arr_.frozen 0
  have H2 := Lib.hid (H1.out.drop (i := 0) (by omega))
  clear B1 a0 HR HH
  go_upto_region 4 with fail
  generalize w1.setCell ⟨x.bc, 0, none⟩ (.pointer none) = w2 at *
  have p2 : w2.cell? ⟨x.bp, 0, none⟩ = some (.int .i64 pu) := H2.out.pu_.cell 0
  have m2 : w2.cell? ⟨x.bw, 0, none⟩ = some (.map (some x.bm)) := H2.out.wh.cell 0
  have l2 := H2.out.look pu (by omega)
  rw [hf] at l2
  obtain ⟨w3, u3, C3⟩ := H2.out.store pu 1 (by omega) (by omega) hm
  have H3 := Lib.hid (C3.setp 0)
  have p3 : w3.cell? ⟨x.bp, 0, none⟩ = some (.int .i64 pu) := C3.pu_.cell 0
  have q3 := C3.pu_.frozen 0
  have dp : decide (0 < pu) = true := by simp; omega
  clear C3 a1 f1 H1 H2
  go_wp2
  go_ret
  exact ⟨rfl, H3.out⟩
/-- A push that found no room. -/
theorem take_full (h : Core w0 w x cs oc row t tag hi nx pu f k mm) (hc : cs[0]? = some (some (gc, cl))) (h0 : cl.nx = 0) (he : cl.err = 6) (hp0 : 0 < pu) :
    Calls Try.prog 16 #[.int .i64 0, .pointer (some ⟨x.bc, 0, none⟩), .pointer (some ⟨x.bp, 0, none⟩), .pointer (some ⟨x.bw, 0, none⟩), .pointer (some ⟨x.bn, 0, none⟩)] w fun e w' =>
      e = .returned (.bool true) ∧ Core w0 w' x (cs.set 0 none) oc row t tag hi nx 0 f k mm := by
  have a0 := h.conc.cell hc
  simp only [cellOf, Option.map] at a0
  have HR := Lib.hid (result_yes (h.conc.lies hc) h0)
  have HH := Lib.hid h
  rw [he] at HR
  clear h he
  go_enter Try.func16, Try.ntmps16
  go_wp2_with fail
  refine HR.out.mono ?_
  rintro e w1 ⟨rfl, B1⟩
  have H1 := Lib.hid (HH.out.kept B1)
  have a1 := H1.out.conc.cell hc
  simp only [cellOf, Option.map] at a1
  have f1 := H1.out.conc.arr_.frozen 0
  have H2 := Lib.hid (H1.out.drop (i := 0) (by omega))
  clear B1 a0 HR HH
  go_upto_region 4 with fail
  generalize w1.setCell ⟨x.bc, 0, none⟩ (.pointer none) = w2 at *
  have p2 : w2.cell? ⟨x.bp, 0, none⟩ = some (.int .i64 pu) := H2.out.pu_.cell 0
  have q2 := H2.out.pu_.frozen 0
  have H3 := Lib.hid (H2.out.setp 0)
  have dp : decide (0 < pu) = true := by simp; omega
  clear a1 f1 H1 H2
  go_wp2
  go_ret
  exact ⟨rfl, H3.out⟩
end
end Go.Proofs.Yteaffpkmidaghaa
