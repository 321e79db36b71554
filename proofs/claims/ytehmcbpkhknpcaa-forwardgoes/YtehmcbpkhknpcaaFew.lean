/- Few, and place. -/
import Derived.Test.YtehmcbpkhknpcaaGj
namespace Go.Proofs.Ytehmcbpkhknpcaa
set_option maxRecDepth 20000
open Go.RowKit
set_option linter.unusedVariables false
set_option linter.unusedSimpArgs false

/-- A reference to a node of a number; none. -/
def placeV (ats : List Int) (e : Int) : Int := if e % ((ats.length : Int) + 1) = (ats.length : Int) then 0 else 1 + ats.getD (e % ((ats.length : Int) + 1)).toNat 0

set_option maxHeartbeats 1000000 in
theorem ref_any {w : World} (A : Option Addr) (n c : Nat) (ats : List Int) (e : Int) (hl : ats.length = n) (hr : Row w A ats) (h0 : 0 ≤ e) (h1 : e ≤ 255) (hn : n ≤ 1000) (hb : ∀ a ∈ ats, 0 ≤ a ∧ a ≤ 65536) :
    Calls Try.prog 35 #[.slice A n c, .int .u8 e] w fun x w' => x = .returned (.int .i64 (placeV ats e)) ∧ w = w' := by
  unfold placeV
  rw [hl]
  obtain ⟨k, hk⟩ : ∃ k : Nat, e % ((n : Int) + 1) = k := ⟨(e % ((n : Int) + 1)).toNat, by have := Int.emod_nonneg e (show ((n : Int) + 1) ≠ 0 by omega); omega⟩
  have hkn : (k : Int) < (n : Int) + 1 := by rw [← hk]; exact Int.emod_lt_of_pos e (by omega)
  have b1 : ¬ ((n : Int) + 1) = 0 := by omega
  rw [hk]
  by_cases h : k = n
  · subst h
    rw [if_pos rfl]
    have d1 : ((k : Int) == (k : Int)) = true := by simp
    clear hr hb hl
    go_enter Try.func35, Try.ntmps35
    go_wp2
    go_ret
    exact ⟨rfl, rfl⟩
  · rw [if_neg (by omega), Int.toNat_natCast]
    have d1 : ((k : Int) == (n : Int)) = false := by rw [beq_eq_false_iff_ne]; omega
    have hk2 : k < ats.length := by omega
    obtain ⟨ad, rfl, hc⟩ := hr.at_ hk2
    have hbb := hb (ats.getD k 0) (by rw [List.getD_eq_getElem?_getD, List.getElem?_eq_getElem hk2]; exact List.getElem_mem hk2)
    generalize ats.getD k 0 = y at *
    have k0 : (0 : Int) ≤ (k : Int) := by omega
    have k1 : (k : Int) < (n : Int) := by omega
    clear hr hb hl h
    go_enter Try.func35, Try.ntmps35
    go_wp2
    go_ret
    exact ⟨rfl, rfl⟩

/-- A graph that isn't great. -/
def fewB (ds : List Nd) (m : Nat) : Bool := ds.all (fun d => decide (d.edges.length ≤ 10)) && (decide (ds.length ≤ 14) && decide (m ≤ 14))

set_option maxHeartbeats 1000000 in
theorem few_any {w : World} (A B : Option Addr) (n c m c' : Nat) (ds : List Nd) (hd : CameN w A n ds) (hm : m ≤ maxLen) :
    Calls Try.prog 8 #[.agg #[.slice A n c, .slice B m c']] w fun x w' => x = .returned (.bool (fewB ds m)) ∧ Below w.heap.size w w' := by
  obtain ⟨hn, hN, hF, hn2⟩ := hd
  unfold maxLen at hn2 hm
  unfold fewB
  rw [hn]
  have HN := Lib.hid hN
  have Hn := Lib.hid hn
  obtain ⟨b, hb⟩ : ∃ b, (ds.all (fun d => decide (d.edges.length ≤ 10)) && (decide (n ≤ 14) && decide (m ≤ 14))) = b := ⟨_, rfl⟩
  rw [hb]
  have HR := Lib.hid hb
  clear hN hn hF hb
  go_enter Try.func8, Try.ntmps8
  go_wp2
  go_loopw [8] (fun i wr => ∃ k : Nat, k ≤ n ∧ i = .int .i64 k ∧ (ds.take k).all (fun d => decide (d.edges.length ≤ 10)) = true ∧ Lies wr w.heap.size 25 [.slice A n c, .slice B m c'] ∧ Below w.heap.size w wr) (fun i _ => n - (intOf i).toNat)
  case atStart => exact ⟨0, Nat.zero_le _, rfl, by simp, Lies.new w 25 [_, _], below_one _ _⟩
  case round =>
    obtain ⟨k, hk, rfl, hall, L, BB⟩ := hrel
    have HA := Lib.hid hall
    clear hall
    have x0 : wr.cell? ⟨w.heap.size, 0, none⟩ = some (.slice A n c) := L.cell 0
    have x1 : wr.cell? ⟨w.heap.size, 1, none⟩ = some (.slice B m c') := L.cell 1
    by_cases hlt : k < n
    · obtain ⟨d, hd⟩ : ∃ d, ds[k]? = some d := ⟨_, List.getElem?_eq_getElem (by rw [Hn.out]; exact hlt)⟩
      obtain ⟨ad, E, ec, rfl, c0, c1, c2, -⟩ := HN.out.at_ BB hd
      have k0 : (0 : Int) ≤ (k : Int) := by omega
      have k1 : (k : Int) < (n : Int) := by omega
      obtain ⟨X, hX⟩ : ∃ X : Obj, X = .cells #[.int .u8 d.kind, .slice E d.edges.length ec, .int .u8 d.more] 60 := ⟨_, rfl⟩
      have LX : Lies (wr.alloc X) wr.heap.size 60 [.int .u8 d.kind, .slice E d.edges.length ec, .int .u8 d.more] := by rw [hX]; exact Lies.new wr 60 [_, _, _]
      have y1 : (wr.alloc X).cell? ⟨wr.heap.size, 1, none⟩ = some (.slice E d.edges.length ec) := LX.cell 1
      have B2 := on BB BB.size (below_one wr X)
      have L2 := L.alloc X
      have HX := Lib.hid hX
      have hdl : ∀ q, (ds.take (k + 1)).all q = ((ds.take k).all q && q d) := fun q => by
        have hlt2 : k < ds.length := by rw [Hn.out]; exact hlt
        have : ds[k] = d := by rw [List.getElem?_eq_getElem hlt2] at hd; injection hd
        rw [← List.take_append_getElem hlt2, List.all_append, this]; simp
      have HD := Lib.hid hdl
      have hdm := Lib.hid (List.mem_of_getElem? hd)
      obtain ⟨q, hq⟩ : ∃ q, d.edges.length = q := ⟨_, rfl⟩
      have HQ := Lib.hid hq
      rw [hq] at y1 c1 hX
      have HX2 := Lib.hid hX
      clear hX hdl hd LX hq HX
      by_cases hten : 10 < q
      · have d1 : decide ((10 : Int) < (q : Int)) = true := by simp; omega
        have hf : ds.all (fun d => decide (d.edges.length ≤ 10)) = false := by
          rw [List.all_eq_false]
          exact ⟨d, hdm.out, by rw [HQ.out]; simp; omega⟩
        have HF := Lib.hid hf
        clear hf
        go_wp2_with fail
        rw [← HX2.out]
        go_wp2
        go_ret
        exact ⟨(show Ending.returned (.bool false) = .returned (.bool b) from by rw [← HR.out, HF.out, Bool.false_and]), B2⟩
      · have d1 : decide ((10 : Int) < (q : Int)) = false := by simp; omega
        go_wp2_with fail
        rw [← HX2.out]
        go_wp2
        refine ⟨⟨k + 1, by omega, by go_num, ?_, L2, B2⟩, by simp [intOf]; omega⟩
        rw [HD.out, HA.out, HQ.out]
        simp; omega
    · obtain rfl : k = n := by omega
      have hall : ds.all (fun d => decide (d.edges.length ≤ 10)) = true := by
        have := HA.out
        rwa [← Hn.out, List.take_length] at this
      have HF := Lib.hid hall
      clear hall
      by_cases h1 : k ≤ 14
      · have d1 : decide ((k : Int) ≤ (14 : Int)) = true := by simp; omega
        have e1 : decide (k ≤ 14) = true := by simp; omega
        have e2 : decide ((m : Int) ≤ (14 : Int)) = decide (m ≤ 14) := by simp; omega
        go_wp2
        go_ret
        exact ⟨(show Ending.returned (.bool (decide (m ≤ 14))) = .returned (.bool b) from by rw [← HR.out, HF.out, e1, Bool.true_and, Bool.true_and]), BB⟩
      · have d1 : decide ((k : Int) ≤ (14 : Int)) = false := by simp; omega
        have e1 : decide (k ≤ 14) = false := by simp; omega
        go_wp2
        go_ret
        exact ⟨(show Ending.returned (.bool false) = .returned (.bool b) from by rw [← HR.out, HF.out, e1, Bool.true_and, Bool.false_and]), BB⟩
end Go.Proofs.Ytehmcbpkhknpcaa
