/- What Load, Store, Swap and Add do: the answer, the words and the touches behind them. -/
import Derived.Test.YtpifnhfdbcckjaaNote
namespace Go.Proofs.Ytpifnhfdbcckjaa
open Go.RowKit
set_option linter.unusedVariables false
set_option linter.unusedSimpArgs false

theorem set_map {zs : List Int} {p : Nat} {x : Int} : (zs.map (Value.int .i64)).set p (.int .i64 x) = (zs.set p x).map (Value.int .i64) := by rw [List.map_set]

/-- A word is set. -/
theorem At.put {w : World} {base g gw : Nat} {zs : List Int} {A : Option Addr} {c : Nat} {ts : List Tc} (h : At w base g gw zs A c ts) (p : Nat) (x : Int) :
    At (w.setCell ⟨gw, p, none⟩ (.int .i64 x)) base g gw (zs.set p x) A c ts :=
  ⟨by simpa using h.own.far (p := ⟨gw, p, none⟩) h.gne _, by rw [← set_map]; exact h.words.set p _,
   owns_of_block h.log fun k hk => Below.heap_setCell w _ _ k (h.row_of k (by rw [own_blk] at hk; exact hk)).2.2.2, by simpa using h.some_, by simpa using h.most, h.lo, h.lo'⟩
theorem Else.put {g gw p : Nat} {row : Option Nat} {w : World} {u : Value} : Else g gw row w (w.setCell ⟨gw, p, none⟩ u) :=
  ⟨rfl, rfl, rfl, by simp, fun k hk h1 h2 h3 => Below.heap_setCell w _ _ k h2⟩
theorem Did.after {w w1 w' : World} {base g gw : Nat} {A : Option Addr} {zs : List Int} {ts : List Tc} (d : Did w1 w' base g gw A zs ts) (e : Else g gw (blk A) w w1) : Did w w' base g gw A zs ts := by
  obtain ⟨A', c', h1, h2, h3⟩ := d
  refine ⟨A', c', h1, e.trans h2 (Or.inl rfl), ?_⟩
  rcases h3 with h | ⟨k, h, hk⟩
  · exact Or.inl h
  · exact Or.inr ⟨k, h, Nat.le_trans e.size hk⟩
theorem Did.then {w w1 w' : World} {base g gw : Nat} {A : Option Addr} {zs : List Int} {ts : List Tc} (d : Did w w1 base g gw A zs ts) (e : Below w1.heap.size w1 w') : Did w w' base g gw A zs ts := by
  obtain ⟨A', c', h1, h2, h3⟩ := d
  exact ⟨A', c', h1.kept e, h2.trans (Else.of_below (row := blk A') e) h3, h3⟩

set_option maxHeartbeats 1000000 in
theorem touch_yes {w : World} {base g gw : Nat} {zs : List Int} {A : Option Addr} {c : Nat} {ts : List Tc} (h : At w base g gw zs A c ts) (hn : ts.length ≤ 30000) (who what : Int) (p : Nat) (F : Nat) (caps : Array Value) (h0 : 0 ≤ who) (h1 : who < 64) (h3 : p < zs.length) (was is : Int) (hwas : zs.getD p 0 = was)
    (hen : ∀ args W, (callFunc F args).run Try.prog W = .ok (.enter F args) W)
    (hcl : Calls Try.prog F (#[.int .i64 was] ++ caps) w fun e w' => e = .returned (.int .i64 is) ∧ Below w.heap.size w w') :
    Calls Try.prog 21 #[.pointer (some ⟨g, 0, none⟩), .int .i64 who, .int .i64 p, .int .i64 what, .func (.func F) #[] caps] w fun e w' =>
      e = .returned (.tuple #[.int .i64 was, .int .i64 0]) ∧ Did w w' base g gw A (zs.set p is) (ts ++ [⟨who, p, what, was, is⟩]) := by
  have hc0 : w.cell? ⟨g, 0, none⟩ = some (.slice (some ⟨gw, 0, none⟩) zs.length zs.length) := h.own.cell 0
  have hcw : w.cell? ⟨gw, p, none⟩ = some (.int .i64 was) := by rw [h.words.cell p]; simp [List.getD, h3] at hwas ⊢; exact hwas
  have d0 : decide (who < 0) = false := by simp; omega
  have d1 : decide (64 ≤ who) = false := by simp; omega
  have d2 : (0 : Int) ≤ p := by omega
  have d3 : (p : Int) < zs.length := by omega
  have HC := Lib.hid hcl
  have H := Lib.hid h
  clear hwas hcl h
  go_enter Try.func21, Try.ntmps21
  go_wp2_with fail
  refine HC.out.mono ?_
  rintro e w1 ⟨rfl, hb1⟩
  have H1 := Lib.hid (H.out.kept hb1)
  have E1 : Hid (Else g gw (blk A) w w1) := Lib.hid (Else.of_below hb1)
  have k0 : w1.cell? ⟨g, 0, none⟩ = some (.slice (some ⟨gw, 0, none⟩) zs.length zs.length) := H1.out.own.cell 0
  have kw : w1.cell? ⟨gw, p, none⟩ = some (.int .i64 was) := (hb1.cell H.out.words.lt).trans hcw
  have kf : w1.frozen? ⟨gw, p, none⟩ = false := H1.out.words.frozen p
  clear hc0 hcw HC hb1
  go_wp2_with fail
  refine (note_any (H1.out.put p is) hn who p what was is).mono ?_
  rintro e w2 ⟨rfl, D2⟩
  have HD := Lib.hid ((D2.after Else.put).after E1.out)
  clear D2
  go_wp2
  go_ret2
  exact ⟨rfl, HD.out⟩

set_option maxHeartbeats 1000000 in
theorem touch_no {w : World} {base g gw : Nat} {zs : List Int} {A : Option Addr} {c : Nat} {ts : List Tc} (h : At w base g gw zs A c ts) (who place what : Int) (f : Value) (hbad : ¬ (0 ≤ who ∧ who < 64 ∧ 0 ≤ place ∧ place < zs.length)) :
    Calls Try.prog 21 #[.pointer (some ⟨g, 0, none⟩), .int .i64 who, .int .i64 place, .int .i64 what, f] w fun e w' =>
      e = .returned (.tuple #[.int .i64 0, .int .i64 1]) ∧ w = w' := by
  have hc0 : w.cell? ⟨g, 0, none⟩ = some (.slice (some ⟨gw, 0, none⟩) zs.length zs.length) := h.own.cell 0
  by_cases h0 : who < 0
  · have d0 : decide (who < 0) = true := by simp; omega
    go_enter Try.func21, Try.ntmps21
    go_wp2
    go_ret2
    exact ⟨rfl, rfl⟩
  have d0 : decide (who < 0) = false := by simp; omega
  by_cases h1 : 64 ≤ who
  · have d1 : decide (64 ≤ who) = true := by simp; omega
    go_enter Try.func21, Try.ntmps21
    go_wp2
    go_ret2
    exact ⟨rfl, rfl⟩
  have d1 : decide (64 ≤ who) = false := by simp; omega
  by_cases h2 : place < 0
  · have d2 : decide (place < 0) = true := by simp; omega
    go_enter Try.func21, Try.ntmps21
    go_wp2
    go_ret2
    exact ⟨rfl, rfl⟩
  have d2 : decide (place < 0) = false := by simp; omega
  have h3 : (zs.length : Int) ≤ place := by omega
  go_enter Try.func21, Try.ntmps21
  go_wp2
  go_ret2
  exact ⟨rfl, rfl⟩
end Go.Proofs.Ytpifnhfdbcckjaa
