/- An offer beside a row of the law's own, of who is idle. -/
import Derived.Test.YtpifnhfdbcckjaaAw
import Derived.Test.YtpifnhfdbcckjaaReads
import Derived.Deep.CutBlock
namespace Go.Proofs.Ytpifnhfdbcckjaa
open Go.RowKit
set_option linter.unusedVariables false
set_option linter.unusedSimpArgs false

/-- The offer, so many touches, and the law's own row; what the two are in isn't the same. -/
def Pz (w wr : World) (o qi : Nat) (ids row : List Bool) (k : Int) (l n : Nat) : Prop :=
  row.length = n ∧ Fit ids k n ∧ ∃ ts S, ts.length = l ∧ Oq wr w.heap.size o ids k ts S ∧ Lies wr qi 4 (row.map Value.bool) ∧ ¬ S qi ∧ w.heap.size ≤ qi ∧ Below w.heap.size w wr

section
variable {w w0 w1 : World} {o qi l l' n : Nat} {ids ids' row : List Bool} {k k' : Int}
theorem Pz.low (h : Pz w w0 o qi ids row k l n) : Below w.heap.size w w0 := by obtain ⟨_, _, _, _, _, _, _, _, _, h⟩ := h; exact h
theorem Pz.fit (h : Pz w w0 o qi ids row k l n) : Fit ids k n := h.2.1
theorem Pz.mine (h : Pz w w0 o qi ids row k l n) : Lies w0 qi 4 (row.map Value.bool) := by obtain ⟨_, _, _, _, _, _, h, _⟩ := h; exact h
theorem Pz.cell (h : Pz w w0 o qi ids row k l n) (m : Nat) (hm : m < n) (b : Bool) (hb : row.getD m false = b) : w0.cell? ⟨qi, m, none⟩ = some (.bool b) := by
  have hl := h.1
  rw [h.mine.cell m]; simp [List.getD, hl, hm] at hb ⊢; exact hb
theorem Pz.frozen (h : Pz w w0 o qi ids row k l n) (m : Nat) : w0.frozen? ⟨qi, m, none⟩ = false := h.mine.frozen m
theorem Pz.kept (h : Pz w w0 o qi ids row k l n) (hb : Below w0.heap.size w0 w1) : Pz w w1 o qi ids row k l n := by
  obtain ⟨hl, hf, ts, S, ht, h1, h2, h3, h4, h5⟩ := h
  exact ⟨hl, hf, ts, S, ht, h1.kept hb, h2.kept hb, h3, h4, on h5 h5.size hb⟩
/-- One of the law's row is set. -/
theorem Pz.turn (h : Pz w w0 o qi ids row k l n) (m : Nat) (b : Bool) : Pz w (w0.setCell ⟨qi, m, none⟩ (.bool b)) o qi ids (row.set m b) k l n := by
  obtain ⟨hl, hf, ts, S, ht, h1, h2, h3, h4, h5⟩ := h
  exact ⟨by simp [hl], hf, ts, S, ht, h1.far h3, by rw [← set_bools]; exact h2.set m _, h3, h4, h5.trans ((Chg.set (S := fun j => j = qi) rfl).below h5.size fun j e => by omega)⟩
theorem pz_step {P : Ending → Prop} {f : Nat} {args : Array Value} (h : Pz w w0 o qi ids row k l n) (hf : Fit ids' k' n)
    (hc : ∀ ts S, ts.length = l → Oq w0 w.heap.size o ids k ts S → ∃ ts', ts'.length = l' ∧ Calls Try.prog f args w0 fun e w' => P e ∧ Step w0 w' w.heap.size o S ids' k' ts') :
    Calls Try.prog f args w0 fun e w' => P e ∧ Pz w w' o qi ids' row k' l' n ∧ ∀ b cs, Lies w0 b 30 cs → Lies w' b 30 cs := by
  obtain ⟨hl, _, ts, S, ht, h1, h2, h3, h4, h5⟩ := h
  obtain ⟨ts', ht', c⟩ := hc ts S ht h1
  refine c.mono ?_
  rintro e w' ⟨he, s⟩
  have hb := s.below h1
  obtain ⟨S', s1, s2, s3⟩ := s
  refine ⟨he, ⟨hl, hf, ts', S', ht', s1, s2.lies h2 h3, fun hS => ?_, h4, h5.trans hb⟩, fun b cs hL => s2.lies hL (h1.not_box hL (by decide) (by decide) (by decide) (by decide) (by decide))⟩
  rcases s3 qi hS with h | h
  · exact h3 h
  · have := h2.lt; omega
theorem pz_same {P : Ending → Prop} {f : Nat} {args : Array Value} (h : Pz w w0 o qi ids row k l n)
    (hc : ∀ ts S, Oq w0 w.heap.size o ids k ts S → Calls Try.prog f args w0 fun e w' => P e ∧ w0 = w') :
    Calls Try.prog f args w0 fun e w' => P e ∧ w0 = w' := by
  obtain ⟨_, _, ts, S, _, h1, _⟩ := h
  exact hc ts S h1

theorem pz_offer (h : Pz w w0 o qi ids row k l n) (m : Nat) (hm : m < n) (h64 : n ≤ 64) (hb : ids.getD m false = false) (hts : l ≤ 30000) (b : Bool) (he : (k + 1 == (n : Int)) = b) :
    Calls Try.prog 8 #[.pointer (some ⟨o, 0, none⟩), .int .i64 m] w0 fun e w' => e = .returned (.tuple #[.bool b, .int .i64 0]) ∧ Pz w w' o qi (ids.set m true) row (k + 1) (l + 1) n ∧ ∀ b cs, Lies w0 b 30 cs → Lies w' b 30 cs := by
  have h0 := h.fit.lo; have h1 := h.fit.hi; have hl := h.fit.1
  exact pz_step h (h.fit.on_ hm hb) fun ts S ht hq => ⟨ts ++ [⟨m, 0, 4, k, k + 1⟩], by simp [ht], offer_yes hq m (by omega) (by omega) hb (by omega) h0 (by omega) b (by rw [hl]; exact he)⟩
theorem pz_offer_twice (h : Pz w w0 o qi ids row k l n) (m : Nat) (hm : m < n) (hb : ids.getD m false = true) :
    Calls Try.prog 8 #[.pointer (some ⟨o, 0, none⟩), .int .i64 m] w0 fun e w' => e = .returned (.tuple #[.bool false, .int .i64 9]) ∧ w0 = w' :=
  pz_same h fun ts S hq => offer_twice hq m (by have := h.fit.1; omega) hb
theorem pz_offer_none (h : Pz w w0 o qi ids row k l n) (i : Int) (hi : i < 0 ∨ n ≤ i) :
    Calls Try.prog 8 #[.pointer (some ⟨o, 0, none⟩), .int .i64 i] w0 fun e w' => e = .returned (.tuple #[.bool false, .int .i64 1]) ∧ w0 = w' :=
  pz_same h fun ts S hq => offer_none hq i (by have := h.fit.1; omega)
theorem pz_look (h : Pz w w0 o qi ids row k l n) (m : Nat) (hm : m < n) (h64 : n ≤ 64) (hts : l ≤ 30000) :
    Calls Try.prog 9 #[.pointer (some ⟨o, 0, none⟩), .int .i64 m] w0 fun e w' => e = .returned (.tuple #[.int .i64 k, .int .i64 0]) ∧ Pz w w' o qi ids row k (l + 1) n ∧ ∀ b cs, Lies w0 b 30 cs → Lies w' b 30 cs := by
  have hl := h.fit.1
  exact pz_step h h.fit fun ts S ht hq => ⟨ts ++ [⟨m, 0, 1, k, k⟩], by simp [ht], look_yes hq m (by omega) (by omega) (by omega)⟩
theorem pz_look_none (h : Pz w w0 o qi ids row k l n) (i : Int) (hi : i < 0 ∨ n ≤ i) :
    Calls Try.prog 9 #[.pointer (some ⟨o, 0, none⟩), .int .i64 i] w0 fun e w' => e = .returned (.tuple #[.int .i64 0, .int .i64 1]) ∧ w0 = w' :=
  pz_same h fun ts S hq => look_none hq i (by have := h.fit.1; omega)
theorem pz_back (h : Pz w w0 o qi ids row k l n) (m : Nat) (hm : m < n) (h64 : n ≤ 64) (hb : ids.getD m false = true) (hts : l ≤ 30000) (seen : Int) (he : seen ≠ n) (hs : k = seen) :
    Calls Try.prog 10 #[.pointer (some ⟨o, 0, none⟩), .int .i64 m, .int .i64 seen] w0 fun e w' => e = .returned (.int .i64 0) ∧ Pz w w' o qi (ids.set m false) row (k - 1) (l + 1) n ∧ ∀ b cs, Lies w0 b 30 cs → Lies w' b 30 cs := by
  have h0 := h.fit.lo; have h1 := h.fit.hi; have hl := h.fit.1
  exact pz_step h (h.fit.off hm hb) fun ts S ht hq => ⟨ts ++ [⟨m, 0, 3, k, k - 1⟩], by simp [ht], back_yes hq m seen (by omega) (by omega) hb (by omega) hs h0 (by omega) (by omega)⟩
theorem pz_back_lost (h : Pz w w0 o qi ids row k l n) (m : Nat) (hm : m < n) (h64 : n ≤ 64) (hb : ids.getD m false = true) (hts : l ≤ 30000) (seen : Int) (he : seen ≠ n) (hs : k ≠ seen) :
    Calls Try.prog 10 #[.pointer (some ⟨o, 0, none⟩), .int .i64 m, .int .i64 seen] w0 fun e w' => e = .returned (.int .i64 8) ∧ Pz w w' o qi ids row k (l + 1) n ∧ ∀ b cs, Lies w0 b 30 cs → Lies w' b 30 cs := by
  have hl := h.fit.1
  exact pz_step h h.fit fun ts S ht hq => ⟨ts ++ [⟨m, 0, 3, k, k⟩], by simp [ht], back_lost hq m seen (by omega) (by omega) hb (by omega) hs (by omega)⟩
theorem pz_back_end (h : Pz w w0 o qi ids row k l n) (m : Nat) (hm : m < n) (hb : ids.getD m false = true) (seen : Int) (he : seen = n) :
    Calls Try.prog 10 #[.pointer (some ⟨o, 0, none⟩), .int .i64 m, .int .i64 seen] w0 fun e w' => e = .returned (.int .i64 12) ∧ w0 = w' :=
  pz_same h fun ts S hq => back_end hq m seen (by have := h.fit.1; omega) hb (by have := h.fit.1; omega)
theorem pz_back_order (h : Pz w w0 o qi ids row k l n) (m : Nat) (hm : m < n) (hb : ids.getD m false = false) (seen : Int) :
    Calls Try.prog 10 #[.pointer (some ⟨o, 0, none⟩), .int .i64 m, .int .i64 seen] w0 fun e w' => e = .returned (.int .i64 9) ∧ w0 = w' :=
  pz_same h fun ts S hq => back_order hq m seen (by have := h.fit.1; omega) hb
theorem pz_back_none (h : Pz w w0 o qi ids row k l n) (i : Int) (hi : i < 0 ∨ n ≤ i) (seen : Int) :
    Calls Try.prog 10 #[.pointer (some ⟨o, 0, none⟩), .int .i64 i, .int .i64 seen] w0 fun e w' => e = .returned (.int .i64 1) ∧ w0 = w' :=
  pz_same h fun ts S hq => back_none hq i seen (by have := h.fit.1; omega)
theorem pz_over (h : Pz w w0 o qi ids row k l n) (b : Bool) (he : (k == (n : Int)) = b) :
    Calls Try.prog 11 #[.pointer (some ⟨o, 0, none⟩)] w0 fun e w' => e = .returned (.bool b) ∧ Pz w w' o qi ids row k l n ∧ ∀ b cs, Lies w0 b 30 cs → Lies w' b 30 cs := by
  have hl := h.fit.1
  refine pz_step h h.fit fun ts S ht hq => ⟨ts, ht, (over_any hq b (by rw [hl]; exact he)).mono ?_⟩
  rintro e w' ⟨rfl, hb⟩
  exact ⟨rfl, same_step hq hb⟩
theorem pz_idle (h : Pz w w0 o qi ids row k l n) (m : Nat) (hm : m < n) (b : Bool) (hb : ids.getD m false = b) :
    Calls Try.prog 12 #[.pointer (some ⟨o, 0, none⟩), .int .i64 m] w0 fun e w' => e = .returned (.bool b) ∧ w0 = w' :=
  pz_same h fun ts S hq => idle_yes hq m (by have := h.fit.1; omega) b hb
theorem pz_idle_none (h : Pz w w0 o qi ids row k l n) (i : Int) (hi : i < 0 ∨ n ≤ i) :
    Calls Try.prog 12 #[.pointer (some ⟨o, 0, none⟩), .int .i64 i] w0 fun e w' => e = .returned (.bool false) ∧ w0 = w' :=
  pz_same h fun ts S hq => idle_no hq i (by have := h.fit.1; omega)
theorem pz_log (h : Pz w w0 o qi ids row k l n) (hl : l ≤ 30000) :
    Calls Try.prog 13 #[.pointer (some ⟨o, 0, none⟩)] w0 fun e w' => ∃ A, e = .returned (.slice A l l) ∧ Pz w w' o qi ids row k l n := by
  obtain ⟨h1, hf, ts, S, ht, h2, h3, h4, h5, h6⟩ := h
  subst ht
  refine (log_any' h2 hl).mono ?_
  rintro e w' ⟨q, rfl, hq, hL, hB⟩
  exact ⟨_, rfl, h1, hf, ts, S, rfl, h2.kept hB, h3.kept hB, h4, h5, on h6 h6.size hB⟩
theorem pz_new (n : Nat) (w w0 : World) (X : Obj) (hX : X = .cells ((List.replicate n false).map Value.bool).toArray 4) (h : Oo w w0 o (List.replicate n false) 0 [] n) :
    Pz w (w0.alloc X) o w0.heap.size (List.replicate n false) (List.replicate n false) 0 0 n := by
  obtain ⟨hf, ⟨S, h1⟩, h2⟩ := h
  have hb := below_one w0 X
  refine ⟨by simp, hf, [], S, rfl, h1.kept hb, by rw [hX]; exact Lies.new w0 4 _, fun hS => ?_, h2.size, on h2 h2.size hb⟩
  have := (h1.lt _ hS).2; omega
end
end Go.Proofs.Ytpifnhfdbcckjaa
