/- An offer as a law holds it; the fixed fact that each statement begins with. -/
import Derived.Test.YtpifnhfdbcckjaaOv
namespace Go.Proofs.Ytpifnhfdbcckjaa
open Go.RowKit
set_option linter.unusedVariables false
set_option linter.unusedSimpArgs false

/-- How many are idle, of a row of so many workers. -/
def Fit (ids : List Bool) (k : Int) (n : Nat) : Prop := ids.length = n ∧ (ids.count true : Int) = k

section
variable {ids : List Bool} {k : Int} {n m : Nat}
theorem at_of (hm : m < ids.length) {b : Bool} (hb : ids.getD m false = b) : ids[m] = b := by simpa [List.getD, hm] using hb
theorem Fit.lo (h : Fit ids k n) : 0 ≤ k := by have := h.2; omega
theorem Fit.hi (h : Fit ids k n) : k ≤ n := by
  have h1 := h.1; have h2 := h.2
  have := List.count_le_length (a := true) (l := ids)
  omega
theorem Fit.on_ (h : Fit ids k n) (hm : m < n) (hb : ids.getD m false = false) : Fit (ids.set m true) (k + 1) n := by
  obtain ⟨h1, h2⟩ := h
  subst h1
  have e := at_of hm hb
  refine ⟨by simp, ?_⟩
  rw [List.count_set hm, e]
  simp
  omega
theorem Fit.off (h : Fit ids k n) (hm : m < n) (hb : ids.getD m false = true) : Fit (ids.set m false) (k - 1) n := by
  obtain ⟨h1, h2⟩ := h
  subst h1
  have e := at_of hm hb
  have hp : 0 < ids.count true := List.count_pos_iff.2 (e ▸ List.getElem_mem hm)
  refine ⟨by simp, ?_⟩
  rw [List.count_set hm, e]
  simp
  omega
theorem Fit.free (h : Fit ids k n) (hm : m < n) (hb : ids.getD m false = false) : k + 1 ≤ n := (h.on_ hm hb).hi
theorem Fit.taken (h : Fit ids k n) (hm : m < n) (hb : ids.getD m false = true) : 1 ≤ k := by have := (h.off hm hb).lo; omega
theorem Fit.full (h : Fit ids k n) (hk : k = n) (hm : m < n) : ids.getD m false = true := by
  cases hb : ids.getD m false
  · have := h.free hm hb; omega
  · rfl
theorem fit_new (n : Nat) : Fit (List.replicate n false) 0 n := ⟨by simp, by simp [List.count_replicate]⟩
theorem get_set_same (ids : List Bool) (m : Nat) (b : Bool) (hm : m < ids.length) : (ids.set m b).getD m false = b := by simp [List.getD, hm]
theorem get_set_other (ids : List Bool) (m j : Nat) (b : Bool) (h : m ≠ j) : (ids.set m b).getD j false = ids.getD j false := by simp [List.getD, List.getElem?_set, h]
theorem get_new (n j : Nat) : (List.replicate n false).getD j false = false := by
  simp [List.getD, List.getElem?_replicate]
  split <;> rfl
end

/-- An offer behind a law's beginning: whose it is isn't told. -/
def Oo (w wr : World) (o : Nat) (ids : List Bool) (k : Int) (ts : List Tc) (n : Nat) : Prop :=
  Fit ids k n ∧ (∃ S, Oq wr w.heap.size o ids k ts S) ∧ Below w.heap.size w wr

section
variable {w w0 w1 : World} {o n : Nat} {ids ids' : List Bool} {k k' : Int} {ts ts' : List Tc}
theorem Oo.fit (h : Oo w w0 o ids k ts n) : Fit ids k n := h.1
theorem Oo.low (h : Oo w w0 o ids k ts n) : Below w.heap.size w w0 := h.2.2
theorem Oo.kept (h : Oo w w0 o ids k ts n) (hb : Below w0.heap.size w0 w1) : Oo w w1 o ids k ts n := by
  obtain ⟨hf, ⟨S, h1⟩, h2⟩ := h
  exact ⟨hf, ⟨S, h1.kept hb⟩, on h2 h2.size hb⟩
theorem oo_step {P : Ending → Prop} {f : Nat} {args : Array Value} (h : Oo w w0 o ids k ts n) (hf : Fit ids' k' n)
    (hc : ∀ S, Oq w0 w.heap.size o ids k ts S → Calls Try.prog f args w0 fun e w' => P e ∧ Step w0 w' w.heap.size o S ids' k' ts') :
    Calls Try.prog f args w0 fun e w' => P e ∧ Oo w w' o ids' k' ts' n := by
  obtain ⟨_, ⟨S, h1⟩, h2⟩ := h
  refine (hc S h1).mono ?_
  rintro e w' ⟨he, s⟩
  have hb := s.below h1
  obtain ⟨S', s1, _⟩ := s
  exact ⟨he, hf, ⟨S', s1⟩, h2.trans hb⟩
theorem oo_same {P : Ending → Prop} {f : Nat} {args : Array Value} (h : Oo w w0 o ids k ts n)
    (hc : ∀ S, Oq w0 w.heap.size o ids k ts S → Calls Try.prog f args w0 fun e w' => P e ∧ w0 = w') :
    Calls Try.prog f args w0 fun e w' => P e ∧ w0 = w' := by
  obtain ⟨_, ⟨S, h1⟩, h2⟩ := h
  exact hc S h1
theorem oo_new (n : Nat) (w w0 : World) (h : Below w.heap.size w w0) (h1 : 1 ≤ n) (h2 : n ≤ 64) : Calls Try.prog 7 #[.int .i64 (n : Int)] w0 fun e w' => ∃ o, e = .returned (.tuple #[.pointer (some ⟨o, 0, none⟩), .int .i64 0]) ∧ Oo w w' o (List.replicate n false) 0 [] n := by
  refine (onew_yes n w0 w.heap.size h.size h1 h2).mono ?_
  rintro e w' ⟨o, S, he, hb, hq, _⟩
  exact ⟨o, he, fit_new n, ⟨S, hq⟩, on h h.size hb⟩
theorem oo_offer (h : Oo w w0 o ids k ts n) (m : Nat) (hm : m < n) (h64 : n ≤ 64) (hb : ids.getD m false = false) (hts : ts.length ≤ 30000) (b : Bool) (he : (k + 1 == (n : Int)) = b) :
    Calls Try.prog 8 #[.pointer (some ⟨o, 0, none⟩), .int .i64 m] w0 fun e w' => e = .returned (.tuple #[.bool b, .int .i64 0]) ∧ Oo w w' o (ids.set m true) (k + 1) (ts ++ [⟨m, 0, 4, k, k + 1⟩]) n := by
  have h0 := h.fit.lo; have h1 := h.fit.hi; have hl := h.fit.1
  exact oo_step h (h.fit.on_ hm hb) fun S hq => offer_yes hq m (by omega) (by omega) hb hts h0 (by omega) b (by rw [hl]; exact he)
theorem oo_offer_twice (h : Oo w w0 o ids k ts n) (m : Nat) (hm : m < n) (hb : ids.getD m false = true) :
    Calls Try.prog 8 #[.pointer (some ⟨o, 0, none⟩), .int .i64 m] w0 fun e w' => e = .returned (.tuple #[.bool false, .int .i64 9]) ∧ w0 = w' :=
  oo_same h fun S hq => offer_twice hq m (by have := h.fit.1; omega) hb
theorem oo_offer_none (h : Oo w w0 o ids k ts n) (i : Int) (hi : i < 0 ∨ n ≤ i) :
    Calls Try.prog 8 #[.pointer (some ⟨o, 0, none⟩), .int .i64 i] w0 fun e w' => e = .returned (.tuple #[.bool false, .int .i64 1]) ∧ w0 = w' :=
  oo_same h fun S hq => offer_none hq i (by have := h.fit.1; omega)
theorem oo_look (h : Oo w w0 o ids k ts n) (m : Nat) (hm : m < n) (h64 : n ≤ 64) (hts : ts.length ≤ 30000) :
    Calls Try.prog 9 #[.pointer (some ⟨o, 0, none⟩), .int .i64 m] w0 fun e w' => e = .returned (.tuple #[.int .i64 k, .int .i64 0]) ∧ Oo w w' o ids k (ts ++ [⟨m, 0, 1, k, k⟩]) n := by
  have hl := h.fit.1
  exact oo_step h h.fit fun S hq => look_yes hq m (by omega) (by omega) hts
theorem oo_look_none (h : Oo w w0 o ids k ts n) (i : Int) (hi : i < 0 ∨ n ≤ i) :
    Calls Try.prog 9 #[.pointer (some ⟨o, 0, none⟩), .int .i64 i] w0 fun e w' => e = .returned (.tuple #[.int .i64 0, .int .i64 1]) ∧ w0 = w' :=
  oo_same h fun S hq => look_none hq i (by have := h.fit.1; omega)
theorem oo_back (h : Oo w w0 o ids k ts n) (m : Nat) (hm : m < n) (h64 : n ≤ 64) (hb : ids.getD m false = true) (hts : ts.length ≤ 30000) (seen : Int) (he : seen ≠ n) (hs : k = seen) :
    Calls Try.prog 10 #[.pointer (some ⟨o, 0, none⟩), .int .i64 m, .int .i64 seen] w0 fun e w' => e = .returned (.int .i64 0) ∧ Oo w w' o (ids.set m false) (k - 1) (ts ++ [⟨m, 0, 3, k, k - 1⟩]) n := by
  have h0 := h.fit.lo; have h1 := h.fit.hi; have hl := h.fit.1
  exact oo_step h (h.fit.off hm hb) fun S hq => back_yes hq m seen (by omega) (by omega) hb (by omega) hs h0 (by omega) hts
theorem oo_back_lost (h : Oo w w0 o ids k ts n) (m : Nat) (hm : m < n) (h64 : n ≤ 64) (hb : ids.getD m false = true) (hts : ts.length ≤ 30000) (seen : Int) (he : seen ≠ n) (hs : k ≠ seen) :
    Calls Try.prog 10 #[.pointer (some ⟨o, 0, none⟩), .int .i64 m, .int .i64 seen] w0 fun e w' => e = .returned (.int .i64 8) ∧ Oo w w' o ids k (ts ++ [⟨m, 0, 3, k, k⟩]) n := by
  have hl := h.fit.1
  exact oo_step h h.fit fun S hq => back_lost hq m seen (by omega) (by omega) hb (by omega) hs hts
theorem oo_back_end (h : Oo w w0 o ids k ts n) (m : Nat) (hm : m < n) (hb : ids.getD m false = true) (seen : Int) (he : seen = n) :
    Calls Try.prog 10 #[.pointer (some ⟨o, 0, none⟩), .int .i64 m, .int .i64 seen] w0 fun e w' => e = .returned (.int .i64 12) ∧ w0 = w' :=
  oo_same h fun S hq => back_end hq m seen (by have := h.fit.1; omega) hb (by have := h.fit.1; omega)
theorem oo_back_order (h : Oo w w0 o ids k ts n) (m : Nat) (hm : m < n) (hb : ids.getD m false = false) (seen : Int) :
    Calls Try.prog 10 #[.pointer (some ⟨o, 0, none⟩), .int .i64 m, .int .i64 seen] w0 fun e w' => e = .returned (.int .i64 9) ∧ w0 = w' :=
  oo_same h fun S hq => back_order hq m seen (by have := h.fit.1; omega) hb
theorem oo_back_none (h : Oo w w0 o ids k ts n) (i : Int) (hi : i < 0 ∨ n ≤ i) (seen : Int) :
    Calls Try.prog 10 #[.pointer (some ⟨o, 0, none⟩), .int .i64 i, .int .i64 seen] w0 fun e w' => e = .returned (.int .i64 1) ∧ w0 = w' :=
  oo_same h fun S hq => back_none hq i seen (by have := h.fit.1; omega)
theorem oo_over (h : Oo w w0 o ids k ts n) (b : Bool) (he : (k == (n : Int)) = b) :
    Calls Try.prog 11 #[.pointer (some ⟨o, 0, none⟩)] w0 fun e w' => e = .returned (.bool b) ∧ Oo w w' o ids k ts n := by
  have hl := h.fit.1
  refine oo_step h h.fit fun S hq => (over_any hq b (by rw [hl]; exact he)).mono ?_
  rintro e w' ⟨rfl, hb⟩
  exact ⟨rfl, same_step hq hb⟩
theorem oo_idle (h : Oo w w0 o ids k ts n) (m : Nat) (hm : m < n) (b : Bool) (hb : ids.getD m false = b) :
    Calls Try.prog 12 #[.pointer (some ⟨o, 0, none⟩), .int .i64 m] w0 fun e w' => e = .returned (.bool b) ∧ w0 = w' :=
  oo_same h fun S hq => idle_yes hq m (by have := h.fit.1; omega) b hb
theorem oo_idle_none (h : Oo w w0 o ids k ts n) (i : Int) (hi : i < 0 ∨ n ≤ i) :
    Calls Try.prog 12 #[.pointer (some ⟨o, 0, none⟩), .int .i64 i] w0 fun e w' => e = .returned (.bool false) ∧ w0 = w' :=
  oo_same h fun S hq => idle_no hq i (by have := h.fit.1; omega)
end

theorem nil24 (w : World) (g : Nat) : (binOp .eql 24 (.pointer (some ⟨g, 0, none⟩)) (.pointer none)).run Try.prog w = .ok (.bool false) w := by kernel_rfl

set_option maxHeartbeats 4000000 in
theorem awake_any (w : World) : Calls Try.prog 6 #[] w fun e w' => e = .returned (.bool true) ∧ Below w.heap.size w w' := by
  have hnil := nil24
  go_enter Try.func6, Try.ntmps6
  go_wp2_with fail
  refine (oo_new 1 w w (Below.refl _ _) (by omega) (by omega)).mono ?_
  rintro e w1 ⟨o, rfl, H1⟩
  have HH1 := Lib.hid H1
  clear H1
  go_wp2_with fail
  refine (oo_over HH1.out false (by decide)).mono ?_
  rintro e w2 ⟨rfl, H2⟩
  have HH2 := Lib.hid H2
  clear H2 HH1
  go_wp2_with fail
  refine (oo_offer HH2.out 0 (by omega) (by omega) rfl (by simp) true (by decide)).mono ?_
  rintro e w3 ⟨rfl, H3⟩
  have HH3 := Lib.hid H3
  clear H3 HH2
  go_wp2_with fail
  refine (oo_over HH3.out true (by decide)).mono ?_
  rintro e w4 ⟨rfl, H4⟩
  have HH4 := Lib.hid H4
  clear H4 HH3
  go_wp2_with fail
  refine (oo_idle HH4.out 0 (by omega) true rfl).mono ?_
  rintro e w5 ⟨rfl, rfl⟩
  have HB := Lib.hid HH4.out.low
  clear HH4
  go_wp2
  go_ret
  exact ⟨rfl, HB.out⟩
end Go.Proofs.Ytpifnhfdbcckjaa
