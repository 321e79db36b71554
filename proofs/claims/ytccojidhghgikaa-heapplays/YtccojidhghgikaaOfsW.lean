/- The walk of HeapOfs, but for its two loops. -/
import Derived.Test.YtccojidhghgikaaROf2
import Derived.Test.YtccojidhghgikaaRefs
import Derived.Laws.AppendOwnNone
namespace Go.Proofs.Ytccojidhghgikaa
open Go.RowKit
set_option linter.unusedVariables false
set_option linter.unusedSimpArgs false

set_option maxHeartbeats 1000000 in
theorem rof_range (A : Option Addr) (n c : Nat) (t : Int) (w : World) (hb : ¬ (1 ≤ n ∧ n ≤ 65536 ∧ 0 ≤ t ∧ t ≤ n)) (hn : n ≤ 200) :
    Calls Try.prog 30 #[.slice A n c, .int .i64 t] w fun e w' => e = .returned (.tuple #[.agg #[.int .i64 0, .slice none 0 0], .int .i64 1]) ∧ Below w.heap.size w w' := by
  have d2 : decide ((65536 : Int) < (n : Int)) = false := by simp; omega
  by_cases h1 : n < 1
  · have d1 : decide ((n : Int) < 1) = true := by simp; omega
    go_enter Try.func30, Try.ntmps30
    go_wp2
    exact bodyPost_ret (v := .tuple #[.agg #[.int .i64 0, .slice none 0 0], .int .i64 1]) (by simp [results, Try.results30, go_sem]) rfl ⟨rfl, by
      repeat (first | exact Below.refl _ _ | refine Below.setCell ?_ (by simp <;> omega) _ | refine Below.alloc ?_ (by simp <;> omega) _)⟩
  · have d1 : decide ((n : Int) < 1) = false := by simp; omega
    by_cases h2 : t < 0
    · go_enter Try.func30, Try.ntmps30
      go_wp2
      exact bodyPost_ret (v := .tuple #[.agg #[.int .i64 0, .slice none 0 0], .int .i64 1]) (by simp [results, Try.results30, go_sem]) rfl ⟨rfl, by
        repeat (first | exact Below.refl _ _ | refine Below.setCell ?_ (by simp <;> omega) _ | refine Below.alloc ?_ (by simp <;> omega) _)⟩
    · have h3 : (n : Int) < t := by omega
      go_enter Try.func30, Try.ntmps30
      go_wp2
      exact bodyPost_ret (v := .tuple #[.agg #[.int .i64 0, .slice none 0 0], .int .i64 1]) (by simp [results, Try.results30, go_sem]) rfl ⟨rfl, by
        repeat (first | exact Below.refl _ _ | refine Below.setCell ?_ (by simp <;> omega) _ | refine Below.alloc ?_ (by simp <;> omega) _)⟩

set_option maxHeartbeats 1000000 in
theorem ofs_out (A : Option Addr) (n c : Nat) (t : Int) (w : World) (h : 200 < n) :
    Calls Try.prog 6 #[.slice A n c, .int .i64 t] w fun e w' => e = .returned (.bool true) ∧ Below w.heap.size w w' := by
  have d1 : decide ((200 : Int) < (n : Int)) = true := by simp; omega
  go_enter Try.func6, Try.ntmps6
  go_wp2_with fail
  refine (awake_any _).mono ?_
  rintro e w1 ⟨rfl, hb1⟩
  go_wp2_with fail
  refine (awake_any _).mono ?_
  rintro e w2 ⟨rfl, hb2⟩
  go_wp2
  go_ret
  exact ⟨rfl, on hb1 hb1.size hb2⟩

/-- Both answer an error: the words are no heap's. -/
def Bad (zs : List Int) (t : Int) : Prop := ¬ (1 ≤ zs.length ∧ zs.length ≤ 65536 ∧ 0 ≤ t ∧ t ≤ zs.length) ∨ ∃ top : Nat, t = top ∧ 1 ≤ zs.length ∧ top ≤ zs.length ∧ ¬ Parses (zs.take top)

theorem of_bad {zs : List Int} {t : Int} (hb : Bad zs t) (hwf : ∀ i, zs.getD i 0 < 9223372036854775808) (hn : zs.length ≤ 200) : ∃ x : Int, (x == 0) = false ∧
    (∀ A c w, Row w A zs → Calls Try.prog 29 #[.slice A zs.length c, .int .i64 t] w fun e w' => e = .returned (.tuple #[.pointer none, .int .i64 x]) ∧ Below w.heap.size w w') ∧
    (∀ A c w, Row w A zs → zs.length ≤ c → Calls Try.prog 30 #[.slice A zs.length c, .int .i64 t] w fun e w' => e = .returned (.tuple #[.agg #[.int .i64 0, .slice none 0 0], .int .i64 x]) ∧ Below w.heap.size w w') := by
  rcases hb with h | ⟨top, rfl, h1, h2, h3⟩
  · exact ⟨1, rfl, fun A c w _ => of_range A zs.length c t w h, fun A c w _ _ => rof_range A zs.length c t w h hn⟩
  · refine ⟨2, rfl, fun A c w hr => of_no A c top zs w hr h1 (by omega) h2 hwf h3, fun A c w hr hc => (rof_any A c top zs w hr h1 (by omega) h2 hc).mono ?_⟩
    rintro e w' ⟨⟨hp, _⟩ | ⟨_, he⟩, hb⟩
    · exact absurd hp h3
    · exact ⟨he, hb⟩

theorem own_new {B : Nat} (w : World) (hb : B ≤ w.heap.size) : (w.alloc (.cells #[] 3)).ownsRow B 3 1 (.slice (some ⟨w.heap.size, 0, none⟩) 0 0) 0 [] := by
  have := World.ownsRow_lit (base := B) (e := 3) (size := 1) w #[] 0 hb (by unfold maxLen; omega) rfl
  exact this

theorem row_news {w : World} {ad : Addr} {zs : List Int} (h : Row w (some ad) zs) : ∀ j u, (zs.map (Value.int .i64))[j]? = some u → w.cell? (ad.add j) = some u := fun j u hu => by
  have hj : 0 < zs.length := by
    have := (List.getElem?_eq_some_iff.1 hu).1
    simp at this; omega
  obtain ⟨ad', e, _, hc⟩ := h hj
  injection e with e
  subst e
  exact hc j u hu

set_option maxHeartbeats 1000000 in
theorem ofs_bad (A : Option Addr) (n c : Nat) (t : Int) (zs : List Int) (w : World) (hz : zs.length = n) (hr : Row w A zs) (hA : A = none → n = 0 ∧ c = 0) (hc : n ≤ c) (hwf : ∀ i, zs.getD i 0 < 9223372036854775808) (hn : n ≤ 200) (hb : Bad zs t) :
    Calls Try.prog 6 #[.slice A n c, .int .i64 t] w fun e w' => e = .returned (.bool true) ∧ Below w.heap.size w w' := by
  subst hz
  obtain ⟨x, hx, h29, h30⟩ := of_bad hb hwf hn
  have d1 : decide ((200 : Int) < (zs.length : Int)) = false := by simp; omega
  have hx' : (x != 0) = true := by simpa using hx
  have HR := Lib.hid hr
  have H29 := Lib.hid h29
  have H30 := Lib.hid h30
  have HC := Lib.hid hc
  have ne := nil_eq
  clear hr h29 h30 hb hwf hc
  obtain ⟨i0, hi, hz0, hz1, hz2⟩ := info_parts info3
  cases A with
  | none =>
    obtain ⟨h0, rfl⟩ := hA rfl
    rw [h0] at d1 H29 H30 HC ⊢
    go_enter Try.func6, Try.ntmps6
    go_wp2_with fail
    refine (awake_any _).mono ?_
    rintro e w1 ⟨rfl, hb1⟩
    have HO := Lib.hid (own_new (B := w1.heap.size) w1 (Nat.le_refl _))
    go_wp2_with (at_builtin; refine wpList_append_own_none rfl _ _ 51 rfl w1.heap.size 3 i0 1 Try.underlying51 hi _ 0 [] rfl HO.out rfl ?_)
    have b2 : Below w.heap.size w (w1.alloc (.cells #[] 3)) := hb1.alloc hb1.size _
    refine (H29.out _ _ _ (fun h => by rw [h0] at h; cases h)).mono ?_
    rintro e w3 ⟨rfl, hb3⟩
    have b3 := on b2 b2.size hb3
    go_wp2_with fail
    refine (H30.out _ _ _ (fun h => by rw [h0] at h; cases h) HC.out).mono ?_
    rintro e w4 ⟨rfl, hb4⟩
    have b4 := on b3 b3.size hb4
    have s4 := b4.size
    go_wp2
    go_ret
    exact ⟨rfl, b4.alloc s4 _⟩
  | some ad =>
    go_enter Try.func6, Try.ntmps6
    go_wp2_with fail
    refine (awake_any _).mono ?_
    rintro e w1 ⟨rfl, hb1⟩
    have HO := Lib.hid (own_new (B := w1.heap.size) w1 (Nat.le_refl _))
    have R1 := Lib.hid (HR.out.kept hb1)
    have R2 := Lib.hid ((HR.out.kept hb1).alloc (.cells #[] 3))
    go_wp2_with (at_builtin; go_loud (refine wpList_append_own _ rfl _ _ 51 rfl w1.heap.size 3 i0 (.int .i64 0) 1 8 Try.underlying51 hi hz0 hz1 hz2 rfl (by decide) _ 0 [] rfl HO.out ad zs.length c (zs.map (Value.int .i64)) rfl (by simp) (row_news R2.out) (ints_oneCell _ _) (by unfold maxLen; omega) (by omega) (by simp) ?_; intro v2 w2 O2 G2 _; have b2 := Lib.hid (below_own (hb1.alloc hb1.size (.cells #[] 3)) hb1.size (by have := hb1.size; simp; omega) HO.out G2); have HO2 := Lib.hid O2; clear O2 G2))
    have O2 := HO2.out
    rw [Nat.zero_add, List.nil_append] at O2
    obtain ⟨A', c', rfl, hR2⟩ := owns_row O2
    refine (H29.out _ _ _ hR2).mono ?_
    rintro e w3 ⟨rfl, hb3⟩
    have b3 := on b2.out b2.out.size hb3
    go_wp2_with fail
    refine (H30.out _ _ _ (HR.out.kept b3) HC.out).mono ?_
    rintro e w4 ⟨rfl, hb4⟩
    have b4 := on b3 b3.size hb4
    have s4 := b4.size
    clear O2 hR2
    go_wp2
    go_ret
    exact ⟨rfl, b4.alloc s4 _⟩
end Go.Proofs.Ytccojidhghgikaa
