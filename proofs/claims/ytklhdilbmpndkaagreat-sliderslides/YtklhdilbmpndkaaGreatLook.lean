/- What the calls that only look at a heap do: Size, Top, Head, Read, and what leads astray. -/
import Derived.Test.YtklhdilbmpndkaaGreatGa
namespace Go.Proofs.YtklhdilbmpndkaaGreat
set_option maxRecDepth 20000
open Go.RowKit
set_option linter.unusedVariables false

set_option maxHeartbeats 1000000 in
theorem head_yes {w : World} {g gw gb : Nat} {zs : List Int} {top : Nat} {bs : List Bool} (h : HeapAt w g gw gb zs top bs) (i : Nat) (hi : i < top) (hb : bs.getD i false = true) (n : Int) (hn : zs.getD i 0 = n) (hh : headB n = true) :
    Calls Tryz.prog 77 #[.pointer (some ⟨g, 0, none⟩), .int .i64 i] w fun e w' =>
      e = .returned (.tuple #[.agg #[.int .i64 (n % 16), .int .i64 (n / 65536), .int .i64 (n % 65536 / 16)], .int .i64 0]) ∧ Below w.heap.size w w' := by
  have hc0 := h.c0
  have hc1 := h.c1
  have hc2 := h.c2
  have hl := h.fits
  have hm := h.most
  have hi' : i < zs.length := by omega
  have hw := h.w_at hi'
  have hbb := h.b_at hi'
  rw [hn] at hw
  rw [hb] at hbb
  have hg1 := h.own.lt
  have hg2 := h.words.lt
  have hg3 := h.begins.lt
  clear hn hb
  go_enter Tryz.func77, Tryz.ntmps77
  go_wp2_with fail
  refine (unpack_yes n _ hh).mono ?_
  rintro e w2 ⟨rfl, hb2⟩
  obtain ⟨hk, hf⟩ := kept hb2
  have hz : w.heap.size < w2.heap.size := by have := hb2.size; simp at this; omega
  go_wp2
  refine bodyPost_ret (v := .tuple #[.agg #[.int .i64 (n % 16), .int .i64 (n / 65536), .int .i64 (n % 65536 / 16)], .int .i64 0]) ?_ rfl ⟨rfl, ?_⟩
  · simp [results, Tryz.results77, go_sem, hk]
  · exact (((on ((Below.refl _ _).alloc (Nat.le_refl _) _) (by simp) hb2).setCell (Nat.le_refl _) _).setCell (Nat.le_refl _) _).setCell (Nat.le_refl _) _

set_option maxHeartbeats 1000000 in
theorem head_no {w : World} {g gw gb : Nat} {zs : List Int} {top : Nat} {bs : List Bool} (h : HeapAt w g gw gb zs top bs) (a : Int) (hn : a < 0 ∨ (top : Int) ≤ a ∨ bs.getD a.toNat false = false) :
    Calls Tryz.prog 77 #[.pointer (some ⟨g, 0, none⟩), .int .i64 a] w fun e w' =>
      e = .returned (.tuple #[.agg #[.int .i64 0, .int .i64 0, .int .i64 0], .int .i64 3]) ∧ Below w.heap.size w w' := by
  have hc0 := h.c0
  have hc1 := h.c1
  have hc2 := h.c2
  have hl := h.fits
  have hm := h.most
  have hg1 := h.own.lt
  have hg3 := h.begins.lt
  by_cases h1 : a < 0
  · go_enter Tryz.func77, Tryz.ntmps77
    go_wp2
    exact bodyPost_ret (v := .tuple #[.agg #[.int .i64 0, .int .i64 0, .int .i64 0], .int .i64 3]) (by simp [results, Tryz.results77, go_sem]) rfl ⟨rfl, by
      repeat (first | exact Below.refl _ _ | refine Below.setCell ?_ (by simp <;> omega) _ | refine Below.alloc ?_ (by simp <;> omega) _)⟩
  by_cases h2 : (top : Int) ≤ a
  · go_enter Tryz.func77, Tryz.ntmps77
    go_wp2
    exact bodyPost_ret (v := .tuple #[.agg #[.int .i64 0, .int .i64 0, .int .i64 0], .int .i64 3]) (by simp [results, Tryz.results77, go_sem]) rfl ⟨rfl, by
      repeat (first | exact Below.refl _ _ | refine Below.setCell ?_ (by simp <;> omega) _ | refine Below.alloc ?_ (by simp <;> omega) _)⟩
  obtain ⟨i, rfl⟩ := Int.eq_ofNat_of_zero_le (by omega : 0 ≤ a)
  have hi' : i < zs.length := by omega
  have hbb := h.b_at hi'
  rw [show bs.getD i false = false by simpa [h1, h2] using hn] at hbb
  have hi : i < top := by omega
  clear hn h1 h2
  go_enter Tryz.func77, Tryz.ntmps77
  go_wp2
  exact bodyPost_ret (v := .tuple #[.agg #[.int .i64 0, .int .i64 0, .int .i64 0], .int .i64 3]) (by simp [results, Tryz.results77, go_sem]) rfl ⟨rfl, by
      repeat (first | exact Below.refl _ _ | refine Below.setCell ?_ (by simp <;> omega) _ | refine Below.alloc ?_ (by simp <;> omega) _)⟩

theorem size_any {w : World} {g gw gb : Nat} {zs : List Int} {top : Nat} {bs : List Bool} (h : HeapAt w g gw gb zs top bs) :
    Calls Tryz.prog 15 #[.pointer (some ⟨g, 0, none⟩)] w fun e w' => e = .returned (.int .i64 zs.length) ∧ w = w' := by
  have hc0 := h.c0
  go_enter Tryz.func15, Tryz.ntmps15
  go_wp2
  go_ret
  exact ⟨rfl, rfl⟩

theorem top_any {w : World} {g gw gb : Nat} {zs : List Int} {top : Nat} {bs : List Bool} (h : HeapAt w g gw gb zs top bs) :
    Calls Tryz.prog 18 #[.pointer (some ⟨g, 0, none⟩)] w fun e w' => e = .returned (.int .i64 top) ∧ w = w' := by
  have hc1 := h.c1
  go_enter Tryz.func18, Tryz.ntmps18
  go_wp2
  go_ret
  exact ⟨rfl, rfl⟩

theorem room_any (k l p : Int) (w : World) (h0 : 0 ≤ l) (h1 : l ≤ 4095) :
    Calls Tryz.prog 74 #[.agg #[.int .i64 k, .int .i64 l, .int .i64 p]] w fun e w' => e = .returned (.int .i64 (1 + l)) ∧ w' = w.alloc (.cells #[.int .i64 k, .int .i64 l, .int .i64 p] 64) := by
  go_enter Tryz.func74, Tryz.ntmps74
  go_wp2
  go_ret
  exact ⟨rfl, rfl⟩

theorem hasField_any (k l p f : Int) (w : World) :
    Calls Tryz.prog 78 #[.agg #[.int .i64 k, .int .i64 l, .int .i64 p], .int .i64 f] w fun e w' => e = .returned (.bool (decide (0 ≤ f ∧ f < l))) ∧ w' = w.alloc (.cells #[.int .i64 k, .int .i64 l, .int .i64 p] 64) := by
  by_cases h0 : 0 ≤ f
  · by_cases h1 : f < l
    · go_enter Tryz.func78, Tryz.ntmps78
      go_wp2
      go_ret
      exact ⟨ret_bool (by simp; omega), rfl⟩
    · go_enter Tryz.func78, Tryz.ntmps78
      go_wp2
      go_ret
      exact ⟨ret_bool (by simp; omega), rfl⟩
  · go_enter Tryz.func78, Tryz.ntmps78
    go_wp2
    go_ret
    exact ⟨ret_bool (by simp; omega), rfl⟩

theorem maySize_any (n : Int) (w : World) :
    Calls Tryz.prog 39 #[.int .i64 n] w fun e w' => e = .returned (.bool (decide (1 ≤ n ∧ n ≤ 65536))) ∧ w = w' := by
  by_cases h0 : 1 ≤ n
  · by_cases h1 : n ≤ 65536
    · go_enter Tryz.func39, Tryz.ntmps39
      go_wp2
      go_ret
      exact ⟨ret_bool (by simp; omega), rfl⟩
    · go_enter Tryz.func39, Tryz.ntmps39
      go_wp2
      go_ret
      exact ⟨ret_bool (by simp; omega), rfl⟩
  · go_enter Tryz.func39, Tryz.ntmps39
    go_wp2
    go_ret
    exact ⟨ret_bool (by simp; omega), rfl⟩

/-- Where something begins there is a head, and all of it is ahead of the top. -/
def Sound (zs : List Int) (top : Nat) (bs : List Bool) : Prop :=
  ∀ i, i < top → bs.getD i false = true → headB (zs.getD i 0) = true ∧ i + 1 + (zs.getD i 0 / 65536).toNat ≤ top

/-- Does an object, or a filler, begin there? -/
def startB (top : Nat) (bs : List Bool) (a : Int) : Bool := decide (0 ≤ a ∧ a < top) && bs.getD a.toNat false

/-- Is a word neither 0 nor an object's? -/
def astrayB (zs : List Int) (top : Nat) (bs : List Bool) (n : Int) : Bool := !(n == 0) && (!(startB top bs (n - 1)) || zs.getD (n - 1).toNat 0 % 16 == 15)

theorem start_nat {top : Nat} {bs : List Bool} {a : Int} (h : startB top bs a = true) : ∃ i : Nat, a = i ∧ i < top ∧ bs.getD i false = true := by
  unfold startB at h
  simp at h
  obtain ⟨⟨h0, h1⟩, h2⟩ := h
  obtain ⟨i, rfl⟩ := Int.eq_ofNat_of_zero_le h0
  exact ⟨i, rfl, by omega, by simpa using h2⟩
theorem start_not {top : Nat} {bs : List Bool} {a : Int} (h : startB top bs a = false) : a < 0 ∨ (top : Int) ≤ a ∨ bs.getD a.toNat false = false := by
  unfold startB at h
  by_cases h0 : a < 0
  · exact .inl h0
  by_cases h1 : (top : Int) ≤ a
  · exact .inr (.inl h1)
  refine .inr (.inr ?_)
  rw [decide_eq_true (by omega : 0 ≤ a ∧ a < top)] at h
  simpa using h

set_option maxHeartbeats 1000000 in
theorem astray_any {w : World} {g gw gb : Nat} {zs : List Int} {top : Nat} {bs : List Bool} (h : HeapAt w g gw gb zs top bs) (hs : Sound zs top bs) (n : Int) (hn : -9223372036854775808 ≤ n) (hn' : n ≤ 9223372036854775807) :
    Calls Tryz.prog 79 #[.pointer (some ⟨g, 0, none⟩), .int .i64 n] w fun e w' => e = .returned (.bool (astrayB zs top bs n)) ∧ Below w.heap.size w w' := by
  by_cases h0 : n = 0
  · subst h0
    go_enter Tryz.func79, Tryz.ntmps79
    go_wp2
    go_ret
    exact ⟨ret_bool rfl, Below.refl _ _⟩
  have h0' : (n == 0) = false := by simp [h0]
  have hA : astrayB zs top bs n = (!(startB top bs (n - 1)) || zs.getD (n - 1).toNat 0 % 16 == 15) := by unfold astrayB; rw [h0']; simp
  by_cases hmin : n = -9223372036854775808
  · have hA' : astrayB zs top bs n = true := by
      have : startB top bs (n - 1) = false := by unfold startB; rw [decide_eq_false (by omega)]; rfl
      rw [hA, this]; rfl
    have hmin' : n ≤ -9223372036854775808 := by omega
    have hl := h.fits
    have hm := h.most
    clear hA hmin
    have hw : (top : Int) ≤ wrap64 (n - 1) := by
      unfold wrap64
      omega
    go_enter Tryz.func79, Tryz.ntmps79
    go_wp2_with fail
    refine (head_no h _ (.inr (.inl hw))).mono ?_
    rintro e w2 ⟨rfl, hb2⟩
    go_wp2
    go_ret
    exact ⟨ret_bool hA'.symm, hb2.alloc hb2.size _⟩
  have hlo : -9223372036854775808 ≤ n - 1 := by omega
  cases hst : startB top bs (n - 1) with
  | false =>
    have hA' : astrayB zs top bs n = true := by rw [hA, hst]; rfl
    go_enter Tryz.func79, Tryz.ntmps79
    go_wp2_with fail
    refine (head_no h _ (start_not hst)).mono ?_
    rintro e w2 ⟨rfl, hb2⟩
    go_wp2
    go_ret
    exact ⟨ret_bool hA'.symm, hb2.alloc hb2.size _⟩
  | true =>
    obtain ⟨i, hi, hi1, hi2⟩ := start_nat hst
    obtain ⟨hh, _⟩ := hs i hi1 hi2
    obtain rfl : n = (i : Int) + 1 := by omega
    have hA' : astrayB zs top bs ((i : Int) + 1) = (zs.getD i 0 % 16 == 15) := by rw [hA, hst, hi]; simp
    generalize hz : zs.getD i 0 = z at *
    clear hA hi hst
    cases hk : z % 16 == 15 with
    | false =>
      rw [hk] at hA'
      go_enter Tryz.func79, Tryz.ntmps79
      go_wp2_with fail
      refine (head_yes h i hi1 hi2 z hz hh).mono ?_
      rintro e w2 ⟨rfl, hb2⟩
      go_wp2
      go_ret
      exact ⟨ret_bool hA'.symm, hb2.alloc hb2.size _⟩
    | true =>
      rw [hk] at hA'
      go_enter Tryz.func79, Tryz.ntmps79
      go_wp2_with fail
      refine (head_yes h i hi1 hi2 z hz hh).mono ?_
      rintro e w2 ⟨rfl, hb2⟩
      go_wp2
      go_ret
      exact ⟨ret_bool hA'.symm, hb2.alloc hb2.size _⟩
end Go.Proofs.YtklhdilbmpndkaaGreat
