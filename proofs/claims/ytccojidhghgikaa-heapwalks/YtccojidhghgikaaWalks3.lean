/- The walk of HeapWalks, where there is a heap. -/
import Derived.Test.YtccojidhghgikaaWalks2
namespace Go.Proofs.Ytccojidhghgikaa
open Go.RowKit
set_option linter.unusedVariables false
set_option linter.unusedSimpArgs false

theorem HeapAt.drewN {w : World} {g gw gb : Nat} {zs : List Int} {top : Nat} {bs : List Bool} (h : HeapAt w g gw gb zs top bs) (n : Nat) : HeapAt (w.drewN n) g gw gb zs top bs :=
  ⟨h.own, h.words, h.begins, h.same, h.some_, h.most, h.fits⟩

set_option maxRecDepth 100000 in
set_option maxHeartbeats 4000000 in
theorem walks_yes (A : Option Addr) (c m : Nat) (zs : List Int) (w : World) (hr : Row w A zs) (h0 : 1 ≤ zs.length) (h1 : zs.length ≤ 200) (hm : m ≤ 255) (hp : Parses zs) :
    Calls Try.prog 8 #[.slice A zs.length c, .int .u8 (m : Int)] w fun e w' => e = .returned (.bool true) ∧ Below w.heap.size w w' := by
  have d1 : decide ((200 : Int) < (zs.length : Int)) = false := by simp; omega
  have HP := Lib.hid hp
  have HR := Lib.hid hr
  clear hp hr
  go_enter Try.func8, Try.ntmps8
  go_wp2_with fail
  refine (awake_any _).mono ?_
  rintro e w1 ⟨rfl, hb1⟩
  have B1 : Below w.heap.size w w1 := on ((Below.refl _ _).alloc (Nat.le_refl _) _) (by simp) hb1
  have M1 := (Lies.new w 5 [.int .u8 (m : Int)]).below hb1 (by simp)
  have R1 : Row w1 A zs := HR.out.kept B1
  clear hb1
  go_wp2_with fail
  refine (of_yes A c zs.length zs w1 R1 h0 (by omega) (Nat.le_refl _) (by rw [List.take_of_length_le (Nat.le_refl _)]; exact HP.out)).mono ?_
  rintro e w2 ⟨g, gw, gb, obs, rfl, hb2, g1, g2, g3, hfine, hflat, H2⟩
  have B2 : Below w.heap.size w w2 := on B1 B1.size hb2
  have M2 := M1.below hb2 M1.lt
  have S2 : St w2 g gw gb obs [] := by
    rw [List.take_of_length_le (Nat.le_refl _)] at hflat
    rw [← hflat, Nat.sub_self] at H2
    exact ⟨hfine, by simpa using H2⟩
  have HFl := Lib.hid hflat
  have q1 : w.heap.size < w2.heap.size := M2.lt
  clear hb2 g1 g2 g3 hflat R1 H2 hfine B1 M1
  go_wp2_with fail
  refine walk_any.mono ?_
  rintro e w3 ⟨rfl, rfl⟩
  have J0 : J1 w g gw gb (w2.heap.size + 1 + 1) w2.heap.size w.heap.size (w2.heap.size + 1) m obs [] (((w2.alloc (.cells #[.pointer (some ⟨g, 0, none⟩)] 36)).alloc (.cells #[.int .i64 0] 3)).alloc (.cells #[.pointer (some ⟨g, 0, none⟩)] 36)) := by
    refine ⟨((S2.alloc _).alloc _).alloc _, ?_, ((Lies.new w2 36 [.pointer (some ⟨g, 0, none⟩)]).alloc _).alloc _, ((M2.alloc _).alloc _).alloc _, ?_, ((B2.alloc B2.size _).alloc (by simp; omega) _).alloc (by simp; omega) _⟩
    · have := Lies.new ((w2.alloc (.cells #[.pointer (some ⟨g, 0, none⟩)] 36)).alloc (.cells #[.int .i64 0] 3)) 36 [.pointer (some ⟨g, 0, none⟩)]
      simpa using this
    · have := (Lies.new (w2.alloc (.cells #[.pointer (some ⟨g, 0, none⟩)] 36)) 3 [.int .i64 0]).alloc (.cells #[.pointer (some ⟨g, 0, none⟩)] 36)
      simpa using this
  have z1 := S2.lies.words.lt
  have z2 := S2.lies.begins.lt
  have HC := Lib.hid (walk1 35 #[.pointer (some ⟨w2.heap.size + 1, 0, none⟩)] g gw gb (w2.heap.size + 1 + 1) (w2.heap.size + 1 + 1) obs [] (J1 w g gw gb (w2.heap.size + 1 + 1) w2.heap.size w.heap.size (w2.heap.size + 1) m obs) (fun _ _ => False)
    (fun pre W hj => ⟨hj.st, hj.walk⟩) (fun pre W W' hj hb => hj.kept hb)
    (fun pre o post W he hj => (hj.step he (by omega) (by omega) _ _ _ _).mono fun e W' h => .inl h) enter35 _ (by simp) J0)
  go_wp2_with fail
  refine HC.out.mono ?_
  clear HC J0
  rintro e w4 ⟨rfl, (hj4 | ⟨_, _, _, _, hf⟩)⟩
  rotate_left
  · exact hf.elim
  have y0 : w4.cell? ⟨w2.heap.size, 0, none⟩ = some (.pointer (some ⟨g, 0, none⟩)) := hj4.box.cell 0
  have y1 := hj4.box.lt
  have y2 : ¬ w2.heap.size = w4.heap.size := by omega
  have y3 : ¬ w2.heap.size = w4.heap.size + 1 := by omega
  have y4 : ¬ w2.heap.size = w4.heap.size + 1 + 1 := by omega
  have y5 : w2.heap.size < w4.heap.size + 1 := by omega
  have y6 : w2.heap.size < w4.heap.size + 1 + 1 := by omega
  go_wp2_with fail
  refine walk_any.mono ?_
  rintro e w5 ⟨rfl, rfl⟩
  have J0 : J2 w g gw gb (w4.heap.size + 1 + 1 + 1) w2.heap.size w.heap.size (w2.heap.size + 1) w4.heap.size (w4.heap.size + 1) (w4.heap.size + 1 + 1) m obs []
      ((((w4.alloc (.cells #[.int .i64 0] 3)).alloc (.cells #[.int .i64 0] 3)).alloc (.cells #[.bool true] 4)).alloc (.cells #[.pointer (some ⟨g, 0, none⟩)] 36)) := by
    have zz := hj4.old.size
    refine ⟨(((hj4.st.alloc _).alloc _).alloc _).alloc _, ?_, (((hj4.box.alloc _).alloc _).alloc _).alloc _, (((hj4.most.alloc _).alloc _).alloc _).alloc _, (((hj4.count.alloc _).alloc _).alloc _).alloc _,
      (((Lies.new w4 3 [.int .i64 0]).alloc _).alloc _).alloc _, ?_, ?_, (((hj4.old.alloc zz _).alloc (by simp; omega) _).alloc (by simp; omega) _).alloc (by simp; omega) _⟩
    · have := Lies.new (((w4.alloc (.cells #[.int .i64 0] 3)).alloc (.cells #[.int .i64 0] 3)).alloc (.cells #[.bool true] 4)) 36 [.pointer (some ⟨g, 0, none⟩)]
      simpa using this
    · have := ((Lies.new (w4.alloc (.cells #[.int .i64 0] 3)) 3 [.int .i64 0]).alloc (.cells #[.bool true] 4)).alloc (.cells #[.pointer (some ⟨g, 0, none⟩)] 36)
      simpa [flat_nil] using this
    · have := (Lies.new ((w4.alloc (.cells #[.int .i64 0] 3)).alloc (.cells #[.int .i64 0] 3)) 4 [.bool true]).alloc (.cells #[.pointer (some ⟨g, 0, none⟩)] 36)
      simpa using this
  have u1 := hj4.st.lies.words.lt
  have u2 := hj4.st.lies.begins.lt
  have u3 := hj4.count.lt
  have u4 := hj4.old.size
  have hobs : obs ≠ [] := by
    rintro rfl
    have := S2.lies.some_
    simp [flat_nil] at this
  have HC := Lib.hid (walk1 36 #[.pointer (some ⟨w4.heap.size, 0, none⟩), .pointer (some ⟨w2.heap.size, 0, none⟩), .pointer (some ⟨w4.heap.size + 1 + 1, 0, none⟩), .pointer (some ⟨w4.heap.size + 1, 0, none⟩), .pointer (some ⟨w.heap.size, 0, none⟩)] g gw gb (w4.heap.size + 1 + 1 + 1) (w4.heap.size + 1 + 1 + 1) obs []
    (fun pre W => J2 w g gw gb (w4.heap.size + 1 + 1 + 1) w2.heap.size w.heap.size (w2.heap.size + 1) w4.heap.size (w4.heap.size + 1) (w4.heap.size + 1 + 1) m obs pre W ∧ (pre = [] ∨ pre.length < m))
    (fun pre W => J2 w g gw gb (w4.heap.size + 1 + 1 + 1) w2.heap.size w.heap.size (w2.heap.size + 1) w4.heap.size (w4.heap.size + 1) (w4.heap.size + 1 + 1) m obs pre W ∧ m ≤ pre.length ∧ (pre.length = 1 ∨ pre.length ≤ m))
    (fun pre W hj => ⟨hj.1.st, hj.1.walk⟩) (fun pre W W' hj hb => ⟨hj.1.kept hb, hj.2⟩)
    (fun pre o post W he hj => (hj.1.step he hm (by omega) (by omega) (by omega) (by omega) (by omega) (by omega) (by omega) (by omega) (by omega) (w4.heap.size + 1 + 1 + 1) (by omega) (by omega) (by omega)).mono fun e W' ⟨h1, h2, h3⟩ => by
      by_cases hlt : pre.length + 1 < m
      · exact .inl ⟨by rw [h1, decide_eq_true hlt], ⟨h2, .inr (by simpa using hlt)⟩, h3⟩
      · refine .inr ⟨by rw [h1, decide_eq_false hlt], h2, by simp; omega, ?_⟩
        rcases hj.2 with h4 | h4
        · left; simp [h4]
        · right; simp; omega) enter36 _ (by simp) ⟨J0, .inl rfl⟩)
  go_wp2_with fail
  refine HC.out.mono ?_
  clear HC J0
  rintro e w6 ⟨rfl, hfin⟩
  obtain ⟨pre, hj6, hle, hcnt⟩ : ∃ pre, J2 w g gw gb (w4.heap.size + 1 + 1 + 1) w2.heap.size w.heap.size (w2.heap.size + 1) w4.heap.size (w4.heap.size + 1) (w4.heap.size + 1 + 1) m obs pre w6 ∧ (flat pre).length ≤ (flat obs).length ∧ pre.length = min obs.length (max m 1) := by
    rcases hfin with ⟨h1, h2⟩ | ⟨pre, o, post, he, h1, h2, h3⟩
    · refine ⟨obs, h1, Nat.le_refl _, ?_⟩
      have h4 := h2.resolve_left hobs
      omega
    · refine ⟨pre ++ [o], h1, by rw [he]; simp [flat_append, flat_cons, flat_nil], ?_⟩
      have h4 := pre_len he
      rw [List.length_append, List.length_singleton] at h2 h3 ⊢
      omega
  have c1 : w6.cell? ⟨w4.heap.size, 0, none⟩ = some (.int .i64 (pre.length : Nat)) := hj6.n.cell 0
  have c2 : w6.cell? ⟨w2.heap.size, 0, none⟩ = some (.pointer (some ⟨g, 0, none⟩)) := hj6.box.cell 0
  have c3 : w6.cell? ⟨w4.heap.size + 1 + 1, 0, none⟩ = some (.bool true) := hj6.ok.cell 0
  have c4 : w6.cell? ⟨w4.heap.size + 1, 0, none⟩ = some (.int .i64 ((flat pre).length : Nat)) := hj6.at_.cell 0
  have c5 : w6.cell? ⟨w.heap.size, 0, none⟩ = some (.int .u8 (m : Int)) := hj6.most.cell 0
  have c6 : w6.cell? ⟨w2.heap.size + 1, 0, none⟩ = some (.int .i64 (obs.length : Nat)) := hj6.count.cell 0
  have HCnt := Lib.hid hcnt
  clear y0 y1 y2 y3 y4 y5 y6 hfin hcnt
  have e1 : IntKind.i64.wrap (m : Int) = (m : Int) := IntWalk.i64_in _ (by omega)
  have e9 : decide ((flat pre).length ≤ (flat obs).length) = true := decide_eq_true hle
  by_cases hm0 : m < 1
  · have hm1 : (m : Int) < 1 := by omega
    by_cases hlt : 1 < obs.length
    · have e2 : ((pre.length : Int) == 1) = true := by have := HCnt.out; rw [beq_iff_eq]; omega
      have e3 : (1 : Int) < (obs.length : Int) := by omega
      go_wp2_with fail
      go_quiet ((go_at_call 37; exact Calls.quiet_of_same ((top_any (hj6.st.lies.drewN _)).mono fun _ _ h => ⟨h.1, h.2.symm⟩)))
      go_wp2
      go_ret
      exact ⟨rfl, hj6.old.trans ⟨rfl, rfl, rfl, Nat.le_refl _, fun _ _ => rfl⟩⟩
    · have e2 : ((pre.length : Int) == (obs.length : Int)) = true := by have := HCnt.out; rw [beq_iff_eq]; omega
      have e3 : ¬ (1 : Int) < (obs.length : Int) := by omega
      go_wp2_with fail
      go_quiet ((go_at_call 37; exact Calls.quiet_of_same ((top_any (hj6.st.lies.drewN _)).mono fun _ _ h => ⟨h.1, h.2.symm⟩)))
      go_wp2
      go_ret
      exact ⟨rfl, hj6.old.trans ⟨rfl, rfl, rfl, Nat.le_refl _, fun _ _ => rfl⟩⟩
  · have hm1 : ¬ (m : Int) < 1 := by omega
    by_cases hlt : m < obs.length
    · have e2 : ((pre.length : Int) == (m : Int)) = true := by have := HCnt.out; rw [beq_iff_eq]; omega
      go_wp2_with fail
      go_quiet ((go_at_call 37; exact Calls.quiet_of_same ((top_any (hj6.st.lies.drewN _)).mono fun _ _ h => ⟨h.1, h.2.symm⟩)))
      go_wp2
      go_ret
      exact ⟨rfl, hj6.old.trans ⟨rfl, rfl, rfl, Nat.le_refl _, fun _ _ => rfl⟩⟩
    · have e2 : ((pre.length : Int) == (obs.length : Int)) = true := by have := HCnt.out; rw [beq_iff_eq]; omega
      go_wp2_with fail
      go_quiet ((go_at_call 37; exact Calls.quiet_of_same ((top_any (hj6.st.lies.drewN _)).mono fun _ _ h => ⟨h.1, h.2.symm⟩)))
      go_wp2
      go_ret
      exact ⟨rfl, hj6.old.trans ⟨rfl, rfl, rfl, Nat.le_refl _, fun _ _ => rfl⟩⟩

theorem walks_walk (A : Option Addr) (n c : Nat) (zs : List Int) (m : Int) (w : World) (hz : zs.length = n) (hr : Row w A zs) (hwf : ∀ i, -9223372036854775808 ≤ zs.getD i 0 ∧ zs.getD i 0 ≤ 9223372036854775807) (hm0 : 0 ≤ m) (hm : m ≤ 255) :
    Calls Try.prog 8 #[.slice A n c, .int .u8 m] w fun e w' => e = .returned (.bool true) ∧ Below w.heap.size w w' := by
  subst hz
  by_cases h1 : 200 < zs.length
  · exact walks_out A _ c m w h1
  · by_cases hp : zs.length = 0 ∨ ¬ Parses zs
    · exact walks_no A c zs m w hr (fun i => by have := (hwf i).2; omega) (by omega) hp
    · have h0 : zs.length ≠ 0 := fun h => hp (.inl h)
      have h2 : Parses zs := Classical.byContradiction fun h => hp (.inr h)
      obtain ⟨m, rfl⟩ := Int.eq_ofNat_of_zero_le hm0
      exact walks_yes A c m zs w hr (by omega) (by omega) (by omega) h2
end Go.Proofs.Ytccojidhghgikaa
