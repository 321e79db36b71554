/- The walk of HeapWalks: the statement itself. -/
import Derived.Test.YtccojidhghgikaaWalks
namespace Go.Proofs.Ytccojidhghgikaa
open Go.RowKit
set_option linter.unusedVariables false
set_option linter.unusedSimpArgs false

set_option maxHeartbeats 1000000 in
theorem walks_out (A : Option Addr) (n c : Nat) (m : Int) (w : World) (hn : 200 < n) :
    Calls Try.prog 8 #[.slice A n c, .int .u8 m] w fun e w' => e = .returned (.bool true) ∧ Below w.heap.size w w' := by
  have d1 : decide ((200 : Int) < (n : Int)) = true := by simp; omega
  go_enter Try.func8, Try.ntmps8
  go_wp2_with fail
  refine (awake_any _).mono ?_
  rintro e w1 ⟨rfl, hb1⟩
  have B1 : Below w.heap.size w w1 := on ((Below.refl _ _).alloc (Nat.le_refl _) _) (by simp) hb1
  go_wp2_with fail
  refine (awake_any _).mono ?_
  rintro e w2 ⟨rfl, hb2⟩
  go_wp2
  go_ret
  exact ⟨rfl, on B1 B1.size hb2⟩

set_option maxHeartbeats 1000000 in
theorem walks_no (A : Option Addr) (c : Nat) (zs : List Int) (m : Int) (w : World) (hr : Row w A zs) (hwf : ∀ i, zs.getD i 0 < 9223372036854775808) (h1 : zs.length ≤ 200) (hp : zs.length = 0 ∨ ¬ Parses zs) :
    Calls Try.prog 8 #[.slice A zs.length c, .int .u8 m] w fun e w' => e = .returned (.bool true) ∧ Below w.heap.size w w' := by
  have d1 : decide ((200 : Int) < (zs.length : Int)) = false := by simp; omega
  have hnil := nil_eq
  have HP := Lib.hid hp
  have HW := Lib.hid hwf
  have HR := Lib.hid hr
  clear hp hwf hr
  by_cases h0 : zs.length = 0
  · have h0' : zs.length ≤ 0 := by omega
    clear h0
    go_enter Try.func8, Try.ntmps8
    go_wp2_with fail
    refine (awake_any _).mono ?_
    rintro e w1 ⟨rfl, hb1⟩
    have B1 : Below w.heap.size w w1 := on ((Below.refl _ _).alloc (Nat.le_refl _) _) (by simp) hb1
    go_wp2_with fail
    refine (of_range A zs.length c _ w1 (by omega)).mono ?_
    rintro e w2 ⟨rfl, hb2⟩
    have B2 := on B1 B1.size hb2
    go_wp2
    go_ret
    exact ⟨rfl, B2.alloc B2.size _⟩
  · go_enter Try.func8, Try.ntmps8
    go_wp2_with fail
    refine (awake_any _).mono ?_
    rintro e w1 ⟨rfl, hb1⟩
    have B1 : Below w.heap.size w w1 := on ((Below.refl _ _).alloc (Nat.le_refl _) _) (by simp) hb1
    have R1 : Row w1 A zs := HR.out.kept B1
    go_wp2_with fail
    refine (of_no A c zs.length zs w1 R1 (by omega) (by omega) (Nat.le_refl _) HW.out (by rw [List.take_of_length_le (Nat.le_refl _)]; exact HP.out.resolve_left h0)).mono ?_
    rintro e w2 ⟨rfl, hb2⟩
    have B2 := on B1 B1.size hb2
    go_wp2
    go_ret
    exact ⟨rfl, B2.alloc B2.size _⟩

/-- While all are counted. -/
structure J1 (w : World) (g gw gb bW bh bm bc : Nat) (m : Nat) (obs : List Ob) (pre : List Ob) (W : World) : Prop where
  st : St W g gw gb obs []
  walk : Lies W bW 36 [.pointer (some ⟨g, 0, none⟩)]
  box : Lies W bh 36 [.pointer (some ⟨g, 0, none⟩)]
  most : Lies W bm 5 [.int .u8 (m : Int)]
  count : Lies W bc 3 [.int .i64 (pre.length : Nat)]
  old : Below w.heap.size w W

theorem J1.kept {w W W' : World} {g gw gb bW bh bm bc m : Nat} {obs pre : List Ob} (h : J1 w g gw gb bW bh bm bc m obs pre W) (hb : Below W.heap.size W W') : J1 w g gw gb bW bh bm bc m obs pre W' :=
  ⟨h.st.kept hb, h.walk.below hb h.walk.lt, h.box.below hb h.box.lt, h.most.below hb h.most.lt, h.count.below hb h.count.lt, on h.old h.old.size hb⟩

theorem pre_len {obs pre post : List Ob} {o : Ob} (h : obs = pre ++ o :: post) : pre.length + 1 ≤ obs.length := by rw [h]; simp

theorem length_flat (l : List Ob) : l.length ≤ (flat l).length := by
  induction l with
  | nil => simp
  | cons o l ih => rw [flat_cons]; simp; omega

theorem J1.step {w W : World} {g gw gb bW bh bm bc m : Nat} {obs pre post : List Ob} {o : Ob} (h : J1 w g gw gb bW bh bm bc m obs pre W) (he : obs = pre ++ o :: post) (k1 : bc ≠ gw) (kw : w.heap.size ≤ bc) (a k l p : Int) :
    Calls Try.prog 35 #[.int .i64 a, .agg #[.int .i64 k, .int .i64 l, .int .i64 p], .pointer (some ⟨bc, 0, none⟩)] W fun e W' =>
      e = .returned (.bool true) ∧ J1 w g gw gb bW bh bm bc m obs (pre ++ [o]) W' ∧ Above (bc + 1) W W' := by
  have hl : pre.length ≤ 65536 := by
    have h1 := pre_len he
    have h2 := length_flat obs
    have h3 := h.st.lies.most
    simp at h3; omega
  refine (count_any bc pre.length a k l p W h.count hl).mono fun e W' ⟨he', hw⟩ => ⟨he', ?_, ?_⟩
  · subst hw
    have e1 : (((pre ++ [o]).length : Nat) : Int) = (pre.length : Int) + 1 := by simp
    refine ⟨(h.st.far (h.st.lies.own.apart h.count (by decide)) k1.symm (h.st.lies.begins.apart h.count (by decide)) _).alloc _, (h.walk.far (h.walk.apart h.count (by decide)) _).alloc _,
      (h.box.far (h.box.apart h.count (by decide)) _).alloc _, (h.most.far (h.most.apart h.count (by decide)) _).alloc _, ?_, (h.old.setCell kw _).alloc (by have := h.old.size; simp [World.setCell]; omega) _⟩
    rw [e1]
    exact (h.count.set 0 _).alloc _
  · subst hw
    refine ⟨by simp [World.setCell], fun j h1 h2 => ?_⟩
    rw [Below.heap_alloc _ _ _ (by simp [World.setCell]; omega), Below.heap_setCell _ _ _ _ (by simp; omega)]

/-- While the second one goes through. -/
structure J2 (w : World) (g gw gb bW bh bm bc bn ba bo : Nat) (m : Nat) (obs : List Ob) (pre : List Ob) (W : World) : Prop where
  st : St W g gw gb obs []
  walk : Lies W bW 36 [.pointer (some ⟨g, 0, none⟩)]
  box : Lies W bh 36 [.pointer (some ⟨g, 0, none⟩)]
  most : Lies W bm 5 [.int .u8 (m : Int)]
  count : Lies W bc 3 [.int .i64 (obs.length : Nat)]
  n : Lies W bn 3 [.int .i64 (pre.length : Nat)]
  at_ : Lies W ba 3 [.int .i64 ((flat pre).length : Nat)]
  ok : Lies W bo 4 [.bool true]
  old : Below w.heap.size w W

theorem J2.kept {w W W' : World} {g gw gb bW bh bm bc bn ba bo m : Nat} {obs pre : List Ob} (h : J2 w g gw gb bW bh bm bc bn ba bo m obs pre W) (hb : Below W.heap.size W W') : J2 w g gw gb bW bh bm bc bn ba bo m obs pre W' :=
  ⟨h.st.kept hb, h.walk.below hb h.walk.lt, h.box.below hb h.box.lt, h.most.below hb h.most.lt, h.count.below hb h.count.lt, h.n.below hb h.n.lt, h.at_.below hb h.at_.lt, h.ok.below hb h.ok.lt, on h.old h.old.size hb⟩

theorem J2.step {w W : World} {g gw gb bW bh bm bc bn ba bo m : Nat} {obs pre post : List Ob} {o : Ob} (h : J2 w g gw gb bW bh bm bc bn ba bo m obs pre W) (he : obs = pre ++ o :: post) (hm : m ≤ 255)
    (k1 : bn ≠ gw) (k2 : ba ≠ gw) (k3 : bo ≠ gb) (k4 : bn ≠ ba) (k5 : bc ≠ bn) (k6 : bc ≠ ba) (w1 : w.heap.size ≤ bn) (w2 : w.heap.size ≤ ba) (w3 : w.heap.size ≤ bo) (B : Nat) (b1 : bn < B) (b2 : ba < B) (b3 : bo < B) :
    Calls Try.prog 36 #[.int .i64 ((flat pre).length : Nat), .agg #[.int .i64 (o.1 % 16), .int .i64 (o.1 / 65536), .int .i64 (o.1 % 65536 / 16)], .pointer (some ⟨bn, 0, none⟩), .pointer (some ⟨bh, 0, none⟩), .pointer (some ⟨bo, 0, none⟩), .pointer (some ⟨ba, 0, none⟩), .pointer (some ⟨bm, 0, none⟩)] W fun e W' =>
      e = .returned (.bool (decide (pre.length + 1 < m))) ∧ J2 w g gw gb bW bh bm bc bn ba bo m obs (pre ++ [o]) W' ∧ Above B W W' := by
  have hl : pre.length ≤ 65536 := by
    have h1 := pre_len he
    have h2 := length_flat obs
    have h3 := h.st.lies.most
    simp at h3; omega
  have S := h.st
  rw [he] at S
  refine (second_any S pre.length m _ rfl h.n h.box h.ok h.at_ h.most k4 k1 k2 k3 hl hm).mono fun e W' ⟨he', a1, a2, a3, a4⟩ => ⟨he', ⟨⟨h.st.fine, ?_⟩, ?_, ?_, ?_, ?_, ?_, ?_, a2, ?_⟩, ⟨a4.size, fun j h1 h2 => a4.block j h2 (by omega) (by omega) (by omega)⟩⟩
  · have H := h.st.lies
    exact ⟨H.own.of_block (a4.block _ H.own.lt (H.own.apart h.n (by decide)) (H.own.apart h.ok (by decide)) (H.own.apart h.at_ (by decide))),
      H.words.of_block (a4.block _ H.words.lt k1.symm (H.words.apart h.ok (by decide)) k2.symm), H.begins.of_block (a4.block _ H.begins.lt (H.begins.apart h.n (by decide)) k3.symm (H.begins.apart h.at_ (by decide))), H.same, H.some_, H.most, H.fits⟩
  · exact h.walk.of_block (a4.block _ h.walk.lt (h.walk.apart h.n (by decide)) (h.walk.apart h.ok (by decide)) (h.walk.apart h.at_ (by decide)))
  · exact h.box.of_block (a4.block _ h.box.lt (h.box.apart h.n (by decide)) (h.box.apart h.ok (by decide)) (h.box.apart h.at_ (by decide)))
  · exact h.most.of_block (a4.block _ h.most.lt (h.most.apart h.n (by decide)) (h.most.apart h.ok (by decide)) (h.most.apart h.at_ (by decide)))
  · exact h.count.of_block (a4.block _ h.count.lt k5 (h.count.apart h.ok (by decide)) k6)
  · have e1 : (((pre ++ [o]).length : Nat) : Int) = ((pre.length + 1 : Nat) : Int) := by simp
    rw [e1]; exact a1
  · exact a3
  · exact h.old.trans (a4.below h.old.size w1 w3 w2)
end Go.Proofs.Ytccojidhghgikaa
