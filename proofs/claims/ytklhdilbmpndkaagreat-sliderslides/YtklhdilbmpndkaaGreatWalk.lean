/- How the iterator goes through a heap's objects, whatever is done with each, if that leaves the heap. -/
import Derived.Test.YtklhdilbmpndkaaGreatGc
namespace Go.Proofs.YtklhdilbmpndkaaGreat
set_option maxRecDepth 20000
open Go.RowKit
set_option linter.unusedVariables false
set_option linter.unusedSimpArgs false

/-- What a head's word says, as a value. -/
def hv (n : Int) : Value := .agg #[.int .i64 (n % 16), .int .i64 (n / 65536), .int .i64 (n % 65536 / 16)]

theorem walk_any {w : World} {g : Nat} :
    Calls Tryz.prog 52 #[.pointer (some ⟨g, 0, none⟩)] w fun e w' => e = .returned (.func (.func 83) #[] #[.pointer (some ⟨w.heap.size, 0, none⟩)]) ∧ w' = w.alloc (.cells #[.pointer (some ⟨g, 0, none⟩)] 29) := by
  go_enter Tryz.func52, Tryz.ntmps52
  go_wp2
  go_ret
  exact ⟨rfl, rfl⟩

theorem head_st {w : World} {g gw gb : Nat} {pre : List Ob} {o : Ob} {post : List Ob} {tail : List Int} (S : St w g gw gb (pre ++ o :: post) tail) (N : Nat) (hN : (flat pre).length = N) :
    Calls Tryz.prog 77 #[.pointer (some ⟨g, 0, none⟩), .int .i64 (N : Int)] w fun e w' => e = .returned (.tuple #[.agg #[.int .i64 (o.1 % 16), .int .i64 (o.1 / 65536), .int .i64 (o.1 % 65536 / 16)], .int .i64 0]) ∧ Below w.heap.size w w' := by
  subst hN
  have hi : (flat pre).length < (flat (pre ++ o :: post)).length := by simp [flat_append, flat_cons]
  exact head_yes S.lies _ hi (noted_here pre o post tail.length) o.1 (word_here pre o post tail) S.fine.right.head.1

/-- From a block on, what was there is as it was. -/
structure Above (B : Nat) (w w' : World) : Prop where
  size : w.heap.size ≤ w'.heap.size
  block : ∀ k, B ≤ k → k < w.heap.size → w'.heap[k]? = w.heap[k]?
theorem Above.lies {B b : Nat} {w w' : World} {t : TypeId} {cs : List Value} (h : Above B w w') (hl : Lies w b t cs) (hb : B ≤ b) : Lies w' b t cs := hl.of_block (h.block b hb hl.lt)

set_option maxHeartbeats 1000000 in
theorem walk1 (F : Nat) (caps : Array Value) (g gw gb bh n0 : Nat) (obs : List Ob) (tail : List Int) (J Jx : List Ob → World → Prop)
    (hSt : ∀ pre W, J pre W → St W g gw gb obs tail ∧ Lies W bh 29 [.pointer (some ⟨g, 0, none⟩)])
    (hJ : ∀ pre W W', J pre W → Below W.heap.size W W' → J pre W')
    (hY : ∀ pre o post W, obs = pre ++ o :: post → J pre W → Calls Tryz.prog F (#[.int .i64 ((flat pre).length : Nat), .agg #[.int .i64 (o.1 % 16), .int .i64 (o.1 / 65536), .int .i64 (o.1 % 65536 / 16)]] ++ caps) W fun e W' =>
      (e = .returned (.bool true) ∧ J (pre ++ [o]) W' ∧ Above n0 W W') ∨ (e = .returned (.bool false) ∧ Jx (pre ++ [o]) W'))
    (hcf : ∀ args W, (callFunc F args).run Tryz.prog W = .ok (.enter F args) W) (w : World) (hn0 : n0 ≤ w.heap.size) (h0 : J [] w) :
    Calls Tryz.prog 83 #[.func (.func F) #[] caps, .pointer (some ⟨bh, 0, none⟩)] w fun e w' => e = .returned (.tuple #[]) ∧ (J obs w' ∨ ∃ pre o post, obs = pre ++ o :: post ∧ Jx (pre ++ [o]) w') := by
  have HSt := Lib.hid hSt
  have HJ := Lib.hid hJ
  have HY := Lib.hid hY
  clear hSt hJ hY
  go_enter Tryz.func83, Tryz.ntmps83
  go_wp2
  go_loopw [3] (fun i wr => ∃ (pre post : List Ob), obs = pre ++ post ∧ i = .int .i64 ((flat pre).length : Nat) ∧ J pre wr ∧ n0 ≤ wr.heap.size) (fun i _ => (flat obs).length - (intOf i).toNat)
  case atStart => exact ⟨[], obs, rfl, rfl, h0, hn0⟩
  case round =>
    obtain ⟨pre, post, hobs, rfl, hj, hn⟩ := hrel
    obtain ⟨S, hb⟩ := HSt.out pre wr hj
    have x0 : wr.cell? ⟨bh, 0, none⟩ = some (.pointer (some ⟨g, 0, none⟩)) := hb.cell 0
    have x1 := S.lies.c1
    obtain ⟨N, hN⟩ : ∃ N, (flat pre).length = N := ⟨_, rfl⟩
    obtain ⟨M, hM⟩ : ∃ M, (flat obs).length = M := ⟨_, rfl⟩
    rw [hN]
    rw [hM] at x1 ⊢
    have HN := Lib.hid hN
    have HM := Lib.hid hM
    have HO := Lib.hid hobs
    clear hN hM hobs
    cases post with
    | nil =>
      have hNM : N = M := by rw [← HN.out, ← HM.out, HO.out, List.append_nil]
      subst hNM
      go_wp2
      go_end0
      exact ⟨rfl, .inl (by rw [HO.out, List.append_nil]; exact hj)⟩
    | cons o post =>
      have hNM : N < M := by rw [← HN.out, ← HM.out, HO.out]; simp [flat_append, flat_cons]
      have hfine := S.fine
      have hl := S.lies.most
      have hl2 : M ≤ 65536 := by rw [← HM.out]; simp at hl; omega
      have SO : St wr g gw gb (pre ++ o :: post) tail := by rw [← HO.out]; exact S
      have hhd := SO.fine.right.head
      go_wp2_with fail
      refine (head_st SO N HN.out).mono ?_
      rintro e w2 ⟨rfl, hb2⟩
      have hz0 : 0 ≤ o.1 / 65536 := by have := head_nn hhd.1; omega
      have hz1 : o.1 / 65536 ≤ 4095 := by have := len_le hhd.1; unfold lenOf at this; omega
      have B2 := hb2.alloc hb2.size (.cells #[.int .i64 (o.1 % 16), .int .i64 (o.1 / 65536), .int .i64 (o.1 % 65536 / 16)] 64)
      have HC := Lib.hid (HY.out pre o post _ HO.out (HJ.out pre wr _ hj B2))
      have box2 := Lies.new w2 64 [.int .i64 (o.1 % 16), .int .i64 (o.1 / 65536), .int .i64 (o.1 % 65536 / 16)]
      have hz2 := hb2.size
      have el : (flat (pre ++ [o])).length = N + 1 + (o.1 / 65536).toNat := by
        have := hhd.2; unfold lenOf at this
        rw [flat_append, flat_cons, flat_nil]; simp [HN.out]; omega
      have HEl := Lib.hid el
      clear el hhd SO
      rw [HN.out] at HC
      generalize o.1 / 65536 = q at *
      generalize o.1 % 65536 / 16 = r at *
      generalize o.1 % 16 = s at *
      go_wp2_with fail
      refine HC.out.mono ?_
      rintro e w3 (⟨rfl, hj3, ha3⟩ | ⟨rfl, hx3⟩)
      · obtain ⟨S3, hb3⟩ := HSt.out _ w3 hj3
        have box3 := ha3.lies box2 (by omega)
        have y0 : w3.cell? ⟨w2.heap.size, 0, none⟩ = some (.int .i64 s) := box3.cell 0
        have y1 : w3.cell? ⟨w2.heap.size, 1, none⟩ = some (.int .i64 q) := box3.cell 1
        have y2 : w3.cell? ⟨w2.heap.size, 2, none⟩ = some (.int .i64 r) := box3.cell 2
        have z3 := box3.lt
        clear HC x0 x1
        go_wp2_with fail
        refine (room_i s q r _ hz0 hz1).mono ?_
        rintro e w4 ⟨rfl, hb4⟩
        have hj4 := HJ.out _ w3 w4 hj3 hb4
        have hz4 := hb4.size
        go_wp2
        refine ⟨⟨pre ++ [o], post, by rw [HO.out]; simp, ?_, hj4, by omega⟩, ?_⟩
        · rw [HEl.out]; exact congrArg (Value.int .i64) (by omega)
        · simp [intOf]; omega
      · clear HC x0 x1
        go_wp2
        refine bodyPost_ret (results_none rfl _ _ _) rfl ?_
        exact ⟨rfl, .inr ⟨pre, o, post, HO.out, hx3⟩⟩
end Go.Proofs.YtklhdilbmpndkaaGreat
