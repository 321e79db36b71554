/- Of a list of objects, what stays (pure), and the law's Stays. -/
import Derived.Test.YthjbechbioeglaaRowsZ
namespace Go.Proofs.Ythjbechbioeglaa
open Go.RowKit
set_option linter.unusedVariables false
set_option linter.unusedSimpArgs false

set_option maxRecDepth 100000 in
set_option maxHeartbeats 1000000 in
theorem lstays_any {w : World} {mg mw N : Nat} {ws : List Nat} (M : Mk.At w mg mw N ws) (a : Nat) (o : Ob) (B : Option Addr) (c nl : Nat) (hk : 0 ≤ o.1 % 16) :
    Calls Try.prog 13 #[.pointer (some ⟨mg, 0, none⟩), .agg #[.int .i64 (a : Nat), .int .i64 (o.1 % 16), .int .i64 (o.1 / 65536), .int .i64 (o.1 % 65536 / 16), .slice B nl c]] w fun e w' => e = .returned (.bool (keepB (Mk.bit ws) (a, o))) ∧ Below w.heap.size w w' := by
  unfold keepB
  simp only
  generalize o.1 / 65536 = q at *
  generalize o.1 % 65536 / 16 = r at *
  generalize o.1 % 16 = s at *
  have bX := below_one w (.cells #[.int .i64 (a : Nat), .int .i64 s, .int .i64 q, .int .i64 r, .slice B nl c] 44)
  have HM := Lib.hid (M.kept bX)
  have HB := Lib.hid bX
  clear M bX
  by_cases h : s = 15
  · subst h
    go_enter Try.func13, Try.ntmps13
    go_wp2
    go_ret
    exact ⟨rfl, HB.out⟩
  · have d0 : (s != 15) = true := by simp [h]
    have d1 : (s == 15) = false := by simp [h]
    have d2 : decide (s ≠ 15) = true := by simp [h]
    rw [d2, Bool.true_and]
    clear h d2
    go_enter Try.func13, Try.ntmps13
    go_wp2_with fail
    refine (has_any HM.out a).mono ?_
    rintro e w2 ⟨rfl, kd, rfl⟩
    have HB2 := Lib.hid (on HB.out HB.out.size (Mk.below_drewN _ kd))
    go_wp2
    go_ret
    exact ⟨rfl, HB2.out⟩

theorem adr_at : ∀ {a : Nat} {obs : List Ob} {i : Nat} {o : Ob}, obs[i]? = some o → (adr a obs)[i]? = some (a + atI obs i, o)
  | _, [], i, o, h => by simp at h
  | a, x :: l, 0, o, h => by simp at h; subst h; simp [adr, atI_zero]
  | a, x :: l, i + 1, o, h => by
    simp at h
    rw [adr, List.getElem?_cons_succ, adr_at h]
    have e : atI (x :: l) (i + 1) = 1 + x.2.length + atI l i := by
      unfold atI; rw [List.take_succ_cons, flat_cons]; simp; omega
    rw [e]; congr 2; omega
theorem adr_len : ∀ (a : Nat) (obs : List Ob), (adr a obs).length = obs.length
  | _, [] => rfl
  | a, o :: l => by rw [adr, List.length_cons, adr_len, List.length_cons]
theorem take_more {L : List (Nat × Ob)} {i : Nat} {x : Nat × Ob} (h : L[i]? = some x) : L.take (i + 1) = L.take i ++ [x] := by
  obtain ⟨hi, e⟩ := List.getElem?_eq_some_iff.1 h
  rw [← List.take_append_getElem hi, e]
theorem stay_more (f : Nat → Bool) (n k : Nat) (L : List (Nat × Ob)) (x : Nat × Ob) : stayR f n k (L ++ [x]) = stayR f n k L ++ (if keepB f x && decide (x.1 / n = k) then [(x.1 : Int)] else []) := by
  unfold stayR
  rw [inR_more, List.map_append]
  split <;> rfl
theorem live_more2 (f : Nat → Bool) (n k : Nat) (L : List (Nat × Ob)) (x : Nat × Ob) : liveR f n k (L ++ [x]) = liveR f n k L + (if keepB f x && decide (x.1 / n = k) then 1 + x.2.2.length else 0) := by
  unfold liveR
  rw [inR_more, sumL_append]
  split
  · rw [sumL_one]
  · rfl
theorem live_le (f : Nat → Bool) (n k : Nat) (obs : List Ob) (i : Nat) : liveR f n k ((adr 0 obs).take i) ≤ (flat obs).length := by
  unfold liveR inR
  have h1 := sumL_filter (fun x => keepB f x && decide (x.1 / n = k)) ((adr 0 obs).take i)
  have h2 := sumL_append ((adr 0 obs).take i) ((adr 0 obs).drop i)
  rw [List.take_append_drop, sumL_adr] at h2
  omega
theorem minus_row (row : List Int) (i : Nat) (hi : i < row.length) : (List.replicate i (-1 : Int) ++ row.drop i).set i (-1) = List.replicate (i + 1) (-1 : Int) ++ row.drop (i + 1) := by
  rw [List.set_append_right _ _ (by simp)]
  simp only [List.length_replicate, Nat.sub_self]
  rw [List.drop_eq_getElem_cons hi, List.set_cons_zero, List.replicate_succ' (n := i), List.append_assoc]
  rfl
theorem minus_get (row : List Int) (i : Nat) (hi : i < row.length) : (List.replicate i (-1 : Int) ++ row.drop i).getD i 0 = row.getD i 0 := by
  rw [List.getD_eq_getElem?_getD, List.getD_eq_getElem?_getD, List.getElem?_append_right (by simp)]
  simp
theorem minus_len (row : List Int) (i : Nat) (hi : i ≤ row.length) : (List.replicate i (-1 : Int) ++ row.drop i).length = row.length := by simp; omega

end Go.Proofs.Ythjbechbioeglaa
