/- What every step on a heap keeps: each reference leads to an object that is no filler, and each word fits. -/
import Derived.Test.YtibfhpbklnpknaaCheck2
namespace Go.Proofs.Ytibfhpbklnpknaa
set_option linter.unusedVariables false
set_option linter.unusedSimpArgs false

/-- An object that is no filler begins there. -/
def Live (obs : List Ob) (a : Int) : Prop := ∃ pre o post, obs = pre ++ o :: post ∧ a = ((flat pre).length : Nat) ∧ o.1 % 16 ≠ 15

theorem astray_live {obs : List Ob} {v : Int} (h : v = 0 ∨ Live obs (v - 1)) : astrayO obs v = false := by
  unfold astrayO
  rcases h with rfl | ⟨pre, o, post, rfl, ha, hk⟩
  · simp
  · rw [ha, look_here]
    simp [hk]

theorem live_astray {obs : List Ob} {v : Int} (h : astrayO obs v = false) : v = 0 ∨ Live obs (v - 1) := by
  unfold astrayO at h
  by_cases h0 : v = 0
  · exact .inl h0
  · right
    have h1 : (v == 0) = false := by rw [beq_eq_false_iff_ne]; exact h0
    rw [h1] at h
    cases hl : look obs (v - 1) with
    | none => rw [hl] at h; simp at h
    | some x =>
      rw [hl] at h
      obtain ⟨e, ea⟩ := look_some _ _ _ hl
      exact ⟨x.1, x.2.1, x.2.2, e, ea, by simpa using h⟩

theorem live_swap {pre post mid : List Ob} {o : Ob} {a : Int} (h : Live (pre ++ o :: post) a) (hl : (flat mid).length = 1 + o.2.length) (hk : o.1 % 16 ≠ 15 → ∃ x r, mid = x :: r ∧ x.1 % 16 ≠ 15) : Live (pre ++ mid ++ post) a := by
  obtain ⟨p, x, q, he, rfl, hx⟩ := h
  rcases List.append_eq_append_iff.1 he with ⟨t, e1, e2⟩ | ⟨t, e1, e2⟩
  · cases t with
    | nil =>
      simp at e1 e2
      obtain ⟨rfl, rfl⟩ := e2
      obtain ⟨y, r, rfl, hy⟩ := hk hx
      exact ⟨pre, y, r ++ post, by simp, by rw [e1], hy⟩
    | cons y t =>
      simp at e2
      obtain ⟨rfl, rfl⟩ := e2
      refine ⟨pre ++ mid ++ t, x, q, by simp, ?_, hx⟩
      rw [e1]
      simp [flat_append, flat_cons]
      omega
  · cases t with
    | nil =>
      simp at e1 e2
      obtain ⟨rfl, rfl⟩ := e2
      obtain ⟨y, r, rfl, hy⟩ := hk hx
      exact ⟨pre, y, r ++ q, by simp, by rw [e1], hy⟩
    | cons y t =>
      simp at e2
      obtain ⟨rfl, rfl⟩ := e2
      exact ⟨p, x, t ++ (mid ++ post), by rw [e1]; simp, rfl, hx⟩

theorem live_more {obs more : List Ob} {a : Int} (h : Live obs a) : Live (obs ++ more) a := by
  obtain ⟨p, x, q, rfl, ha, hx⟩ := h
  exact ⟨p, x, q ++ more, by simp, ha, hx⟩

def CleanOb (obs : List Ob) (o : Ob) : Prop := (∀ v ∈ o.2, InR v) ∧ ∀ v ∈ o.2.take (ptrs o.1), v = 0 ∨ Live obs (v - 1)
def Clean (obs : List Ob) : Prop := ∀ o ∈ obs, CleanOb obs o

theorem Clean.within {obs : List Ob} (h : Clean obs) : Within obs := fun o ho => (h o ho).1
theorem Clean.check {obs : List Ob} (h : Clean obs) : checkV obs = 0 := by
  have hb : badB obs = false := by
    unfold badB
    rw [List.any_eq_false]
    intro o ho
    unfold badOb
    rw [Bool.not_eq_true, List.any_eq_false]
    intro v hv
    rw [Bool.not_eq_true]
    exact astray_live ((h o ho).2 v hv)
  unfold checkV
  rw [hb]; rfl

theorem clean_nil : Clean [] := fun o ho => by simp at ho
theorem clean_zeros (obs : List Ob) (n l : Int) : CleanOb obs (n, zeros l) := by
  refine ⟨fun v hv => ?_, fun v hv => .inl ?_⟩
  · simp [zeros] at hv
    rw [hv.2]; unfold InR; omega
  · have := List.mem_of_mem_take hv
    simp [zeros] at this
    exact this.2

theorem CleanOb.more {obs obs' : List Ob} {o : Ob} (h : CleanOb obs o) (hl : ∀ a, Live obs a → Live obs' a) : CleanOb obs' o :=
  ⟨h.1, fun v hv => (h.2 v hv).imp id (hl _)⟩

theorem clean_place {obs : List Ob} {tail : List Int} {k l p : Int} (h : Clean obs) : Clean (placeF obs tail k l p).2.2.1 := by
  unfold placeF
  split
  · exact h
  · split
    · exact h
    · intro o ho
      simp at ho
      rcases ho with ho | rfl
      · exact (h o ho).more fun a => live_more
      · exact clean_zeros _ _ _

theorem clean_split {obs : List Ob} {a k l p : Int} (hf : Fine obs) (h : Clean obs) : Clean (splitF obs a k l p).2.2 := by
  unfold splitF
  cases hl : look obs a with
  | none => exact h
  | some x =>
    obtain ⟨pre, o, post⟩ := x
    obtain ⟨e0, rfl⟩ := look_some _ _ _ hl
    simp only at e0 ⊢
    subst e0
    have hh := hf.right.head.1
    have hlen := hf.right.head.2
    by_cases h1 : o.1 % 16 ≠ 15
    · rw [if_pos h1]; exact h
    · rw [if_neg h1]
      cases hg : goodB k l p with
      | false => rw [if_pos rfl]; exact h
      | true =>
        rw [if_neg (by simp)]
        by_cases h2 : o.1 / 65536 < l
        · rw [if_pos h2]; exact h
        · rw [if_neg h2]
          have hl0 := ((good_iff k l p).1 hg).2.2.1
          unfold lenOf at hlen
          by_cases h3 : o.1 / 65536 = l
          · rw [if_pos h3]
            have hsw : ∀ b, Live (pre ++ o :: post) b → Live (pre ++ (packW k l p, zeros l) :: post) b := fun b hb => by
              have := live_swap (mid := [(packW k l p, zeros l)]) hb (by simp [flat_cons, flat_nil, zeros]; omega) (fun hc => absurd hc h1)
              simpa using this
            intro y hy
            simp at hy
            rcases hy with hy | rfl | hy
            · exact (h y (by simp [hy])).more hsw
            · exact clean_zeros _ _ _
            · exact (h y (by simp [hy])).more hsw
          · rw [if_neg h3]
            have hsw : ∀ b, Live (pre ++ o :: post) b → Live (pre ++ (packW k l p, zeros l) :: (packW 15 (o.1 / 65536 - l - 1) 0, zeros (o.1 / 65536 - l - 1)) :: post) b := fun b hb => by
              have := live_swap (mid := [(packW k l p, zeros l), (packW 15 (o.1 / 65536 - l - 1) 0, zeros (o.1 / 65536 - l - 1))]) hb (by simp [flat_cons, flat_nil, zeros]; omega) (fun hc => absurd hc h1)
              simpa using this
            intro y hy
            simp at hy
            rcases hy with hy | rfl | rfl | hy
            · exact (h y (by simp [hy])).more hsw
            · exact clean_zeros _ _ _
            · exact clean_zeros _ _ _
            · exact (h y (by simp [hy])).more hsw

theorem clean_write {obs : List Ob} {a f v : Int} (h : Clean obs) (hv : InR v) : Clean (writeF obs a f v).2 := by
  unfold writeF
  cases hl : look obs a with
  | none => exact h
  | some x =>
    obtain ⟨pre, o, post⟩ := x
    obtain ⟨e0, rfl⟩ := look_some _ _ _ hl
    simp only at e0 ⊢
    subst e0
    by_cases h1 : ¬ (0 ≤ f ∧ f < o.1 / 65536) ∨ o.1 % 16 = 15
    · rw [if_pos h1]; exact h
    · rw [if_neg h1]
      by_cases h6 : f < o.1 % 65536 / 16 ∧ astrayO (pre ++ o :: post) v = true
      · rw [if_pos h6]; exact h
      · rw [if_neg h6]
        have hk : o.1 % 16 ≠ 15 := fun e => h1 (.inr e)
        have hsw : ∀ b, Live (pre ++ o :: post) b → Live (pre ++ (o.1, o.2.set f.toNat v) :: post) b := fun b hb => by
          have := live_swap (mid := [(o.1, o.2.set f.toNat v)]) hb (by simp [flat_cons, flat_nil]; omega) (fun _ => ⟨_, _, rfl, hk⟩)
          simpa using this
        have ho := h o (by simp)
        intro y hy
        simp at hy
        rcases hy with hy | rfl | hy
        · exact (h y (by simp [hy])).more hsw
        · refine ⟨fun u hu => ?_, fun u hu => ?_⟩
          · rcases List.mem_or_eq_of_mem_set hu with hu | rfl
            · exact ho.1 u hu
            · exact hv
          · simp only at hu
            rw [List.take_set] at hu
            by_cases hlt : f.toNat < ptrs o.1
            · rcases List.mem_or_eq_of_mem_set hu with hu | rfl
              · exact (ho.2 u hu).imp id (hsw _)
              · have hf0 : f < o.1 % 65536 / 16 := by unfold ptrs at hlt; omega
                have : astrayO (pre ++ o :: post) u = false := by
                  cases hc : astrayO (pre ++ o :: post) u with
                  | false => rfl
                  | true => exact absurd ⟨hf0, hc⟩ h6
                exact (live_astray this).imp id (hsw _)
            · rw [List.set_eq_of_length_le (by simp; omega)] at hu
              exact (ho.2 u hu).imp id (hsw _)
        · exact (h y (by simp [hy])).more hsw
end Go.Proofs.Ytibfhpbklnpknaa
