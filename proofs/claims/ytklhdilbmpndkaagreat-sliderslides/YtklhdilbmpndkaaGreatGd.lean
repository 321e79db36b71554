/- Whether some of a list's words lead astray: the library's look through a list, with a method value. A region that draws its order, inside a round of a range over a function: walked once, where its operations only read and its calls turn nothing old. What Check answers. What every step on a heap keeps: each reference leads to an object that is no filler, and each word fits. -/
import Derived.Test.YtklhdilbmpndkaaGreatSeq
import Derived.Lib.QuietBelowIn
import Derived.Sort.BigQuietIn
import Derived.Laws.Entries
namespace Go.Proofs.YtklhdilbmpndkaaGreat
set_option maxRecDepth 20000
open Go.RowKit
set_option linter.unusedVariables false
set_option linter.unusedSimpArgs false

theorem enter47 (args : Array Value) (W : World) : (callFunc 79 args).run Tryz.prog W = .ok (.enter 79 args) W := by
  simp [callFunc, go_sem, Tryz.func79]
  kernel_rfl

def InR (v : Int) : Prop := -9223372036854775808 ≤ v ∧ v ≤ 9223372036854775807

theorem astray_st {w : World} {g gw gb : Nat} {obs : List Ob} {tail : List Int} (S : St w g gw gb obs tail) (v : Int) (hv : InR v) :
    Calls Tryz.prog 79 #[.pointer (some ⟨g, 0, none⟩), .int .i64 v] w fun e w' => e = .returned (.bool (astrayO obs v)) ∧ Below w.heap.size w w' := by
  have := astray_any S.lies S.sound v hv.1 hv.2
  rw [astray_eq] at this
  exact this

end Go.Proofs.YtklhdilbmpndkaaGreat

namespace Go.Proofs.YtklhdilbmpndkaaGreat
set_option maxRecDepth 20000
open Go.RowKit Go.Sort
set_option linter.unusedVariables false
set_option linter.unusedSimpArgs false

/-- No operation is a deferred call. -/
def noDefers (l : List Oper) : Bool := l.all fun o => match o.op with | .defer _ => false | _ => true

theorem noDefers_spec {l : List Oper} (h : noDefers l = true) {i : Nat} {o : Oper} (hi : l.toArray[i]? = some o) (c : Call) : o.op ≠ .defer c := by
  intro e
  have hm : o ∈ l := by
    have : l[i]? = some o := by simpa using hi
    exact List.mem_of_getElem? this
  have := List.all_eq_true.1 h o hm
  rw [e] at this
  cases this

theorem any_round {F : Fence} {n : Nat} {P : Program} {md : Region.Mode} {ops : Array Oper} {Q : Exit → Act → World → Prop} {r : Nat} (hro : F.round = none) (hd : ∀ (i : Nat) (o : Oper), ops[i]? = some o → ∀ c, o.op ≠ .defer c) :
    ∀ (fuel : Nat) (listed : Array Bool) (a : Act) (w : World), wpAnyIn F n P md ops Q fuel listed a w → wpAnyIn (F.inRound r) n P md ops Q fuel listed a w
  | 0, _, _, _, h => h
  | fuel + 1, listed, a, w, h => by
    refine ⟨h.1, fun i hi => ?_⟩
    have h2 := h.2 i hi
    have h3 : wpOpIn F n P ops Q i (wpAnyIn (F.inRound r) n P md ops Q fuel (listed.setIfInBounds i true)) a w := wpOpIn_mono (fun a' w' => any_round hro hd fuel _ a' w') h2
    unfold wpOpIn at h3 ⊢
    cases ho : ops[i]? with
    | none => rw [ho] at h3; exact h3
    | some o =>
      rw [ho] at h3
      simp only at h3 ⊢
      split
      · next hw =>
        rw [if_pos hw] at h3
        unfold Oper.wpIn at h3 ⊢
        refine ⟨h3.1, ?_⟩
        have h4 := h3.2
        rw [Oper.semAt_eq _ _ _ (hd i o ho)] at h4 ⊢
        exact h4
      · next hw =>
        rw [if_neg hw] at h3
        exact h3

theorem quiet_round {n : Nat} {P : Program} {id : Nat} {Q : Exit → Act → World → Prop} {a : Act} {w : World} {l : List Oper} (r : Nat) (hm : P.follows .mixedOrders = true) (hB : Region.lexB .any l.toArray = true) (hd : noDefers l = true)
    (h : wpQuietIn Fence.wide n P l.toArray (fun w' => ∃ p : Regrown, w' = grow (redrawn w p.d) p.os) (fun a' => ∀ w', (∃ p : Regrown, w' = grow (redrawn w p.d) p.os) → Q .normal a' w') l a) : (Code.region id l.toArray true).wpIn (Fence.wide.inRound r) n P Q a w := by
  simp only [Region.lexB, Bool.and_eq_true] at hB
  refine wpIn_region_any hm (any_round rfl (fun i o hi c => noDefers_spec hd hi c) _ _ _ _ (wpAnyIn_of_quiet (C := fun w' => ∃ p : Regrown, w' = grow (redrawn w p.d) p.os) (Q := fun a' => ∀ w', (∃ p : Regrown, w' = grow (redrawn w p.d) p.os) → Q .normal a' w') rfl (fun _ w' hw' h => h w' hw') _ _ _ _ ⟨⟨w.drawn + 1, #[]⟩, by rw [grow_empty]; rfl⟩ ?_))
  have := wpAnyQIn_lex (F := Fence.wide) (n := n) (P := P) (C := fun w' => ∃ p : Regrown, w' = grow (redrawn w p.d) p.os) (Q := fun a' => ∀ w', (∃ p : Regrown, w' = grow (redrawn w p.d) p.os) → Q .normal a' w') (md := .any) hB.1 l 0 (Array.replicate l.toArray.size false) a (by simp) (by simpa using hB.2) h
  simpa using this
end Go.Proofs.YtklhdilbmpndkaaGreat

namespace Go.Proofs.YtklhdilbmpndkaaGreat
set_option maxRecDepth 20000
open Go.RowKit Go.Shelf Go.Sort
set_option linter.unusedVariables false
set_option linter.unusedSimpArgs false
attribute [local go_sem] Oper.semAt_some

theorem store_func (P : Program) (w : World) (a : Addr) (m : Mode) (f : Fn) (b c : Array Value) : (store a (.func f b c) m).run P w = stored P w a (.func f b c) m := run_store P w a _ m rfl
attribute [local go_sem] store_func

theorem Lies.grown {W W' : World} {k : Nat} {t : TypeId} {cs : List Value} {row : Option Nat} (h : Lies W k t cs) (hg : W.grownBy W' row) (hr : ∀ r, row = some r → ∃ o : Obj, W.heap[r]? = some o ∧ o.isCells = false) : Lies W' k t cs := by
  refine h.of_block (hg.block k h.lt fun e => ?_)
  obtain ⟨o, ho, hc⟩ := hr k e.symm
  unfold Lies at h
  rw [h] at ho
  injection ho with ho
  subst ho
  simp [Obj.isCells] at hc
theorem St.grown {W W' : World} {g gw gb : Nat} {obs : List Ob} {tail : List Int} {row : Option Nat} (h : St W g gw gb obs tail) (hg : W.grownBy W' row) (hr : ∀ r, row = some r → ∃ o : Obj, W.heap[r]? = some o ∧ o.isCells = false) : St W' g gw gb obs tail :=
  ⟨h.fine, h.lies.own.grown hg hr, h.lies.words.grown hg hr, h.lies.begins.grown hg hr, h.lies.same, h.lies.some_, h.lies.most, h.lies.fits⟩

/-- How many of an object's words lead to others. -/
def ptrs (n : Int) : Nat := (n % 65536 / 16).toNat
/-- Does one of an object's references lead astray? -/
def badOb (obs : List Ob) (o : Ob) : Bool := (o.2.take (ptrs o.1)).any (astrayO obs)
def badB (obs : List Ob) : Bool := obs.any (badOb obs)
/-- What Check answers. -/
def checkV (obs : List Ob) : Int := if badB obs = true then 5 else 0

def Within (obs : List Ob) : Prop := ∀ o ∈ obs, ∀ v ∈ o.2, InR v

/-- Between two rounds. -/
structure CkI (w : World) (g gw gb : Nat) (obs : List Ob) (tail : List Int) (pre : List (At obs)) (W : World) : Prop where
  st : St W g gw gb obs tail
  box : Lies W w.heap.size 29 [.pointer (some ⟨g, 0, none⟩)]
  res : Lies W (w.heap.size + 1) 39 [.int .i64 0]
  fn : Lies W (w.heap.size + 1 + 1) 47 [.func (.func 79) #[.pointer (some ⟨g, 0, none⟩)] #[]]
  old : Below w.heap.size w W
  good : (pre.map obOf).any (badOb obs) = false
/-- Behind a round that left. -/
structure CkX (w : World) (obs : List Ob) (c : Code) (pre : List (At obs)) (W : World) : Prop where
  ret : c = .ret
  res : Lies W (w.heap.size + 1) 39 [.int .i64 5]
  old : Below w.heap.size w W
  bad : badB obs = true

theorem below_grown {w W W' : World} {B : Nat} {row : Option Nat} (h : Below w.heap.size w W) (hB : w.heap.size ≤ B) (hg : W.grownBy W' row) (hr : ∀ r, row = some r → B ≤ r ∧ ∃ o : Obj, W.heap[r]? = some o ∧ o.isCells = false) : Below w.heap.size w W' :=
  h.grown hg h.size (fun k e => by have := (hr k e).1; omega)

theorem keepsFrom_below {W w2 : World} (B : Nat) (h : Below W.heap.size W w2) : KeepsFrom B W w2 := ⟨h.size, fun k o _ hk _ => (h.block k (Array.getElem?_eq_some_iff.1 hk).1).trans hk⟩
theorem CkI.next {w W w2 : World} {g gw gb : Nat} {obs : List Ob} {tail : List Int} {pre : List (At obs)} {x : At obs} (h : CkI w g gw gb obs tail pre W) (hb : Below W.heap.size W w2) (hx : badOb obs (obOf x) = false) : CkI w g gw gb obs tail (pre ++ [x]) w2 :=
  ⟨h.st.kept hb, h.box.below hb h.box.lt, h.res.below hb h.res.lt, h.fn.below hb h.fn.lt, on h.old h.old.size hb, by rw [List.map_append, List.any_append, h.good]; simp [hx]⟩

end Go.Proofs.YtklhdilbmpndkaaGreat

namespace Go.Proofs.YtklhdilbmpndkaaGreat
set_option maxRecDepth 20000
set_option linter.unusedVariables false
set_option linter.unusedSimpArgs false

/-- An object that is no filler begins there. -/
def Live (obs : List Ob) (a : Int) : Prop := ∃ pre o post, obs = pre ++ o :: post ∧ a = ((flat pre).length : Nat) ∧ o.1 % 16 ≠ 15

theorem astray_live {obs : List Ob} {v : Int} (h : v = 0 ∨ Live obs (v - 1)) : astrayO obs v = false := by
  unfold astrayO
  rcases h with rfl | ⟨pre, o, post, rfl, ha, hk⟩
  · simp
  · rw [ha, look_here]
    simp [hk]

theorem live_astray {obs : List Ob} {v : Int} (h : astrayO obs v = false) : v = 0 ∨ Live obs (v - 1) := by
  unfold astrayO at h
  by_cases h0 : v = 0
  · exact .inl h0
  · right
    have h1 : (v == 0) = false := by rw [beq_eq_false_iff_ne]; exact h0
    rw [h1] at h
    cases hl : look obs (v - 1) with
    | none => rw [hl] at h; simp at h
    | some x =>
      rw [hl] at h
      obtain ⟨e, ea⟩ := look_some _ _ _ hl
      exact ⟨x.1, x.2.1, x.2.2, e, ea, by simpa using h⟩

theorem live_swap {pre post mid : List Ob} {o : Ob} {a : Int} (h : Live (pre ++ o :: post) a) (hl : (flat mid).length = 1 + o.2.length) (hk : o.1 % 16 ≠ 15 → ∃ x r, mid = x :: r ∧ x.1 % 16 ≠ 15) : Live (pre ++ mid ++ post) a := by
  obtain ⟨p, x, q, he, rfl, hx⟩ := h
  rcases List.append_eq_append_iff.1 he with ⟨t, e1, e2⟩ | ⟨t, e1, e2⟩
  · cases t with
    | nil =>
      simp at e1 e2
      obtain ⟨rfl, rfl⟩ := e2
      obtain ⟨y, r, rfl, hy⟩ := hk hx
      exact ⟨pre, y, r ++ post, by simp, by rw [e1], hy⟩
    | cons y t =>
      simp at e2
      obtain ⟨rfl, rfl⟩ := e2
      refine ⟨pre ++ mid ++ t, x, q, by simp, ?_, hx⟩
      rw [e1]
      simp [flat_append, flat_cons]
      omega
  · cases t with
    | nil =>
      simp at e1 e2
      obtain ⟨rfl, rfl⟩ := e2
      obtain ⟨y, r, rfl, hy⟩ := hk hx
      exact ⟨pre, y, r ++ q, by simp, by rw [e1], hy⟩
    | cons y t =>
      simp at e2
      obtain ⟨rfl, rfl⟩ := e2
      exact ⟨p, x, t ++ (mid ++ post), by rw [e1]; simp, rfl, hx⟩

theorem live_more {obs more : List Ob} {a : Int} (h : Live obs a) : Live (obs ++ more) a := by
  obtain ⟨p, x, q, rfl, ha, hx⟩ := h
  exact ⟨p, x, q ++ more, by simp, ha, hx⟩

def CleanOb (obs : List Ob) (o : Ob) : Prop := (∀ v ∈ o.2, InR v) ∧ ∀ v ∈ o.2.take (ptrs o.1), v = 0 ∨ Live obs (v - 1)
def Clean (obs : List Ob) : Prop := ∀ o ∈ obs, CleanOb obs o

theorem Clean.within {obs : List Ob} (h : Clean obs) : Within obs := fun o ho => (h o ho).1
theorem Clean.check {obs : List Ob} (h : Clean obs) : checkV obs = 0 := by
  have hb : badB obs = false := by
    unfold badB
    rw [List.any_eq_false]
    intro o ho
    unfold badOb
    rw [Bool.not_eq_true, List.any_eq_false]
    intro v hv
    rw [Bool.not_eq_true]
    exact astray_live ((h o ho).2 v hv)
  unfold checkV
  rw [hb]; rfl

theorem clean_nil : Clean [] := fun o ho => by simp at ho
theorem clean_zeros (obs : List Ob) (n l : Int) : CleanOb obs (n, zeros l) := by
  refine ⟨fun v hv => ?_, fun v hv => .inl ?_⟩
  · simp [zeros] at hv
    rw [hv.2]; unfold InR; omega
  · have := List.mem_of_mem_take hv
    simp [zeros] at this
    exact this.2

theorem CleanOb.more {obs obs' : List Ob} {o : Ob} (h : CleanOb obs o) (hl : ∀ a, Live obs a → Live obs' a) : CleanOb obs' o :=
  ⟨h.1, fun v hv => (h.2 v hv).imp id (hl _)⟩

theorem clean_place {obs : List Ob} {tail : List Int} {k l p : Int} (h : Clean obs) : Clean (placeF obs tail k l p).2.2.1 := by
  unfold placeF
  split
  · exact h
  · split
    · exact h
    · intro o ho
      simp at ho
      rcases ho with ho | rfl
      · exact (h o ho).more fun a => live_more
      · exact clean_zeros _ _ _

theorem clean_split {obs : List Ob} {a k l p : Int} (hf : Fine obs) (h : Clean obs) : Clean (splitF obs a k l p).2.2 := by
  unfold splitF
  cases hl : look obs a with
  | none => exact h
  | some x =>
    obtain ⟨pre, o, post⟩ := x
    obtain ⟨e0, rfl⟩ := look_some _ _ _ hl
    simp only at e0 ⊢
    subst e0
    have hh := hf.right.head.1
    have hlen := hf.right.head.2
    by_cases h1 : o.1 % 16 ≠ 15
    · rw [if_pos h1]; exact h
    · rw [if_neg h1]
      cases hg : goodB k l p with
      | false => rw [if_pos rfl]; exact h
      | true =>
        rw [if_neg (by simp)]
        by_cases h2 : o.1 / 65536 < l
        · rw [if_pos h2]; exact h
        · rw [if_neg h2]
          have hl0 := ((good_iff k l p).1 hg).2.2.1
          unfold lenOf at hlen
          by_cases h3 : o.1 / 65536 = l
          · rw [if_pos h3]
            have hsw : ∀ b, Live (pre ++ o :: post) b → Live (pre ++ (packW k l p, zeros l) :: post) b := fun b hb => by
              have := live_swap (mid := [(packW k l p, zeros l)]) hb (by simp [flat_cons, flat_nil, zeros]; omega) (fun hc => absurd hc h1)
              simpa using this
            intro y hy
            simp at hy
            rcases hy with hy | rfl | hy
            · exact (h y (by simp [hy])).more hsw
            · exact clean_zeros _ _ _
            · exact (h y (by simp [hy])).more hsw
          · rw [if_neg h3]
            have hsw : ∀ b, Live (pre ++ o :: post) b → Live (pre ++ (packW k l p, zeros l) :: (packW 15 (o.1 / 65536 - l - 1) 0, zeros (o.1 / 65536 - l - 1)) :: post) b := fun b hb => by
              have := live_swap (mid := [(packW k l p, zeros l), (packW 15 (o.1 / 65536 - l - 1) 0, zeros (o.1 / 65536 - l - 1))]) hb (by simp [flat_cons, flat_nil, zeros]; omega) (fun hc => absurd hc h1)
              simpa using this
            intro y hy
            simp at hy
            rcases hy with hy | rfl | rfl | hy
            · exact (h y (by simp [hy])).more hsw
            · exact clean_zeros _ _ _
            · exact clean_zeros _ _ _
            · exact (h y (by simp [hy])).more hsw

theorem clean_write {obs : List Ob} {a f v : Int} (h : Clean obs) (hv : InR v) : Clean (writeF obs a f v).2 := by
  unfold writeF
  cases hl : look obs a with
  | none => exact h
  | some x =>
    obtain ⟨pre, o, post⟩ := x
    obtain ⟨e0, rfl⟩ := look_some _ _ _ hl
    simp only at e0 ⊢
    subst e0
    by_cases h1 : ¬ (0 ≤ f ∧ f < o.1 / 65536) ∨ o.1 % 16 = 15
    · rw [if_pos h1]; exact h
    · rw [if_neg h1]
      by_cases h6 : f < o.1 % 65536 / 16 ∧ astrayO (pre ++ o :: post) v = true
      · rw [if_pos h6]; exact h
      · rw [if_neg h6]
        have hk : o.1 % 16 ≠ 15 := fun e => h1 (.inr e)
        have hsw : ∀ b, Live (pre ++ o :: post) b → Live (pre ++ (o.1, o.2.set f.toNat v) :: post) b := fun b hb => by
          have := live_swap (mid := [(o.1, o.2.set f.toNat v)]) hb (by simp [flat_cons, flat_nil]; omega) (fun _ => ⟨_, _, rfl, hk⟩)
          simpa using this
        have ho := h o (by simp)
        intro y hy
        simp at hy
        rcases hy with hy | rfl | hy
        · exact (h y (by simp [hy])).more hsw
        · refine ⟨fun u hu => ?_, fun u hu => ?_⟩
          · rcases List.mem_or_eq_of_mem_set hu with hu | rfl
            · exact ho.1 u hu
            · exact hv
          · simp only at hu
            rw [List.take_set] at hu
            by_cases hlt : f.toNat < ptrs o.1
            · rcases List.mem_or_eq_of_mem_set hu with hu | rfl
              · exact (ho.2 u hu).imp id (hsw _)
              · have hf0 : f < o.1 % 65536 / 16 := by unfold ptrs at hlt; omega
                have : astrayO (pre ++ o :: post) u = false := by
                  cases hc : astrayO (pre ++ o :: post) u with
                  | false => rfl
                  | true => exact absurd ⟨hf0, hc⟩ h6
                exact (live_astray this).imp id (hsw _)
            · rw [List.set_eq_of_length_le (by simp; omega)] at hu
              exact (ho.2 u hu).imp id (hsw _)
        · exact (h y (by simp [hy])).more hsw
end Go.Proofs.YtklhdilbmpndkaaGreat
