/- A row of flags beside a map; numbers that came in; the first place, and how many, as the statements count them. -/
import Derived.Test.YtiomiaciaefbaaaDoorNext
import Derived.Lib.SmallJoins
namespace Go.Proofs.YtiomiaciaefbaaaDoor
open Go.ChangeShapes Go.WideShapes Go.ChangeAt Go.RowKit Go.Joins
set_option linter.unusedVariables false
set_option linter.unusedSimpArgs false

def flags (ws : List Nat) (n : Nat) : List Value := (List.range n).map fun i => .bool (bit ws i)
theorem flags_len (ws : List Nat) (n : Nat) : (flags ws n).length = n := by simp [flags]
theorem flags_at (ws : List Nat) (n i : Nat) (hi : i < n) : (flags ws n)[i]? = some (.bool (bit ws i)) := by simp [flags, hi]
theorem flags_set (ws : List Nat) (n p : Nat) (hp : p / 64 < ws.length) : (flags ws n).set p (.bool true) = flags (setW ws p) n := by
  apply List.ext_getElem?
  intro i
  rw [List.getElem?_set]
  by_cases hi : i < n
  · rw [flags_at _ _ _ hi, flags_at _ _ _ hi, bit_set ws p i hp]
    by_cases h : p = i
    · subst h; simp [flags_len, hi]
    · simp [h, Ne.symm h]
  · have h1 : (flags ws n)[i]? = none := by simp [flags]; omega
    have h2 : (flags (setW ws p) n)[i]? = none := by simp [flags]; omega
    rw [h1, h2]
    by_cases h : p = i
    · subst h; simp [flags_len, hi]
    · simp [h]
theorem flags_new (m n : Nat) : flags (List.replicate m 0) n = List.replicate n (.bool false) := by
  apply List.ext_getElem?
  intro i
  by_cases hi : i < n
  · rw [flags_at _ _ _ hi, bit_new]; simp [hi]
  · simp [flags, hi]
theorem infoB : ∃ i, Tryd.prog.info? 4 = some i ∧ i.zero = some (.bool false) ∧ i.size = 1 ∧ i.bytes = 1 := ⟨_, rfl, rfl, rfl, rfl⟩
theorem makeB (k : IntKind) (n : Nat) (hn : n ≤ 255) (w : World) : (Instr.makeSlice 30 (.int k (n : Int)) (.int k (n : Int))).run Tryd.prog w = .ok (.slice (some ⟨w.heap.size, 0, none⟩) n n) (w.alloc (.cells (List.replicate n (Value.bool false)).toArray 4)) := by
  obtain ⟨i0, hi0, hz0, hz1, hz2⟩ := infoB
  have := run_make (P := Tryd.prog) w 30 4 i0 _ Tryd.underlying30 hi0 hz0 k k n n (by omega) (Int.le_refl _) (by rw [hz2]; omega) (by omega)
  rw [this, hz1]
  simp [Value.cells, made_one]

theorem reads_ints {H : Type} {enc : TypeId × Value → H} {W : World} {sp : Nat → Bool} {held : Bool} {a : Option Addr} {len cap : Nat} {d : DataW H} {p : List MemPlace} (h : DataW.Trod enc Tryd.prog W 0 sp held 22 (.slice a len cap) d p) :
    ∃ zs, Came .i64 W a len zs := reads_any Tryd.underlying22 Tryd.underlying3 (by kernel_rfl) h
theorem cells23 : Tryd.prog.cellsOf 23 = 2 := by kernel_rfl
theorem cells3 : Tryd.prog.cellsOf 3 = 1 := by kernel_rfl
theorem okWide_arr {P : Program} {w : World} {r : Reach} {base : Nat} {t e : TypeId} {n : Nat} {v : Value} (ht : P.underlying t = some (.array n e)) (h : Value.okWide P w r base t v) : ∃ cs, v = .agg cs ∧ cs.size = P.cellsOf t := by
  simp only [Value.okWide, ht] at h
  cases v <;> simp_all
theorem reads_arr2 {H : Type} {enc : TypeId × Value → H} {W : World} {base : Nat} {v : Value} {d : DataW H} {p : List MemPlace} (hv : Value.okWide Tryd.prog W .any base 23 v) (h : DataW.Trod enc Tryd.prog W 0 (fun _ => true) true 23 v d p) :
    ∃ z0 z1 : Int, v = .agg #[.int .i64 z0, .int .i64 z1] ∧ ((-9223372036854775808 ≤ z0 ∧ z0 ≤ 9223372036854775807) ∧ (-9223372036854775808 ≤ z1 ∧ z1 ≤ 9223372036854775807)) := by
  obtain ⟨cs, rfl, hsz⟩ := okWide_arr Tryd.underlying23 hv
  obtain ⟨c0, c1, rfl⟩ := array2 (hsz.trans cells23)
  obtain ⟨fuel, hf⟩ := h
  obtain ⟨xs, m, _, _, _, hlen, hi⟩ := DataW.trod_array Tryd.underlying23 hf
  rw [cells3] at hi
  match xs, hlen with
  | [y0, y1], _ =>
    have h0 := hi 0 (by omega)
    have h1 := hi 1 (by omega)
    simp [Value.cells] at h0 h1
    obtain ⟨z0, e0, -, w0⟩ := DataW.trod_int Tryd.underlying3 h0
    obtain ⟨z1, e1, -, w1⟩ := DataW.trod_int Tryd.underlying3 h1
    simp at e0 e1
    subst e0 e1
    exact ⟨z0, z1, rfl, bounds_i64 w0, bounds_i64 w1⟩

/-- The first place of a row of them, or -1. -/
def nextOf (L : List Nat) : Int := match L with | [] => -1 | x :: _ => (x : Int)
theorem nextOf_nil : nextOf [] = -1 := rfl
theorem sets_step (ws : List Nat) (a j : Nat) (h : a ≤ j) : sets ws a (j + 1) = sets ws a j ++ (if bit ws j = true then [j] else []) := by
  by_cases hb : bit ws j = true
  · rw [if_pos hb]
    exact sets_next ws a j j h (Nat.le_refl _) (fun q h1 h2 => by omega) hb
  · rw [if_neg hb, List.append_nil]
    exact sets_skip ws a j (j + 1) h (by omega) (fun p h1 h2 => by
      obtain rfl : p = j := by omega
      simpa using hb)
theorem sets_early (ws : List Nat) (a j : Nat) (h : j ≤ a) : sets ws a j = [] := by unfold sets; rw [show j - a = 0 from by omega]; rfl
theorem nextOf_step (ws : List Nat) (a j : Nat) : nextOf (sets ws a (j + 1)) = if bit ws j = true ∧ a ≤ j ∧ nextOf (sets ws a j) < 0 then (j : Int) else nextOf (sets ws a j) := by
  by_cases h : a ≤ j
  · rw [sets_step ws a j h]
    cases hs : sets ws a j with
    | nil =>
      by_cases hb : bit ws j = true
      · simp [hb, h, nextOf]
      · simp [hb, nextOf]
    | cons x l =>
      have h3 : ¬ nextOf (x :: l) < 0 := by show ¬ (x : Int) < 0; omega
      have h4 : ¬ (bit ws j = true ∧ a ≤ j ∧ nextOf (x :: l) < 0) := fun h => h3 h.2.2
      rw [if_neg h4]
      rfl
  · rw [sets_early ws a (j + 1) (by omega), sets_early ws a j (by omega)]
    simp [h]
/-- How many of the first ones are set and lie between two numbers. -/
def btw (ws : List Nat) (x0 x1 : Int) (i : Nat) : Bool := bit ws i && (decide (x0 ≤ i) && decide ((i : Int) < x1))
theorem btw_span (ws : List Nat) (a b : Nat) (hab : a ≤ b) : ∀ n, b ≤ n → cnt (btw ws a b) n = span (bit ws) a b := by
  intro n hn
  have e1 : cnt (btw ws a b) n = span (btw ws a b) 0 n := (span_zero _ _).symm
  rw [e1, span_add (btw ws a b) 0 a n (by omega) (by omega), span_add (btw ws a b) a b n hab hn]
  have h1 : span (btw ws a b) 0 a = 0 := cnt_none _ fun i hi => by simp [btw]; omega
  have h2 : span (btw ws a b) b n = 0 := cnt_none _ fun i hi => by simp [btw]; omega
  have h3 : span (btw ws a b) a b = span (bit ws) a b := cnt_congr _ fun i hi => by
    have p1 : ((a : Int) ≤ ((a + i : Nat) : Int)) := by omega
    have p2 : (((a + i : Nat) : Int) < (b : Int)) := by omega
    simp only [btw, p1, p2, decide_true, Bool.and_true]
  rw [h1, h2, h3]; omega
theorem sets_all {w : World} {g gw n : Nat} {ws : List Nat} (h : At w g gw n ws) (a : Nat) (ha : a ≤ n) : sets ws a (64 * ws.length) = sets ws a n :=
  sets_skip ws a n (64 * ws.length) ha (by have := h.many; omega) fun p h1 _ => by
    cases hb : bit ws p with
    | false => rfl
    | true => have := h.in_ p hb; omega
end Go.Proofs.YtiomiaciaefbaaaDoor
