/- What Unpack, the document's Pack and Unpack, and the statements' own first look do: each returns what the plain functions say, and turns nothing that was there. No condition. Objects in a row of words, as lists: plain facts, no program. Two heads are the same just if their three numbers are. The walks of the three smallest statements: HeapHeads, HeapWords and HeapOrders return true whatever they are handed, and turn nothing that was there. A heap of the program in memory: the words that tell where it lies, and what stays as it is. -/
import Derived.Test.YtklhdilbmpndkaaGreatBase
import Derived.Laws.StructEq
import Derived.KernelRfl
namespace Go.Proofs.YtklhdilbmpndkaaGreat
set_option maxRecDepth 20000
open Go.RowKit
set_option linter.unusedVariables false

/-- Is a word a head's? -/
def headB (n : Int) : Bool := decide (0 ≤ n) && goodB (n % 16) (n / 65536) (n % 65536 / 16)

theorem head_nn {n : Int} (h : headB n = true) : 0 ≤ n := by
  unfold headB at h; simp at h; exact h.1
theorem head_good {n : Int} (h : headB n = true) : goodB (n % 16) (n / 65536) (n % 65536 / 16) = true := by
  unfold headB at h; simp at h; exact h.2
theorem head_of {n : Int} (h0 : 0 ≤ n) (h : goodB (n % 16) (n / 65536) (n % 65536 / 16) = true) : headB n = true := by
  unfold headB; simp [h0, h]
theorem head_not {n : Int} (h0 : 0 ≤ n) (h : headB n = false) : goodB (n % 16) (n / 65536) (n % 65536 / 16) = false := by
  unfold headB at h; simpa [h0] using h
theorem head_lt {n : Int} (h : headB n = true) : n < 268435456 := by
  have h1 := head_nn h
  obtain ⟨_, _, _, h2, _⟩ := (good_iff _ _ _).1 (head_good h)
  omega
theorem head_pack {k l p : Int} (hg : goodB k l p = true) : headB (packW k l p) = true ∧ packW k l p % 16 = k ∧ packW k l p / 65536 = l ∧ packW k l p % 65536 / 16 = p := by
  obtain ⟨b1, b2, b3, b4, b5, b6, _⟩ := (good_iff k l p).1 hg
  have e1 : packW k l p % 16 = k := by unfold packW; omega
  have e2 : packW k l p / 65536 = l := by unfold packW; omega
  have e3 : packW k l p % 65536 / 16 = p := by unfold packW; omega
  exact ⟨head_of (by unfold packW; omega) (by rw [e1, e2, e3]; exact hg), e1, e2, e3⟩
theorem pack_head {n : Int} (h : headB n = true) : packW (n % 16) (n / 65536) (n % 65536 / 16) = n := by
  have := head_nn h
  unfold packW; omega

set_option maxHeartbeats 1000000 in
theorem unpack_yes (n : Int) (w : World) (h : headB n = true) :
    Calls Tryz.prog 98 #[.int .i64 n] w fun e w' => e = .returned (.tuple #[.agg #[.int .i64 (n % 16), .int .i64 (n / 65536), .int .i64 (n % 65536 / 16)], .int .i64 0]) ∧ Below w.heap.size w w' := by
  have h0 := head_nn h
  have hl := head_lt h
  have hg := head_good h
  go_enter Tryz.func98, Tryz.ntmps98
  go_wp2_with fail
  refine (mayBe_any _ _ _ _).mono ?_
  rintro e w' ⟨rfl, rfl⟩
  rw [hg]
  go_wp2
  exact bodyPost_ret (v := .tuple #[.agg #[.int .i64 (n % 16), .int .i64 (n / 65536), .int .i64 (n % 65536 / 16)], .int .i64 0]) (by simp [results, Tryz.results98, go_sem]) rfl ⟨rfl, by
    repeat (first | exact Below.refl _ _ | refine Below.setCell ?_ (by simp <;> omega) _ | refine Below.alloc ?_ (by simp <;> omega) _)⟩

set_option maxHeartbeats 1000000 in
theorem unpack_no (n : Int) (w : World) (h : headB n = false) (hw : n < 9223372036854775808) :
    Calls Tryz.prog 98 #[.int .i64 n] w fun e w' => e = .returned (.tuple #[.agg #[.int .i64 0, .int .i64 0, .int .i64 0], .int .i64 2]) ∧ Below w.heap.size w w' := by
  by_cases h0 : n < 0
  · go_enter Tryz.func98, Tryz.ntmps98
    go_wp2
    exact bodyPost_ret (v := .tuple #[.agg #[.int .i64 0, .int .i64 0, .int .i64 0], .int .i64 2]) (by simp [results, Tryz.results98, go_sem]) rfl ⟨rfl, by
      repeat (first | exact Below.refl _ _ | refine Below.setCell ?_ (by simp <;> omega) _ | refine Below.alloc ?_ (by simp <;> omega) _)⟩
  · have h1 : 0 ≤ n := by omega
    have hg := head_not h1 h
    go_enter Tryz.func98, Tryz.ntmps98
    go_wp2_with fail
    refine (mayBe_any _ _ _ _).mono ?_
    rintro e w' ⟨rfl, rfl⟩
    rw [hg]
    go_wp2
    exact bodyPost_ret (v := .tuple #[.agg #[.int .i64 0, .int .i64 0, .int .i64 0], .int .i64 2]) (by simp [results, Tryz.results98, go_sem]) rfl ⟨rfl, by
      repeat (first | exact Below.refl _ _ | refine Below.setCell ?_ (by simp <;> omega) _ | refine Below.alloc ?_ (by simp <;> omega) _)⟩

theorem refP (n : Int) (h : 0 ≤ n) : n / 16 % 4096 = n % 65536 / 16 := by omega

end Go.Proofs.YtklhdilbmpndkaaGreat

namespace Go.Proofs.YtklhdilbmpndkaaGreat
set_option maxRecDepth 20000
set_option linter.unusedVariables false

/-- How many words stand behind a head's word. -/
def lenOf (n : Int) : Nat := (n / 65536).toNat

/-- An object: its head's word, the words behind it. -/
abbrev Ob := Int × List Int

def Fine (obs : List Ob) : Prop := ∀ o ∈ obs, headB o.1 = true ∧ o.2.length = lenOf o.1
def flat (obs : List Ob) : List Int := obs.flatMap fun o => o.1 :: o.2
def marks (obs : List Ob) : List Bool := obs.flatMap fun o => true :: List.replicate o.2.length false

theorem flat_nil : flat [] = [] := rfl
theorem flat_cons (o : Ob) (l : List Ob) : flat (o :: l) = o.1 :: (o.2 ++ flat l) := by simp [flat]
theorem flat_append (a b : List Ob) : flat (a ++ b) = flat a ++ flat b := by simp [flat]
theorem marks_cons (o : Ob) (l : List Ob) : marks (o :: l) = true :: (List.replicate o.2.length false ++ marks l) := by simp [marks]
theorem marks_append (a b : List Ob) : marks (a ++ b) = marks a ++ marks b := by simp [marks]
theorem marks_length (l : List Ob) : (marks l).length = (flat l).length := by
  induction l with
  | nil => rfl
  | cons o l ih => simp [flat_cons, marks_cons, ih]
theorem Fine.tail {o : Ob} {l : List Ob} (h : Fine (o :: l)) : Fine l := fun x hx => h x (by simp [hx])
theorem Fine.head {o : Ob} {l : List Ob} (h : Fine (o :: l)) : headB o.1 = true ∧ o.2.length = lenOf o.1 := h o (by simp)
theorem Fine.append {a b : List Ob} (ha : Fine a) (hb : Fine b) : Fine (a ++ b) := fun x hx => by
  rcases List.mem_append.1 hx with h | h
  · exact ha x h
  · exact hb x h
theorem Fine.left {a b : List Ob} (h : Fine (a ++ b)) : Fine a := fun x hx => h x (by simp [hx])
theorem Fine.right {a b : List Ob} (h : Fine (a ++ b)) : Fine b := fun x hx => h x (by simp [hx])
theorem Fine.one {o : Ob} (h : headB o.1 = true) (hl : o.2.length = lenOf o.1) : Fine [o] := fun x hx => by
  rw [List.mem_singleton] at hx; subst hx; exact ⟨h, hl⟩

theorem len_le {n : Int} (h : headB n = true) : lenOf n ≤ 4095 := by
  obtain ⟨_, _, _, h2, _⟩ := (good_iff _ _ _).1 (head_good h)
  unfold lenOf; omega

/-- Two rows of objects, of which the one's words begin as the other one's: they begin alike. -/
theorem flat_split : ∀ (pre obs : List Ob) (t : List Int), Fine pre → Fine obs → flat obs = flat pre ++ t → ∃ rest, obs = pre ++ rest ∧ flat rest = t
  | [], obs, t, _, _, h => ⟨obs, rfl, by simpa [flat_nil] using h⟩
  | o :: pre, [], t, _, _, h => by simp [flat_cons, flat_nil] at h
  | o :: pre, x :: obs, t, hp, ho, h => by
    rw [flat_cons, flat_cons, List.cons_append] at h
    injection h with h1 h2
    have l1 := hp.head.2
    have l2 := ho.head.2
    rw [List.append_assoc] at h2
    have hl : x.2.length = o.2.length := by rw [l1, l2, h1]
    obtain ⟨h3, h4⟩ := List.append_inj h2 hl
    obtain ⟨rest, e, hr⟩ := flat_split pre obs t hp.tail ho.tail h4
    refine ⟨rest, ?_, hr⟩
    rw [e]
    have : x = o := Prod.ext h1 h3
    rw [this]; rfl

/-- Nothing but objects stands there. -/
def Parses (ws : List Int) : Prop := ∃ obs, Fine obs ∧ flat obs = ws

theorem flat_uniq {a b : List Ob} (ha : Fine a) (hb : Fine b) (h : flat a = flat b) : a = b := by
  obtain ⟨rest, e, hr⟩ := flat_split a b [] ha hb (by simp [h])
  cases rest with
  | nil => simpa using e.symm
  | cons o r => simp [flat_cons] at hr

/-- One object more. -/
theorem next_ob {zs : List Int} {pre : List Ob} {a top : Nat} (hf : flat pre = zs.take a) (ha : a < top) (ht : top ≤ zs.length) (hn : a + 1 + lenOf (zs.getD a 0) ≤ zs.length) :
    flat (pre ++ [(zs.getD a 0, (zs.drop (a + 1)).take (lenOf (zs.getD a 0)))]) = zs.take (a + 1 + lenOf (zs.getD a 0)) := by
  have hlt : a < zs.length := by omega
  rw [flat_append, hf, flat_cons, flat_nil, List.append_nil]
  generalize lenOf (zs.getD a 0) = n at *
  have e : zs.getD a 0 = zs[a] := by simp [List.getD, hlt]
  rw [e]
  have h1 : zs.drop a = zs[a] :: zs.drop (a + 1) := (List.drop_eq_getElem_cons hlt)
  have h2 : zs.take (a + (1 + n)) = zs.take a ++ (zs.drop a).take (1 + n) := by rw [List.take_add]
  rw [Nat.add_assoc, h2, h1, Nat.add_comm 1 n, List.take_succ_cons]

/-- What stands at a place where all ahead of it are objects, if all up to the top are: an object's head, and all of it is ahead of the top. -/
theorem parse_next {zs : List Int} {pre : List Ob} {a top : Nat} (hp : Fine pre) (hf : flat pre = zs.take a) (ha : a < top) (ht : top ≤ zs.length) (h : Parses (zs.take top)) :
    headB (zs.getD a 0) = true ∧ a + 1 + lenOf (zs.getD a 0) ≤ top := by
  obtain ⟨obs, ho, he⟩ := h
  have hlt : a < zs.length := by omega
  have e1 : zs.take top = flat pre ++ (zs.take top).drop a := by
    rw [hf]
    have : zs.take a = (zs.take top).take a := by rw [List.take_take]; congr 1; omega
    rw [this, List.take_append_drop]
  obtain ⟨rest, e, hr⟩ := flat_split pre obs _ hp ho (he.trans e1)
  have e2 : (zs.take top).drop a = zs[a] :: (zs.take top).drop (a + 1) := by
    rw [List.drop_eq_getElem_cons (by simp; omega)]
    simp
  have eg : zs.getD a 0 = zs[a] := by simp [List.getD, hlt]
  cases rest with
  | nil => rw [flat_nil, e2] at hr; simp at hr
  | cons o r =>
    rw [flat_cons, e2] at hr
    injection hr with h1 h2
    have ho' : Fine (o :: r) := by rw [e] at ho; exact ho.right
    have h3 := ho'.head
    rw [eg, ← h1]
    refine ⟨h3.1, ?_⟩
    have := congrArg List.length h2
    simp at this
    have h4 := h3.2
    omega
end Go.Proofs.YtklhdilbmpndkaaGreat

namespace Go.Proofs.YtklhdilbmpndkaaGreat
set_option maxRecDepth 20000
open Go.RowKit
set_option linter.unusedVariables false

@[go_sem] theorem eqGuard23 (op : BinOp) (x y : Operand) (xs ys : Array Value) (w : World) : (eqGuard op 64 x y (.agg xs) (.agg ys)).run Tryz.prog w = .ok () w :=
  run_eqGuard_agg w op 64 x y xs ys (by kernel_rfl)
@[go_sem] theorem equalIn23 (a b c d e f : Int) (w : World) : (Op.equalIn 10000 64 (.agg #[.int .i64 a, .int .i64 b, .int .i64 c]) (.agg #[.int .i64 d, .int .i64 e, .int .i64 f])).run Tryz.prog w = .ok (a == d && (b == e && c == f)) w := by
  have hS : Tryz.prog.underlying 64 = some (.struct (Tryz.prog.fieldsOf 64)) := by kernel_rfl
  have hp : Tryz.prog.stoodInHeld 64 = false := by kernel_rfl
  rw [show (10000 : Nat) = 9999 + 1 from rfl, run_equalIn_agg w 9999 64 _ _ hS hp]
  simp only [Program.fieldsOf, Tryz.underlying64]
  go_simp
  by_cases h1 : a = d <;> by_cases h2 : b = e <;> by_cases h3 : c = f <;> simp [h1, h2, h3]
end Go.Proofs.YtklhdilbmpndkaaGreat

namespace Go.Proofs.YtklhdilbmpndkaaGreat
set_option maxRecDepth 20000
open Go.RowKit
set_option linter.unusedVariables false

/-- Behind a call that turned nothing old: old cells, and old marks, are as they were. -/
theorem kept {W w1 : World} (hb : Below W.heap.size W w1) : (∀ b o, b < W.heap.size → w1.cell? ⟨b, o, none⟩ = W.cell? ⟨b, o, none⟩) ∧ (∀ b o, b < W.heap.size → w1.frozen? ⟨b, o, none⟩ = W.frozen? ⟨b, o, none⟩) :=
  ⟨fun _ _ h => hb.cell h, fun _ _ h => hb.frozen h⟩

/-- One step more, behind which nothing that was there has turned. -/
theorem on {B : Nat} {a b c : World} (h : Below B a b) (hB : B ≤ b.heap.size) (k : Below b.heap.size b c) : Below B a c := h.trans (k.mono hB)

theorem packs_lt {k l p k' l' p' : Int} (hg : goodB k l p = true) (hg' : goodB k' l' p' = true) :
    (packW k l p < packW k' l' p' ↔ l < l' ∨ (l = l' ∧ (p < p' ∨ (p = p' ∧ k < k')))) := by
  obtain ⟨b1, b2, b3, b4, b5, b6, _⟩ := (good_iff k l p).1 hg
  obtain ⟨c1, c2, c3, c4, c5, c6, _⟩ := (good_iff k' l' p').1 hg'
  unfold packW; omega
theorem packs_eq {k l p k' l' p' : Int} (hg : goodB k l p = true) (hg' : goodB k' l' p' = true) :
    (packW k l p = packW k' l' p' ↔ k = k' ∧ l = l' ∧ p = p') := by
  obtain ⟨b1, b2, b3, b4, b5, b6, _⟩ := (good_iff k l p).1 hg
  obtain ⟨c1, c2, c3, c4, c5, c6, _⟩ := (good_iff k' l' p').1 hg'
  unfold packW; omega

theorem orders_bool {x y : Int} {b : Bool} (h : x < y ↔ b = true) : (decide (x < y) == b) = true := by
  cases b <;> simp at h ⊢ <;> omega

end Go.Proofs.YtklhdilbmpndkaaGreat

namespace Go.Proofs.YtklhdilbmpndkaaGreat
set_option maxRecDepth 20000
open Go.RowKit
set_option linter.unusedVariables false

/-- Block g is just these cells, of that type; none of them is frozen. -/
def Lies (w : World) (g : Nat) (t : TypeId) (cs : List Value) : Prop := w.heap[g]? = some (.cells cs.toArray t (0, 0))

section
variable {w w' : World} {g : Nat} {t : TypeId} {cs : List Value}
theorem Lies.lt (h : Lies w g t cs) : g < w.heap.size := by
  unfold Lies at h
  exact (Array.getElem?_eq_some_iff.1 h).1
theorem Lies.cell (h : Lies w g t cs) (i : Nat) : w.cell? ⟨g, i, none⟩ = cs[i]? := by
  unfold Lies at h
  simp [World.cell?, h]
theorem Lies.frozen (h : Lies w g t cs) (i : Nat) : w.frozen? ⟨g, i, none⟩ = false := by
  unfold Lies at h
  simp [World.frozen?, h]
theorem Lies.new (w : World) (t : TypeId) (cs : List Value) : Lies (w.alloc (.cells cs.toArray t)) w.heap.size t cs := by
  unfold Lies
  show (w.heap.push _)[w.heap.size]? = _
  simp
theorem Lies.of_block (h : Lies w g t cs) (e : w'.heap[g]? = w.heap[g]?) : Lies w' g t cs := e.trans h
theorem Lies.alloc (h : Lies w g t cs) (o : Obj) : Lies (w.alloc o) g t cs := h.of_block (Below.heap_alloc w o g h.lt)
theorem Lies.drew (h : Lies w g t cs) : Lies w.drew g t cs := h
theorem Lies.below {B : Nat} (h : Lies w g t cs) (hb : Below B w w') (hg : g < B) : Lies w' g t cs := h.of_block (hb.block g hg)
theorem Lies.far (h : Lies w g t cs) {p : Addr} (hp : g ≠ p.block) (u : Value) : Lies (w.setCell p u) g t cs := h.of_block (Below.heap_setCell w p u g hp)
theorem Lies.set (h : Lies w g t cs) (i : Nat) (u : Value) : Lies (w.setCell ⟨g, i, none⟩ u) g t (cs.set i u) := by
  unfold Lies at h ⊢
  simp [World.setCell, Array.getElem?_modify, h]
theorem Lies.apart {g' : Nat} {t' : TypeId} {cs' : List Value} (h : Lies w g t cs) (h' : Lies w g' t' cs') (hne : t ≠ t') : g ≠ g' := by
  rintro rfl
  unfold Lies at h h'
  rw [h] at h'
  injection h' with h'
  injection h' with _ ht
  exact hne ht
end

/-- A heap of the program: its own three cells, its words, where objects begin. -/
structure HeapAt (w : World) (g gw gb : Nat) (zs : List Int) (top : Nat) (bs : List Bool) : Prop where
  own : Lies w g 84 [.slice (some ⟨gw, 0, none⟩) zs.length zs.length, .int .i64 top, .slice (some ⟨gb, 0, none⟩) zs.length zs.length]
  words : Lies w gw 3 (zs.map (Value.int .i64))
  begins : Lies w gb 4 (bs.map Value.bool)
  same : bs.length = zs.length
  some_ : 1 ≤ zs.length
  most : zs.length ≤ 65536
  fits : top ≤ zs.length

/-- All but three blocks are as they were. -/
structure Else (g gw gb : Nat) (w w' : World) : Prop where
  os : w'.os = w.os
  tape : w'.tape = w.tape
  output : w'.output = w.output
  size : w.heap.size ≤ w'.heap.size
  block : ∀ k, k < w.heap.size → k ≠ g → k ≠ gw → k ≠ gb → w'.heap[k]? = w.heap[k]?

theorem Else.refl (g gw gb : Nat) (w : World) : Else g gw gb w w := ⟨rfl, rfl, rfl, Nat.le_refl _, fun _ _ _ _ _ => rfl⟩
theorem Else.trans {g gw gb : Nat} {a b c : World} (h : Else g gw gb a b) (k : Else g gw gb b c) : Else g gw gb a c :=
  ⟨k.os.trans h.os, k.tape.trans h.tape, k.output.trans h.output, Nat.le_trans h.size k.size, fun i hi h1 h2 h3 => (k.block i (Nat.lt_of_lt_of_le hi h.size) h1 h2 h3).trans (h.block i hi h1 h2 h3)⟩
theorem Else.of_below {g gw gb : Nat} {w w' : World} (h : Below w.heap.size w w') : Else g gw gb w w' := ⟨h.os, h.tape, h.output, h.size, fun i hi _ _ _ => h.block i hi⟩
theorem Else.below {g gw gb B : Nat} {w w' : World} (h : Else g gw gb w w') (hB : B ≤ w.heap.size) (h1 : B ≤ g) (h2 : B ≤ gw) (h3 : B ≤ gb) : Below B w w' :=
  ⟨h.os, h.tape, h.output, h.size, fun k hk => h.block k (by omega) (by omega) (by omega) (by omega)⟩
theorem Else.lies {g gw gb b : Nat} {w w' : World} {t : TypeId} {cs : List Value} (h : Else g gw gb w w') (hl : Lies w b t cs) (h1 : b ≠ g) (h2 : b ≠ gw) (h3 : b ≠ gb) : Lies w' b t cs :=
  hl.of_block (h.block b hl.lt h1 h2 h3)

section
variable {w w' : World} {g gw gb : Nat} {zs : List Int} {top : Nat} {bs : List Bool}
theorem HeapAt.of_below (h : HeapAt w g gw gb zs top bs) {B : Nat} (hb : Below B w w') (h1 : g < B) (h2 : gw < B) (h3 : gb < B) : HeapAt w' g gw gb zs top bs :=
  ⟨h.own.below hb h1, h.words.below hb h2, h.begins.below hb h3, h.same, h.some_, h.most, h.fits⟩
theorem HeapAt.kept (h : HeapAt w g gw gb zs top bs) (hb : Below w.heap.size w w') : HeapAt w' g gw gb zs top bs :=
  h.of_below hb h.own.lt h.words.lt h.begins.lt
theorem HeapAt.alloc (h : HeapAt w g gw gb zs top bs) (o : Obj) : HeapAt (w.alloc o) g gw gb zs top bs :=
  ⟨h.own.alloc o, h.words.alloc o, h.begins.alloc o, h.same, h.some_, h.most, h.fits⟩
theorem HeapAt.c0 (h : HeapAt w g gw gb zs top bs) : w.cell? ⟨g, 0, none⟩ = some (.slice (some ⟨gw, 0, none⟩) zs.length zs.length) := h.own.cell 0
theorem HeapAt.c1 (h : HeapAt w g gw gb zs top bs) : w.cell? ⟨g, 1, none⟩ = some (.int .i64 top) := h.own.cell 1
theorem HeapAt.c2 (h : HeapAt w g gw gb zs top bs) : w.cell? ⟨g, 2, none⟩ = some (.slice (some ⟨gb, 0, none⟩) zs.length zs.length) := h.own.cell 2
theorem HeapAt.w_at (h : HeapAt w g gw gb zs top bs) {i : Nat} (hi : i < zs.length) : w.cell? ⟨gw, i, none⟩ = some (.int .i64 (zs.getD i 0)) := by
  rw [h.words.cell i]; simp [List.getD, hi]
theorem HeapAt.b_at (h : HeapAt w g gw gb zs top bs) {i : Nat} (hi : i < zs.length) : w.cell? ⟨gb, i, none⟩ = some (.bool (bs.getD i false)) := by
  have := h.same
  rw [h.begins.cell i]; simp [List.getD, this, hi]
end
end Go.Proofs.YtklhdilbmpndkaaGreat
