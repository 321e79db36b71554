/- Bits of numbers: how many are set, which is the first one; numbers told byte by byte. Of no program. -/
import Derived.Lib.TrailingZeros
import Derived.Laws.BitsAllLaws
namespace Go.Proofs.YtiomiaciaefbaaaDoor
set_option linter.unusedVariables false
set_option linter.unusedSimpArgs false

/-- How many of the first n are so. -/
def cnt (f : Nat → Bool) : Nat → Nat
  | 0 => 0
  | n + 1 => cnt f n + (f n).toNat
theorem cnt_zero (f : Nat → Bool) : cnt f 0 = 0 := rfl
theorem cnt_succ (f : Nat → Bool) (n : Nat) : cnt f (n + 1) = cnt f n + (f n).toNat := rfl
theorem cnt_le (f : Nat → Bool) : ∀ n, cnt f n ≤ n
  | 0 => Nat.le_refl _
  | n + 1 => by have := cnt_le f n; rw [cnt_succ]; cases f n <;> simp <;> omega
theorem cnt_congr {f g : Nat → Bool} : ∀ n, (∀ i, i < n → f i = g i) → cnt f n = cnt g n
  | 0, _ => rfl
  | n + 1, h => by rw [cnt_succ, cnt_succ, cnt_congr n fun i hi => h i (by omega), h n (by omega)]
theorem cnt_add (f : Nat → Bool) (a : Nat) : ∀ n, cnt f (a + n) = cnt f a + cnt (fun i => f (a + i)) n
  | 0 => rfl
  | n + 1 => by rw [← Nat.add_assoc, cnt_succ, cnt_succ, cnt_add f a n]; omega
theorem cnt_none {f : Nat → Bool} : ∀ n, (∀ i, i < n → f i = false) → cnt f n = 0
  | 0, _ => rfl
  | n + 1, h => by rw [cnt_succ, cnt_none n fun i hi => h i (by omega), h n (by omega)]; rfl

/-- From place to place. -/
def span (f : Nat → Bool) (a b : Nat) : Nat := cnt (fun i => f (a + i)) (b - a)
theorem span_self (f : Nat → Bool) (a : Nat) : span f a a = 0 := by simp [span, cnt]
theorem span_le (f : Nat → Bool) (a b : Nat) : span f a b ≤ b - a := cnt_le _ _
theorem span_add (f : Nat → Bool) (a b c : Nat) (h1 : a ≤ b) (h2 : b ≤ c) : span f a c = span f a b + span f b c := by
  unfold span
  rw [show c - a = (b - a) + (c - b) from by omega, cnt_add]
  congr 1
  apply cnt_congr
  intro i _
  rw [show a + (b - a + i) = b + i from by omega]
theorem span_zero (f : Nat → Bool) (n : Nat) : span f 0 n = cnt f n := by unfold span; apply cnt_congr; intro i _; rw [Nat.zero_add]

/-- So many bits of a number. -/
def pop (n x : Nat) : Nat := cnt x.testBit n
theorem pop_zero (x : Nat) : pop 0 x = 0 := rfl
theorem pop_split (a n x : Nat) : pop (a + n) x = pop a x + pop n (x / 2 ^ a) := by
  unfold pop
  rw [cnt_add]
  congr 1
  apply cnt_congr
  intro i _
  rw [Nat.testBit_div_two_pow, Nat.add_comm]
theorem pop_mod (a n x : Nat) (h : a ≤ n) : pop a (x % 2 ^ n) = pop a x := by
  unfold pop
  apply cnt_congr
  intro i hi
  rw [Nat.testBit_mod_two_pow]
  simp; omega

/-! Byte by byte. -/
def rep (g : Nat → Nat) : Nat → Nat → Nat
  | 0, _ => 0
  | k + 1, x => g (x % 256) + 256 * rep g k (x / 256)
def msk (c : Nat) : Nat → Nat
  | 0 => 0
  | k + 1 => c + 256 * msk c k
theorem and_byte (a b c d : Nat) (ha : a < 256) (hc : c < 256) : (a + 256 * b) &&& (c + 256 * d) = (a &&& c) + 256 * (b &&& d) := by
  have h1 : ((a + 256 * b) &&& (c + 256 * d)) % 2 ^ 8 = a &&& c := by
    rw [Nat.and_mod_two_pow]
    congr 1 <;> omega
  have h2 : ((a + 256 * b) &&& (c + 256 * d)) / 2 ^ 8 = b &&& d := by
    rw [Nat.and_div_two_pow]
    congr 1 <;> omega
  have h3 := Nat.div_add_mod ((a + 256 * b) &&& (c + 256 * d)) (2 ^ 8)
  rw [h1, h2] at h3
  omega
theorem and_byte' (x c d : Nat) (hc : c < 256) : x &&& (c + 256 * d) = (x % 256 &&& c) + 256 * (x / 256 &&& d) := by
  have := and_byte (x % 256) (x / 256) c d (Nat.mod_lt _ (by decide)) hc
  rwa [Nat.mod_add_div] at this
theorem rep_lt (g : Nat → Nat) (hg : ∀ b, b < 256 → g b < 256) : ∀ k x, rep g k x < 256 ^ k
  | 0, _ => by simp [rep]
  | k + 1, x => by
    have h1 := rep_lt g hg k (x / 256)
    have h2 := hg (x % 256) (Nat.mod_lt _ (by decide))
    rw [rep, Nat.pow_succ]
    omega

def f1 (b : Nat) : Nat := (b / 2 &&& 85) + (b &&& 85)
def f2 (b : Nat) : Nat := (b / 4 &&& 51) + (b &&& 51)
def f3 (b : Nat) : Nat := (b / 16 + b) &&& 15
theorem fin1 : ∀ b : Fin 256, ∀ c : Fin 2, ((b.val / 2 + 128 * c.val) &&& 85) = (b.val / 2 &&& 85) := by decide +kernel
theorem fin2 : ∀ b : Fin 256, ∀ c : Fin 4, ((b.val / 4 + 64 * c.val) &&& 51) = (b.val / 4 &&& 51) := by decide +kernel
theorem fin3 : ∀ b : Fin 256, ∀ c : Fin 5, ((f2 (f1 b.val) / 16 + 16 * c.val + f2 (f1 b.val)) % 256 &&& 15) = f3 (f2 (f1 b.val)) := by decide +kernel
theorem fin4 : ∀ b : Fin 256, f1 b.val < 256 ∧ f2 (f1 b.val) < 256 ∧ f2 (f1 b.val) % 16 ≤ 4 ∧ f2 (f1 b.val) / 16 ≤ 4 ∧ f3 (f2 (f1 b.val)) = pop 8 b.val := by decide +kernel

theorem st1 : ∀ k x, (x / 2 &&& msk 85 k) + (x &&& msk 85 k) = rep f1 k x
  | 0, x => by simp [msk, rep]
  | k + 1, x => by
    have ih := st1 k (x / 256)
    rw [msk, and_byte' (x / 2) 85 _ (by decide), and_byte' x 85 _ (by decide), rep]
    have e1 : x / 2 % 256 = x % 256 / 2 + 128 * (x / 256 % 2) := by omega
    have e2 : x / 2 / 256 = x / 256 / 2 := by omega
    have e3 := fin1 ⟨x % 256, Nat.mod_lt _ (by decide)⟩ ⟨x / 256 % 2, Nat.mod_lt _ (by decide)⟩
    simp only at e3
    have e4 : f1 (x % 256) = (x % 256 / 2 &&& 85) + (x % 256 &&& 85) := rfl
    rw [e1, e2, e3, ← ih, e4]
    omega
theorem st2 (g : Nat → Nat) (hg : ∀ b, b < 256 → g b < 256) : ∀ k x, (rep g k x / 4 &&& msk 51 k) + (rep g k x &&& msk 51 k) = rep (fun b => f2 (g b)) k x
  | 0, x => by simp [msk, rep]
  | k + 1, x => by
    have ih := st2 g hg k (x / 256)
    have hb := hg (x % 256) (Nat.mod_lt _ (by decide))
    simp only [rep] at ih ⊢
    obtain ⟨r, hr⟩ : ∃ r, rep g k (x / 256) = r := ⟨_, rfl⟩
    rw [hr] at ih ⊢
    generalize g (x % 256) = b at *
    rw [msk, and_byte' ((b + 256 * r) / 4) 51 _ (by decide), and_byte b r 51 _ hb (by decide), ← ih]
    have e1 : (b + 256 * r) / 4 % 256 = b / 4 + 64 * (r % 4) := by omega
    have e2 : (b + 256 * r) / 4 / 256 = r / 4 := by omega
    have e3 := fin2 ⟨b, hb⟩ ⟨r % 4, Nat.mod_lt _ (by decide)⟩
    simp only at e3
    rw [e1, e2, e3]
    unfold f2
    omega
theorem rep_low (k x : Nat) : rep (fun b => f2 (f1 b)) k x % 16 ≤ 4 := by
  cases k with
  | zero => simp [rep]
  | succ k =>
    have := (fin4 ⟨x % 256, Nat.mod_lt _ (by decide)⟩).2.2.1
    simp only at this
    rw [rep]
    omega
theorem st3 : ∀ k x, (rep (fun b => f2 (f1 b)) k x / 16 + rep (fun b => f2 (f1 b)) k x) &&& msk 15 k = rep (pop 8) k x
  | 0, x => by simp [msk, rep]
  | k + 1, x => by
    have ih := st3 k (x / 256)
    have hx : x % 256 < 256 := Nat.mod_lt _ (by decide)
    obtain ⟨q1, q2, q3, q4, q5⟩ := fin4 ⟨x % 256, hx⟩
    have hl := rep_low k (x / 256)
    simp only at q1 q2 q3 q4 q5
    have e3 := fin3 ⟨x % 256, hx⟩ ⟨rep (fun b => f2 (f1 b)) k (x / 256) % 16, by omega⟩
    simp only at e3
    simp only [rep] at ih ⊢
    obtain ⟨r, hr⟩ : ∃ r, rep (fun b => f2 (f1 b)) k (x / 256) = r := ⟨_, rfl⟩
    rw [hr] at ih e3 hl ⊢
    obtain ⟨b, hb⟩ : ∃ b, f2 (f1 (x % 256)) = b := ⟨_, rfl⟩
    rw [hb] at e3 q2 q3 q4 q5 ⊢
    rw [msk, and_byte' _ 15 _ (by decide), ← ih, ← q5, ← e3]
    have h1 : ((b + 256 * r) / 16 + (b + 256 * r)) % 256 = (b / 16 + 16 * (r % 16) + b) % 256 := by omega
    have h2 : ((b + 256 * r) / 16 + (b + 256 * r)) / 256 = r / 16 + r := by omega
    rw [h1, h2]
theorem pop8_le (x : Nat) : pop 8 x ≤ 8 := cnt_le _ _
theorem rep_pop (k x : Nat) : pop (8 * (k + 1)) x = pop 8 (x % 256) + pop (8 * k) (x / 256) := by
  have h1 := pop_split 8 (8 * k) x
  have h2 := pop_mod 8 8 x (Nat.le_refl _)
  rw [show 8 * (k + 1) = 8 + 8 * k from by omega, h1, ← h2]
theorem rep_eight (g : Nat → Nat) (x : Nat) : rep g 8 x = g (x % 256) + 256 * (g (x / 256 % 256) + 256 * (g (x / 256 / 256 % 256) + 256 * (g (x / 256 / 256 / 256 % 256) + 256 * (g (x / 256 / 256 / 256 / 256 % 256) + 256 * (g (x / 256 / 256 / 256 / 256 / 256 % 256) + 256 * (g (x / 256 / 256 / 256 / 256 / 256 / 256 % 256) + 256 * (g (x / 256 / 256 / 256 / 256 / 256 / 256 / 256 % 256) + 256 * 0))))))) := rfl
theorem sum_eight (p0 p1 p2 p3 p4 p5 p6 p7 y : Nat) (b0 : p0 ≤ 8) (b1 : p1 ≤ 8) (b2 : p2 ≤ 8) (b3 : p3 ≤ 8) (b4 : p4 ≤ 8) (b5 : p5 ≤ 8) (b6 : p6 ≤ 8) (b7 : p7 ≤ 8)
    (hy : p0 + 256 * (p1 + 256 * (p2 + 256 * (p3 + 256 * (p4 + 256 * (p5 + 256 * (p6 + 256 * (p7 + 256 * 0))))))) = y) :
    y < 18446744073709551616 ∧ y + y / 256 < 18446744073709551616 ∧ y + y / 256 + (y + y / 256) / 65536 < 18446744073709551616 ∧
    y + y / 256 + (y + y / 256) / 65536 + (y + y / 256 + (y + y / 256) / 65536) / 4294967296 < 9223372036854775808 ∧
    (y + y / 256 + (y + y / 256) / 65536 + (y + y / 256 + (y + y / 256) / 65536) / 4294967296) % 128 = p0 + (p1 + (p2 + (p3 + (p4 + (p5 + (p6 + p7)))))) := by
  have c1 : y / 256 = p1 + 256 * (p2 + 256 * (p3 + 256 * (p4 + 256 * (p5 + 256 * (p6 + 256 * p7))))) := by omega
  obtain ⟨z, hz⟩ : ∃ z, y + y / 256 = z := ⟨_, rfl⟩
  rw [hz]
  have c2 : z = (p0 + p1) + 256 * ((p1 + p2) + 256 * ((p2 + p3) + 256 * ((p3 + p4) + 256 * ((p4 + p5) + 256 * ((p5 + p6) + 256 * ((p6 + p7) + 256 * p7)))))) := by omega
  have c0 : y < 18446744073709551616 := by omega
  clear hy hz c1
  have c3 : z / 65536 = (p2 + p3) + 256 * ((p3 + p4) + 256 * ((p4 + p5) + 256 * ((p5 + p6) + 256 * ((p6 + p7) + 256 * p7)))) := by omega
  obtain ⟨u, hu⟩ : ∃ u, z + z / 65536 = u := ⟨_, rfl⟩
  rw [hu]
  have c4 : u = (p0 + p1 + p2 + p3) + 256 * ((p1 + p2 + p3 + p4) + 256 * ((p2 + p3 + p4 + p5) + 256 * ((p3 + p4 + p5 + p6) + 256 * ((p4 + p5 + p6 + p7) + 256 * ((p5 + p6 + p7) + 256 * ((p6 + p7) + 256 * p7)))))) := by omega
  have c6 : z < 18446744073709551616 := by omega
  clear hu c3 c2
  have c5 : u / 4294967296 = (p4 + p5 + p6 + p7) + 256 * ((p5 + p6 + p7) + 256 * ((p6 + p7) + 256 * p7)) := by omega
  exact ⟨c0, c6, by omega, by omega, by omega⟩
theorem pop64 (x : Nat) : pop 64 x = pop 8 (x % 256) + (pop 8 (x / 256 % 256) + (pop 8 (x / 256 / 256 % 256) + (pop 8 (x / 256 / 256 / 256 % 256) + (pop 8 (x / 256 / 256 / 256 / 256 % 256) + (pop 8 (x / 256 / 256 / 256 / 256 / 256 % 256) + (pop 8 (x / 256 / 256 / 256 / 256 / 256 / 256 % 256) + pop 8 (x / 256 / 256 / 256 / 256 / 256 / 256 / 256 % 256))))))) := by
  have h7 := rep_pop 7 x
  have h6 := rep_pop 6 (x / 256)
  have h5 := rep_pop 5 (x / 256 / 256)
  have h4 := rep_pop 4 (x / 256 / 256 / 256)
  have h3 := rep_pop 3 (x / 256 / 256 / 256 / 256)
  have h2 := rep_pop 2 (x / 256 / 256 / 256 / 256 / 256)
  have h1 := rep_pop 1 (x / 256 / 256 / 256 / 256 / 256 / 256)
  have h0 := (pop_mod 8 8 (x / 256 / 256 / 256 / 256 / 256 / 256 / 256) (Nat.le_refl _)).symm
  exact h7.trans (congrArg _ (h6.trans (congrArg _ (h5.trans (congrArg _ (h4.trans (congrArg _ (h3.trans (congrArg _ (h2.trans (congrArg _ (h1.trans (congrArg _ h0)))))))))))))
theorem sum8 (x : Nat) : ∃ y, y = rep (pop 8) 8 x ∧ y < 18446744073709551616 ∧ y + y / 256 < 18446744073709551616 ∧ y + y / 256 + (y + y / 256) / 65536 < 18446744073709551616 ∧
    y + y / 256 + (y + y / 256) / 65536 + (y + y / 256 + (y + y / 256) / 65536) / 4294967296 < 9223372036854775808 ∧
    (y + y / 256 + (y + y / 256) / 65536 + (y + y / 256 + (y + y / 256) / 65536) / 4294967296) % 128 = pop 64 x := by
  refine ⟨_, rfl, ?_⟩
  rw [pop64]
  exact sum_eight _ _ _ _ _ _ _ _ _ (pop8_le _) (pop8_le _) (pop8_le _) (pop8_le _) (pop8_le _) (pop8_le _) (pop8_le _) (pop8_le _) (rep_eight (pop 8) x).symm
end Go.Proofs.YtiomiaciaefbaaaDoor
