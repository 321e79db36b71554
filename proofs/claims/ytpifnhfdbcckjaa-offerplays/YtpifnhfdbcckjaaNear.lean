/- What each of the four calls leaves, whatever it is handed; copies in blocks that are named. -/
import Derived.Test.YtpifnhfdbcckjaaLog2
namespace Go.Proofs.Ytpifnhfdbcckjaa
open Go.RowKit
set_option linter.unusedVariables false
set_option linter.unusedSimpArgs false

section
variable {w w' : World} {base g gw : Nat} {zs : List Int} {A : Option Addr} {c : Nat} {ts : List Tc}

/-- Cells behind a call that may have changed one place. -/
def Near (w w' : World) (base g gw : Nat) (zs : List Int) (A : Option Addr) (n : Nat) (same : Bool) (place : Int) : Prop :=
  ∃ A' c' zs' ts', At w' base g gw zs' A' c' ts' ∧ Else g gw (blk A) w w' ∧ zs'.length = zs.length ∧ ts'.length ≤ n + 1 ∧ ∀ k : Nat, ((k : Int) ≠ place ∨ same = true) → zs'.getD k 0 = zs.getD k 0

theorem near_none (h : At w base g gw zs A c ts) (hb : Below w.heap.size w w') (same : Bool) (place : Int) : Near w w' base g gw zs A ts.length same place :=
  ⟨A, c, zs, ts, h.kept hb, Else.of_below hb, rfl, by omega, fun _ _ => rfl⟩
theorem near_did {t : Tc} {p : Nat} {x : Int} (d : Did w w' base g gw A (zs.set p x) (ts ++ [t])) : Near w w' base g gw zs A ts.length false p := by
  obtain ⟨A', c', h, e, _⟩ := d
  refine ⟨A', c', _, _, h, e, by simp, by simp, fun k hk => ?_⟩
  rcases hk with hk | hk
  · have : p ≠ k := by omega
    simp [List.getD, List.getElem?_set, this]
  · cases hk
theorem near_same {t : Tc} {same : Bool} {place : Int} (d : Did w w' base g gw A zs (ts ++ [t])) : Near w w' base g gw zs A ts.length same place := by
  obtain ⟨A', c', h, e, _⟩ := d
  exact ⟨A', c', _, _, h, e, rfl, by simp, fun _ _ => rfl⟩

theorem nat_of {place : Int} {n : Nat} (h : 0 ≤ place ∧ place < n) : ∃ p : Nat, place = p ∧ p < n := ⟨place.toNat, by omega, by omega⟩

theorem load_near (h : At w base g gw zs A c ts) (hn : ts.length ≤ 30000) (who place : Int) :
    Calls Try.prog 17 #[.pointer (some ⟨g, 0, none⟩), .int .i64 who, .int .i64 place] w fun e w' => ∃ v, e = .returned v ∧ Near w w' base g gw zs A ts.length true place := by
  by_cases hg : 0 ≤ who ∧ who < 64 ∧ 0 ≤ place ∧ place < zs.length
  · obtain ⟨h0, h1, h2⟩ := hg
    obtain ⟨p, rfl, hp⟩ := nat_of h2
    exact (load_yes h hn who p h0 h1 hp _ rfl).mono fun e w' ⟨he, hd⟩ => ⟨_, he, near_same hd⟩
  · exact (load_no h who place hg).mono fun e w' ⟨he, hd⟩ => ⟨_, he, near_none h hd _ _⟩
theorem add_near (h : At w base g gw zs A c ts) (hn : ts.length ≤ 30000) (who place n : Int) :
    Calls Try.prog 16 #[.pointer (some ⟨g, 0, none⟩), .int .i64 who, .int .i64 place, .int .i64 n] w fun e w' => ∃ v, e = .returned v ∧ Near w w' base g gw zs A ts.length false place := by
  by_cases hg : 0 ≤ who ∧ who < 64 ∧ 0 ≤ place ∧ place < zs.length
  · obtain ⟨h0, h1, h2⟩ := hg
    obtain ⟨p, rfl, hp⟩ := nat_of h2
    exact (add_yes h hn who p n h0 h1 hp _ rfl).mono fun e w' ⟨he, hd⟩ => ⟨_, he, near_did hd⟩
  · exact (add_no h who place n hg).mono fun e w' ⟨he, hd⟩ => ⟨_, he, near_none h hd _ _⟩
theorem swap_near (h : At w base g gw zs A c ts) (hn : ts.length ≤ 30000) (who place old n : Int) :
    Calls Try.prog 18 #[.pointer (some ⟨g, 0, none⟩), .int .i64 who, .int .i64 place, .int .i64 old, .int .i64 n] w fun e w' => ∃ v, e = .returned v ∧ Near w w' base g gw zs A ts.length false place := by
  by_cases hg : 0 ≤ who ∧ who < 64 ∧ 0 ≤ place ∧ place < zs.length
  · obtain ⟨h0, h1, h2⟩ := hg
    obtain ⟨p, rfl, hp⟩ := nat_of h2
    by_cases he : zs.getD p 0 = old
    · exact (swap_hit h hn who p old n h0 h1 hp _ rfl he).mono fun e w' ⟨he, hd⟩ => ⟨_, he, near_did hd⟩
    · exact (swap_miss h hn who p old n h0 h1 hp _ rfl he).mono fun e w' ⟨he, hd⟩ => ⟨_, he, near_did hd⟩
  · exact (swap_no h who place old n hg).mono fun e w' ⟨he, hd⟩ => ⟨_, he, near_none h hd _ _⟩

theorem words_q (h : At w base g gw zs A c ts) : Calls Try.prog 19 #[.pointer (some ⟨g, 0, none⟩)] w fun e w' => ∃ q, e = .returned (.slice (some ⟨q, 0, none⟩) zs.length zs.length) ∧ w.heap.size ≤ q ∧ Lies w' q 3 (zs.map (Value.int .i64)) ∧ Below w.heap.size w w' :=
  (words_any h).mono fun e w' ⟨he, h1, h2⟩ => ⟨_, he, Nat.le_refl _, h1, h2⟩
theorem log_q (h : At w base g gw zs A c ts) (hn : ts.length ≤ 30000) : Calls Try.prog 20 #[.pointer (some ⟨g, 0, none⟩)] w fun e w' => ∃ q, e = .returned (.slice (some ⟨q, 0, none⟩) ts.length ts.length) ∧ w.heap.size ≤ q ∧ Lies w' q 58 (cellsT ts) ∧ Below w.heap.size w w' :=
  (log_any h hn).mono fun e w' ⟨he, h1, h2⟩ => ⟨_, he, Nat.le_refl _, h1, h2⟩

/-- The row's block is of touches. -/
theorem At.row_lies (h : At w base g gw zs A c ts) {k : Nat} (hk : blk A = some k) : ∃ cs, Lies w k 58 cs := by
  obtain ⟨_, ⟨e, _⟩ | ⟨q, cap, cur, e, _, hq, _⟩⟩ := h.log
  · injection e with e; subst e; cases hk
  · injection e with e; subst e
    obtain rfl : q = k := by simpa [blk] using hk
    exact ⟨cur.toList, hq⟩
theorem At.not_row (h : At w base g gw zs A c ts) {b : Nat} {t : TypeId} {cs : List Value} (hl : Lies w b t cs) (ht : t ≠ 58) : some b ≠ blk A := fun e => by
  obtain ⟨cs', h'⟩ := h.row_lies e.symm
  exact hl.apart h' ht rfl
theorem At.else_lies {b : Nat} {t : TypeId} {cs : List Value} (h : At w base g gw zs A c ts) (e : Else g gw (blk A) w w') (hl : Lies w b t cs) (h1 : t ≠ 53) (h2 : t ≠ 58) (h3 : b ≠ gw) : Lies w' b t cs :=
  e.lies hl (hl.apart h.own h1) h3 (h.not_row hl h2)
theorem At.far {q : Nat} {xs : List Value} (h : At w base g gw zs A c ts) (hq : Lies w q 3 xs) (hne : q ≠ gw) (i : Nat) (u : Value) : At (w.setCell ⟨q, i, none⟩ u) base g gw zs A c ts :=
  ⟨h.own.far (p := ⟨q, i, none⟩) (hq.apart h.own (by decide)).symm u, h.words.far (p := ⟨q, i, none⟩) hne.symm u,
   owns_of_block h.log fun k hk => Below.heap_setCell w _ _ k (fun e => h.not_row hq (by decide) (by rw [own_blk] at hk; rw [hk]; exact congrArg some e.symm)), h.some_, h.most, h.lo, h.lo'⟩
end
end Go.Proofs.Ytpifnhfdbcckjaa
