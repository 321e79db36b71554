/- DequeShared: whichever worker steps next. -/
import Derived.Test.YteaffpkmidaghaaTake
namespace Go.Proofs.Yteaffpkmidaghaa
open Go.RowKit Go.Maps
set_option linter.unusedVariables false
set_option linter.unusedSimpArgs false

theorem enter16 (args : Array Value) (W : World) : (callFunc 16 args).run Try.prog W = .ok (.enter 16 args) W := by
  simp [callFunc, go_sem, Try.func16]
  kernel_rfl
theorem enter18 (args : Array Value) (W : World) : (callFunc 18 args).run Try.prog W = .ok (.enter 18 args) W := by
  simp [callFunc, go_sem, Try.func18]
  kernel_rfl

theorem stepc_none {w : World} {x : Bx} {kk : Nat} (hk4 : kk < 4) (a0 : w.cell? ⟨x.bc, kk, none⟩ = some (.pointer none)) :
    Calls Try.prog 18 #[.int .i64 kk, .pointer (some ⟨x.bc, 0, none⟩), .pointer (some ⟨x.bt, 0, none⟩)] w fun e w' => e = .returned (.bool true) ∧ w = w' := by
  have q31 : ∀ W : World, (binOp .eql 31 (.pointer none) (.pointer none)).run Try.prog W = .ok (.bool true) W := fun _ => by kernel_rfl
  have hk6 : (kk : Int) < 4 := by omega
  have hk0 : (0 : Int) ≤ (kk : Int) := by omega
  go_enter Try.func18, Try.ntmps18
  go_wp2
  go_ret
  exact ⟨rfl, rfl⟩
set_option maxHeartbeats 1000000 in
theorem stepc_some {w : World} {x : Bx} {kk gc : Nat} {P : World → Prop} (hk4 : kk < 4) (a0 : w.cell? ⟨x.bc, kk, none⟩ = some (.pointer (some ⟨gc, 0, none⟩)))
    (hS : Calls Try.prog 19 #[.pointer (some ⟨gc, 0, none⟩)] w fun e w1 => (e = .returned (.bool false) ∧ P w1) ∨ (e = .returned (.bool true) ∧ w1.cell? ⟨x.bt, 0, none⟩ = some (.func (.func 16) #[] x.caps) ∧
      Calls Try.prog 16 #[.int .i64 kk, .pointer (some ⟨x.bc, 0, none⟩), .pointer (some ⟨x.bp, 0, none⟩), .pointer (some ⟨x.bw, 0, none⟩), .pointer (some ⟨x.bn, 0, none⟩)] w1 fun e w' => e = .returned (.bool true) ∧ P w')) :
    Calls Try.prog 18 #[.int .i64 kk, .pointer (some ⟨x.bc, 0, none⟩), .pointer (some ⟨x.bt, 0, none⟩)] w fun e w' => e = .returned (.bool true) ∧ P w' := by
  have n1 := nil31
  have hk6 : (kk : Int) < 4 := by omega
  have hk0 : (0 : Int) ≤ (kk : Int) := by omega
  have hen := enter16
  have HS := Lib.hid hS
  clear hS
  go_enter Try.func18, Try.ntmps18
  go_wp2_with fail
  refine HS.out.mono ?_
  rintro e w1 (⟨rfl, p⟩ | ⟨rfl, c1, T⟩)
  · have HP := Lib.hid p
    clear p
    go_wp2
    go_ret
    exact ⟨rfl, HP.out⟩
  · have HT := Lib.hid T
    clear T HS a0
    simp only [Bx.caps] at c1
    go_wp2_with fail
    refine HT.out.mono ?_
    rintro e w2 ⟨rfl, p⟩
    have HP := Lib.hid p
    clear p
    go_wp2
    go_ret
    exact ⟨rfl, HP.out⟩

/-- The owner's call. -/
def ownOf (cs : List (Option (Nat × Cl))) : Option Cl := match cs[0]? with
  | some (some (_, cl)) => some cl
  | _ => none
theorem ownOf_some {cs : List (Option (Nat × Cl))} {gc : Nat} {cl : Cl} (h : cs[0]? = some (some (gc, cl))) : ownOf cs = some cl := by simp [ownOf, h]
theorem ownOf_none {cs : List (Option (Nat × Cl))} (h : cs[0]? = some none) : ownOf cs = none := by simp [ownOf, h]
theorem ownOf_set {cs : List (Option (Nat × Cl))} {i : Nat} (hi : 0 < i) (o : Option (Nat × Cl)) : ownOf (cs.set i o) = ownOf cs := by
  have : (cs.set i o)[0]? = cs[0]? := List.getElem?_set_ne (by omega)
  simp [ownOf, this]

/-- What holds of the words. -/
structure Math (oc : Option Cl) (row : List Int) (nx pu : Int) (f : Int → Int) : Prop where
  nodup : row.Nodup
  rng : ∀ y ∈ row, 0 < y ∧ y < nx
  f_ : ∀ y, f y = if y ∈ row then 1 else 0
  none_ : oc = none → pu = 0
  push_ : ∀ c, oc = some c → Pushes c → pu = c.word ∧ 0 < pu ∧ pu < nx ∧ pu ∉ row
  pop_ : ∀ c, oc = some c → ¬ Pushes c → pu = 0

/-- All of it, between two steps. -/
def Sta (w0 w : World) (x : Bx) (cs : List (Option (Nat × Cl))) (nx : Int) (k mm : Nat) : Prop :=
  ∃ t tag hi row pu f, Core w0 w x cs (ownOf cs) row t tag hi nx pu f k mm ∧ Math (ownOf cs) row nx pu f ∧ (∀ (i gc : Nat) (cl : Cl), cs[i]? = some (some (gc, cl)) → cl.nx ≠ 0) ∧ tag ≤ k

section
variable {w0 w w' : World} {x : Bx} {cs : List (Option (Nat × Cl))} {nx pu : Int} {k mm kk gc : Nat} {cl : Cl} {row row' : List Int} {f : Int → Int} {oc : Option Cl}

theorem Math.gone {y : Int} (m : Math oc row nx pu f) (hy : y ∈ row) (hrow : ∀ z, z ∈ row' ↔ z ∈ row ∧ z ≠ y) (hn : row'.Nodup) : Math oc row' nx pu (fun z => if z = y then 0 else f z) := by
  refine ⟨hn, fun z hz => m.rng z ((hrow z).1 hz).1, fun z => ?_, m.none_, fun c hc hp => ?_, m.pop_⟩
  · show (if z = y then 0 else f z) = _
    by_cases e : z = y
    · have : ¬ z ∈ row' := fun h => ((hrow z).1 h).2 e
      rw [if_pos e, if_neg this]
    · rw [if_neg e, m.f_ z]
      by_cases hz : z ∈ row
      · rw [if_pos hz, if_pos ((hrow z).2 ⟨hz, e⟩)]
      · rw [if_neg hz, if_neg (fun h => hz ((hrow z).1 h).1)]
  · obtain ⟨a, b, c', d⟩ := m.push_ c hc hp
    exact ⟨a, b, c', fun h => d ((hrow pu).1 h).1⟩
theorem head_gone {y : Int} {r : List Int} (h : (y :: r).Nodup) : (∀ z, z ∈ r ↔ z ∈ y :: r ∧ z ≠ y) ∧ r.Nodup := by
  rw [List.nodup_cons] at h
  refine ⟨fun z => ⟨fun hz => ⟨List.mem_cons_of_mem _ hz, fun e => h.1 (e ▸ hz)⟩, fun ⟨hz, hne⟩ => ?_⟩, h.2⟩
  rcases List.mem_cons.1 hz with e | hz
  · exact absurd e hne
  · exact hz
theorem last_gone {y : Int} {r : List Int} (h : (r ++ [y]).Nodup) : (∀ z, z ∈ r ↔ z ∈ r ++ [y] ∧ z ≠ y) ∧ r.Nodup := by
  rw [List.nodup_append] at h
  refine ⟨fun z => ⟨fun hz => ⟨List.mem_append_left _ hz, fun e => h.2.2 z hz y (by simp) e⟩, fun ⟨hz, hne⟩ => ?_⟩, h.1⟩
  rcases List.mem_append.1 hz with hz | hz
  · exact hz
  · exact absurd (by simpa using hz) hne

/-- What a pick leaves of the others, and of its own call. -/
def Moved1 (cs cs' : List (Option (Nat × Cl))) (kk : Nat) : Prop :=
  (∀ i, i ≠ kk → cs'[i]? = cs[i]?) ∧ (∀ (gc : Nat) (cl' : Cl), cs'[kk]? = some (some (gc, cl')) → ∃ gc0 cl, cs[kk]? = some (some (gc0, cl)) ∧ rank cl'.nx < rank cl.nx)
theorem moved_some {gc : Nat} {cl cl' : Cl} (hc : cs[kk]? = some (some (gc, cl))) (hr : rank cl'.nx < rank cl.nx) : Moved1 cs (cs.set kk (some (gc, cl'))) kk := by
  refine ⟨fun i hi => List.getElem?_set_ne (fun e => hi e.symm), fun g c h => ?_⟩
  rcases set_some h with ⟨_, e⟩ | ⟨e, _⟩
  · injection e with e; injection e with e1 e2; subst e2
    exact ⟨gc, cl, hc, hr⟩
  · exact absurd rfl e
theorem moved_none : Moved1 cs (cs.set kk none) kk := by
  refine ⟨fun i hi => List.getElem?_set_ne (fun e => hi e.symm), fun g c h => ?_⟩
  rcases set_some h with ⟨_, e⟩ | ⟨e, _⟩
  · cases e
  · exact absurd rfl e
theorem live_set {o : Option (Nat × Cl)} (lv : ∀ (i gc : Nat) (cl : Cl), cs[i]? = some (some (gc, cl)) → cl.nx ≠ 0) (ho : ∀ gc cl, o = some (gc, cl) → cl.nx ≠ 0) : ∀ (i gc : Nat) (cl : Cl), (cs.set kk o)[i]? = some (some (gc, cl)) → cl.nx ≠ 0 := by
  intro i gc cl h
  rcases set_some h with ⟨_, e⟩ | ⟨_, h⟩
  · exact ho gc cl e.symm
  · exact lv i gc cl h

theorem Core.more {t tag hi : Nat} (h : Core w0 w x cs oc row t tag hi nx pu f k mm) {k' mm' : Nat} (h1 : k ≤ k') (h2 : mm ≤ mm') : Core w0 w x cs oc row t tag hi nx pu f k' mm' := by
  obtain ⟨D, hD, hT⟩ := h.mp
  exact ⟨h.conc.more h1, h.clen, h.pu_, h.wh, ⟨D, hD.mono h2, hT⟩, h.nx_, h.tk, h.n1, h.n2, h.n3, h.l1, h.l2, h.l3⟩
theorem getElem_set (hl : cs.length = 4) (hk4 : kk < 4) (o : Option (Nat × Cl)) : (cs.set kk o)[kk]? = some o := List.getElem?_set_self (by omega)

theorem pick_any (h : Sta w0 w x cs nx k mm) (hk4 : kk < 4) (hk : k ≤ 900) (hm : mm ≤ 10000) (hnx : nx ≤ 1000) :
    Calls Try.prog 18 #[.int .i64 kk, .pointer (some ⟨x.bc, 0, none⟩), .pointer (some ⟨x.bt, 0, none⟩)] w fun e w' => e = .returned (.bool true) ∧ ∃ cs', Sta w0 w' x cs' nx (k + 1) (mm + 1) ∧ Moved1 cs cs' kk := by
  obtain ⟨t, tag, hi, row, pu, f, C, M, lv, htag⟩ := h
  obtain ⟨o, ho⟩ : ∃ o, cs[kk]? = some o := ⟨cs[kk]'(by rw [C.clen]; exact hk4), List.getElem?_eq_getElem _⟩
  cases o with
  | none =>
    refine (stepc_none hk4 (C.conc.cell ho)).mono ?_
    rintro e w' ⟨rfl, rfl⟩
    exact ⟨rfl, cs, ⟨t, tag, hi, row, pu, f, C.more (by omega) (by omega), M, lv, by omega⟩, fun i _ => rfl, fun gc cl' e => by rw [ho] at e; cases e⟩
  | some p =>
    obtain ⟨gc, cl⟩ := p
    refine stepc_some hk4 (C.conc.cell ho) ?_
    by_cases hk0 : 0 < kk
    · refine (thief_anyb C.conc ho hk0 (lv _ _ _ ho) (by omega)).mono ?_
      rintro e w1 ⟨cl', t', row', rfl, H1, out, K, hr⟩
      have C1 := C.step ho K H1 (by simpa using C.clen)
      have hc1 := getElem_set (o := some (gc, cl')) C.clen hk4
      rcases out with ⟨h0, rfl⟩ | ⟨h0, he, hrow⟩ | ⟨h0, he, hw, rfl⟩
      · left
        refine ⟨by rw [decide_eq_false h0], cs.set kk (some (gc, cl')), ⟨t', tag, hi, row', pu, f, ?_, ?_, live_set lv (fun _ _ e => by injection e with e; injection e with _ e; subst e; exact h0), by omega⟩, moved_some ho hr⟩
        · rw [ownOf_set hk0]; exact C1.more (by omega) (by omega)
        · rw [ownOf_set hk0]; exact M
      · right
        have hyr : cl'.word ∈ row := by rw [hrow]; simp
        have hyr2 := M.rng _ hyr
        refine ⟨by rw [decide_eq_true h0], C1.tk.cell 0, ?_⟩
        refine (take_got C1 hk4 hc1 h0 he _ rfl (by omega) hyr2.1 hyr2.2 hnx (by rw [M.f_, if_pos hyr]) (by omega)).mono ?_
        rintro e w2 ⟨rfl, C2⟩
        rw [List.set_set] at C2
        have hg := head_gone (hrow ▸ M.nodup)
        refine ⟨rfl, cs.set kk none, ⟨t', tag, hi, row', pu, (fun z => if z = cl'.word then 0 else f z), ?_, ?_, live_set lv (fun _ _ e => (by cases e)), by omega⟩, moved_none⟩
        · rw [ownOf_set hk0]; exact C2.more (by omega) (by omega)
        · rw [ownOf_set hk0]; exact M.gone hyr (by rw [hrow]; exact hg.1) hg.2
      · right
        refine ⟨by rw [decide_eq_true h0], C1.tk.cell 0, ?_⟩
        refine (take_none C1 hk4 hc1 h0 hw (by omega) (by omega)).mono ?_
        rintro e w2 ⟨rfl, C2⟩
        rw [List.set_set] at C2
        refine ⟨rfl, cs.set kk none, ⟨t', tag, hi, row', pu, f, ?_, ?_, live_set lv (fun _ _ e => (by cases e)), by omega⟩, moved_none⟩
        · rw [ownOf_set hk0]; exact C2.more (by omega) (by omega)
        · rw [ownOf_set hk0]; exact M
    · have hkz : kk = 0 := by omega
      subst hkz
      have hoc := ownOf_some ho
      rw [hoc] at C M
      refine (owner_anyb C.conc ho (by omega) (by omega) (by omega)).mono ?_
      rintro e w1 ⟨cl', t', tag', hi', row', rfl, H1, htag', out, K, hr⟩
      have C1 := C.step ho K H1 (by simpa using C.clen)
      have hc1 := getElem_set (o := some (gc, cl')) C.clen hk4
      rcases out with ⟨h0, rfl, hp, hpw⟩ | ⟨h0, hp, he, rfl⟩ | ⟨h0, hp, he, rfl⟩ | ⟨h0, hp, he, hrow⟩ | ⟨h0, hp, he, hw, rfl⟩
      · left
        have hoc' : ownOf (cs.set 0 (some (gc, cl'))) = some cl' := ownOf_some hc1
        refine ⟨by rw [decide_eq_false h0], cs.set 0 (some (gc, cl')), ⟨t', tag', hi', row', pu, f, ?_, ?_, live_set lv (fun _ _ e => by injection e with e; injection e with _ e; subst e; exact h0), by omega⟩, moved_some ho hr⟩
        · rw [hoc']; simp only [still, if_neg h0] at C1; exact C1.more (by omega) (by omega)
        · rw [hoc']
          refine ⟨M.nodup, M.rng, M.f_, fun e => (by cases e), fun c e hc => ?_, fun c e hc => ?_⟩
          · injection e with e; subst e
            have := M.push_ cl rfl (hp.2 hc)
            rw [hpw (hp.2 hc)]; exact this
          · injection e with e; subst e
            exact M.pop_ cl rfl (fun h => hc (hp.1 h))
      · right
        simp only [still, if_pos h0] at C1
        obtain ⟨p1, p2, p3, p4⟩ := M.push_ cl rfl hp
        refine ⟨by rw [decide_eq_true h0], C1.tk.cell 0, ?_⟩
        refine (take_push C1 hc1 h0 he p2 p3 hnx (by rw [M.f_, if_neg p4]) (by omega)).mono ?_
        rintro e w2 ⟨rfl, C2⟩
        rw [List.set_set] at C2
        have hoc' : ownOf (cs.set 0 none) = none := ownOf_none (getElem_set C.clen hk4 none)
        refine ⟨rfl, cs.set 0 none, ⟨t', tag', hi', row ++ [cl.word], 0, (fun z => if z = pu then 1 else f z), ?_, ?_, live_set lv (fun _ _ e => (by cases e)), by omega⟩, moved_none⟩
        · rw [hoc']; exact C2.more (by omega) (by omega)
        · rw [hoc', ← p1]
          refine ⟨?_, fun y hy => ?_, fun y => ?_, fun _ => rfl, fun c e => (by cases e), fun c e => (by cases e)⟩
          · rw [List.nodup_append]
            refine ⟨M.nodup, by simp, fun a ha b hb e => p4 ?_⟩
            have : b = pu := by simpa using hb
            rw [← this, ← e]; exact ha
          · rcases List.mem_append.1 hy with hy | hy
            · exact M.rng y hy
            · have : y = pu := by simpa using hy
              rw [this]; exact ⟨p2, p3⟩
          · show (if y = pu then 1 else f y) = _
            by_cases e : y = pu
            · rw [if_pos e, if_pos (by simp [e])]
            · rw [if_neg e, M.f_ y]
              by_cases hy : y ∈ row
              · rw [if_pos hy, if_pos (List.mem_append_left _ hy)]
              · rw [if_neg hy, if_neg (by simp [hy, e])]
      · right
        simp only [still, if_pos h0] at C1
        obtain ⟨p1, p2, p3, p4⟩ := M.push_ cl rfl hp
        refine ⟨by rw [decide_eq_true h0], C1.tk.cell 0, ?_⟩
        refine (take_full C1 hc1 h0 he p2).mono ?_
        rintro e w2 ⟨rfl, C2⟩
        rw [List.set_set] at C2
        have hoc' : ownOf (cs.set 0 none) = none := ownOf_none (getElem_set C.clen hk4 none)
        refine ⟨rfl, cs.set 0 none, ⟨t', tag', hi', row', 0, f, ?_, ?_, live_set lv (fun _ _ e => (by cases e)), by omega⟩, moved_none⟩
        · rw [hoc']; exact C2.more (by omega) (by omega)
        · rw [hoc']; exact ⟨M.nodup, M.rng, M.f_, fun _ => rfl, fun c e => (by cases e), fun c e => (by cases e)⟩
      · right
        simp only [still, if_pos h0] at C1
        have p0 := M.pop_ cl rfl hp
        have hyr : cl'.word ∈ row := by rw [hrow]; simp
        have hyr2 := M.rng _ hyr
        refine ⟨by rw [decide_eq_true h0], C1.tk.cell 0, ?_⟩
        refine (take_got C1 hk4 hc1 h0 he _ rfl (by omega) hyr2.1 hyr2.2 hnx (by rw [M.f_, if_pos hyr]) (by omega)).mono ?_
        rintro e w2 ⟨rfl, C2⟩
        rw [List.set_set] at C2
        have hg := last_gone (hrow ▸ M.nodup)
        have hoc' : ownOf (cs.set 0 none) = none := ownOf_none (getElem_set C.clen hk4 none)
        refine ⟨rfl, cs.set 0 none, ⟨t', tag', hi', row', pu, (fun z => if z = cl'.word then 0 else f z), ?_, ?_, live_set lv (fun _ _ e => (by cases e)), by omega⟩, moved_none⟩
        · rw [hoc']; exact C2.more (by omega) (by omega)
        · rw [hoc']
          have M2 := M.gone hyr (by rw [hrow]; exact hg.1) hg.2
          exact ⟨M2.nodup, M2.rng, M2.f_, fun _ => p0, fun c e => (by cases e), fun c e => (by cases e)⟩
      · right
        simp only [still, if_pos h0] at C1
        have p0 := M.pop_ cl rfl hp
        refine ⟨by rw [decide_eq_true h0], C1.tk.cell 0, ?_⟩
        refine (take_none C1 hk4 hc1 h0 hw (by omega) (Or.inl he)).mono ?_
        rintro e w2 ⟨rfl, C2⟩
        rw [List.set_set] at C2
        have hoc' : ownOf (cs.set 0 none) = none := ownOf_none (getElem_set C.clen hk4 none)
        refine ⟨rfl, cs.set 0 none, ⟨t', tag', hi', row', pu, f, ?_, ?_, live_set lv (fun _ _ e => (by cases e)), by omega⟩, moved_none⟩
        · rw [hoc']; exact C2.more (by omega) (by omega)
        · rw [hoc']; exact ⟨M.nodup, M.rng, M.f_, fun _ => p0, fun c e => (by cases e), fun c e => (by cases e)⟩
end
end Go.Proofs.Yteaffpkmidaghaa
