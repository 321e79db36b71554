/- What the reference's Words answers. -/
import Derived.Test.YtibfhpbklnpknaaModel
import Derived.Deep.AppendLies
import Derived.Deep.RegionHeld3
namespace Go.Proofs.Ytibfhpbklnpknaa
open Go.RowKit
set_option linter.unusedVariables false
set_option linter.unusedSimpArgs false

theorem info_3 : ∃ i, Try.prog.info? 3 = some i ∧ i.zero = some (.int .i64 0) ∧ i.size = 1 ∧ i.bytes = 8 := ⟨_, rfl, rfl, rfl, rfl⟩

/-- append onto a slice of words that the call owns. -/
theorem step_ints {ops : Array Oper} {o : Oper} {a : Act} {w : World} {K : Act → World → Prop} {Q : Exit → Act → World → Prop} {E : Prop} (hgd : o.guard = none) (s x : Operand)
    (ho : o.op = .call { callee := .builtin .append, args := #[s, x], argTypes := #[37, 37] })
    (base : Nat) (v : Value) (n : Nat) (xs : List Int) (hs : a.eval s = v) (hown : w.ownsRow base 3 1 v n (xs.map (Value.int .i64)))
    (ad : Addr) (m c : Nat) (ys : List Int) (hx : a.eval x = .slice (some ad) m c) (hm : ys.length = m) (hr : Row w (some ad) ys) (hb : n + m ≤ 100000) (hbase : base ≤ w.heap.size)
    (h : ∀ v' w', w'.ownsRow base 3 1 v' (n + m) ((xs ++ ys).map (Value.int .i64)) → w.grownBy w' v.ownBlock → K (a.put o.dst v') w') :
    if Region.wanted o (yielded ops a.tmps) = true then Oper.wp Try.prog o a w K Q else E := by
  have hw : Region.wanted o (yielded ops a.tmps) = true := by simp [Region.wanted, hgd]
  rw [if_pos hw]
  obtain ⟨i, hi, hz, hsz, hby⟩ := info_3
  obtain ⟨v', w', hrn, h2, h3, _, _⟩ := run_append_own_at (P := Try.prog) w base 37 o.type 3 i (.int .i64 0) 1 8 Try.underlying37 hi hz hsz hby rfl (by decide) v n (xs.map (Value.int .i64)) hown ad m c (ys.map (Value.int .i64)) (by simp [hm])
    (fun j u hu => by
      have hj : 0 < ys.length := by
        have := (List.getElem?_eq_some_iff.1 hu).1
        simp at this; omega
      obtain ⟨ad', e, _, hc⟩ := hr hj
      injection e with e
      subst e
      exact hc j u hu) (fun u hu => by simp at hu; obtain ⟨_, _, rfl⟩ := hu; rfl) (by unfold maxLen; omega) (by omega) hbase
  unfold Oper.wp execOp
  simp only [ho, resolve, invoke, builtin, Sem.run_bind, Sem.run_pure, Result.andThen_ok, List.map_toArray, List.map_cons, List.map_nil, hs, hx, hrn]
  exact h v' w' (by simpa using h2) h3

theorem owns_kept {w w' : World} {base n : Nat} {v : Value} {xs : List Value} (h : w.ownsRow base 3 1 v n xs) (hb : Below w.heap.size w w') : w'.ownsRow base 3 1 v n xs := by
  refine ⟨h.1, h.2.imp id ?_⟩
  rintro ⟨g, cap, cur, h1, h2, h3, h4⟩
  exact ⟨g, cap, cur, h1, h2, (hb.block g (Array.getElem?_eq_some_iff.1 h3).1).trans h3, h4⟩

theorem owns_row {w : World} {base n : Nat} {v : Value} {zs : List Int} (h : w.ownsRow base 3 1 v n (zs.map (Value.int .i64))) : ∃ A c, v = .slice A n c ∧ Row w A zs := by
  obtain ⟨hl, ⟨rfl, h0⟩ | ⟨g, cap, cur, rfl, h2, h3, h4, h5, h6, h7⟩⟩ := h
  · exact ⟨none, 0, by rw [h0], fun hz => by simp at hl; omega⟩
  · refine ⟨_, _, rfl, fun _ => ⟨_, rfl, (Array.getElem?_eq_some_iff.1 h3).1, fun j u hu => ?_⟩⟩
    refine World.news_of_block h3 j u ?_
    rw [← h7] at hu
    rw [List.getElem?_take] at hu
    split at hu
    · exact hu
    · cases hu

/-- Below a bound, as a world that grew in one row of its own. -/
theorem below_own {w W W' : World} {C base : Nat} {v : Value} {n : Nat} {xs : List Value} (h : Below C w W) (hC : C ≤ base) (hB : C ≤ W.heap.size) (ho : W.ownsRow base 3 1 v n xs) (hg : W.grownBy W' v.ownBlock) : Below C w W' :=
  h.grown hg hB (fun k e => by
    obtain ⟨_, ⟨rfl, _⟩ | ⟨g, cap, cur, rfl, h2, _⟩⟩ := ho
    · simp [Value.ownBlock] at e
    · simp [Value.ownBlock] at e; omega)

theorem pack_back {n : Int} (h : headB n = true) : packW (n % 16) (n / 65536) (n % 65536 / 16) = n := by
  unfold packW
  omega

theorem rpack_ob (n : Int) (w : World) (h : headB n = true) :
    Calls Try.prog 52 #[.agg #[.int .i64 (n % 16), .int .i64 (n / 65536), .int .i64 (n % 65536 / 16)]] w fun e w' => e = .returned (.int .i64 n) ∧ w' = w.alloc (.cells #[.int .i64 (n % 16), .int .i64 (n / 65536), .int .i64 (n % 65536 / 16)] 40) := by
  have := refPack_any (n % 16) (n / 65536) (n % 65536 / 16) w (head_good h)
  rw [pack_back h] at this
  exact this

theorem cell_two {W0 w w' : World} (h : Below W0.heap.size W0 w) (h' : Below W0.heap.size W0 w') (u : Value) (a : Addr) (hl : a.block < W0.heap.size) (hc : w.cell? a = some u) : w'.cell? a = some u :=
  (h'.cell hl).trans ((h.cell hl).symm.trans hc)

theorem Things.at2 {w wr : World} {A : Option Addr} {obs : List Ob} (h : Things w A obs) {i : Nat} {o : Ob} (ho : obs[i]? = some o) (hb : Below w.heap.size w wr) :
    ∃ ad bd c, A = some ad ∧ wr.cell? (ad.add (i * 5)) = some (.int .i64 (atI obs i)) ∧ wr.cell? ⟨(ad.add (i * 5)).block, (ad.add (i * 5)).off + 1, none⟩ = some (.int .i64 (o.1 % 16)) ∧
      wr.cell? ⟨(ad.add (i * 5)).block, (ad.add (i * 5)).off + 2, none⟩ = some (.int .i64 (o.1 / 65536)) ∧ wr.cell? ⟨(ad.add (i * 5)).block, (ad.add (i * 5)).off + 3, none⟩ = some (.int .i64 (o.1 % 65536 / 16)) ∧
      wr.cell? ⟨(ad.add (i * 5)).block, (ad.add (i * 5)).off + 4, none⟩ = some (.slice (some bd) o.2.length c) ∧ Row w (some bd) o.2 ∧ (ad.add (i * 5)).block < w.heap.size := by
  obtain ⟨ad, B, c, e, c0, c1, c2, c3, c4, hR, ⟨bd, rfl⟩, hl⟩ := h.at_ ho
  have hl' : (ad.add (i * 5)).block < w.heap.size := by rw [block_add]; exact hl
  exact ⟨ad, bd, c, e, (hb.cell hl').trans c0, (hb.cell (p := ⟨(ad.add (i * 5)).block, _, none⟩) hl').trans c1, (hb.cell (p := ⟨(ad.add (i * 5)).block, _, none⟩) hl').trans c2, (hb.cell (p := ⟨(ad.add (i * 5)).block, _, none⟩) hl').trans c3, (hb.cell (p := ⟨(ad.add (i * 5)).block, _, none⟩) hl').trans c4, hR, hl'⟩

set_option maxRecDepth 100000 in
set_option maxHeartbeats 400000 in
theorem rwords_any {w : World} {A : Option Addr} {obs : List Ob} (s : Int) (n c : Nat) (hf : Fine obs) (h : Things w A obs) (hn : obs.length = n) (hm : (flat obs).length ≤ 65536) :
    Calls Try.prog 40 #[.agg #[.int .i64 s, .slice A n c]] w fun e w' => (∃ B d, e = .returned (.slice B (flat obs).length d) ∧ Row w' B (flat obs)) ∧ Below w.heap.size w w' := by
  obtain ⟨W0, hW0⟩ : ∃ W0, W0 = w.alloc (.cells #[.int .i64 s, .slice A n c] 36) := ⟨_, rfl⟩
  have b0 : Below w.heap.size w W0 := by rw [hW0]; exact (Below.refl _ w).alloc (Nat.le_refl _) _
  have L0 : Lies W0 w.heap.size 36 [.int .i64 s, .slice A n c] := by rw [hW0]; exact Lies.new w 36 _
  have hz0 : W0.heap.size = w.heap.size + 1 := by rw [hW0]; simp
  have HH := Lib.hid (h.kept b0)
  have HF := Lib.hid hf
  have HN := Lib.hid hn
  have HM := Lib.hid hm
  have hn6 : n ≤ 65536 := by have := count_le obs; omega
  have HW0 := Lib.hid hW0
  have HZ0 := Lib.hid hz0
  clear h hf hn hm hW0 hz0
  go_enter Try.func40, Try.ntmps40
  go_wp2
  go_loopw [8, 3, 4] (fun i t _ wr => ∃ k : Nat, k ≤ n ∧ i = .int .i64 k ∧ wr.ownsRow W0.heap.size 3 1 t (atI obs k) ((flat (obs.take k)).map (Value.int .i64)) ∧ Below W0.heap.size W0 wr) (fun i _ _ _ => n - (intOf i).toNat)
  case atStart => exact ⟨0, Nat.zero_le _, rfl, ⟨by simp [atI, flat_nil], .inl ⟨rfl, atI_zero obs⟩⟩, by rw [← HW0.out]; exact Below.refl _ _⟩
  case round =>
    obtain ⟨k, hk, rfl, OW, BB⟩ := hrel
    have hbl : w.heap.size < W0.heap.size := L0.lt
    have x1 : wr.cell? ⟨w.heap.size, 1, none⟩ = some (.slice A n c) := (BB.cell (p := ⟨w.heap.size, 1, none⟩) hbl).trans (L0.cell 1)
    by_cases hlt : k < n
    · obtain ⟨o, ho⟩ : ∃ o, obs[k]? = some o := ⟨_, List.getElem?_eq_getElem (by rw [HN.out]; exact hlt)⟩
      obtain ⟨ad, bd, cc, rfl, c0, c1, c2, c3, c4, hR, hadl⟩ := HH.out.at2 ho BB
      have hfo := HF.out o (List.mem_of_getElem? ho)
      have hs := atI_succ ho
      have hle := atI_le obs (k + 1)
      have hM := HM.out
      obtain ⟨M, hMm⟩ : ∃ M, o.2.length = M := ⟨_, rfl⟩
      obtain ⟨N, hN⟩ : ∃ N, atI obs k = N := ⟨_, rfl⟩
      rw [hN, hMm] at hs
      rw [hN] at OW
      rw [hMm] at c4
      have hb2 : N + 1 + M ≤ 65536 := by omega
      have hfl : flat (obs.take (k + 1)) = flat (obs.take k) ++ [o.1] ++ o.2 := by
        obtain ⟨hi, he⟩ := List.getElem?_eq_some_iff.1 ho
        rw [List.take_succ_eq_append_getElem hi, flat_append, he, flat_cons, flat_nil]
        simp
      have HFl := Lib.hid hfl
      have HS := Lib.hid hs
      have HMm := Lib.hid hMm
      have HR := Lib.hid hR
      have HFo := Lib.hid hfo
      have HB := Lib.hid BB
      have HOW := Lib.hid OW
      clear c0 hfo hs hle hM hN hMm hR ho hfl BB OW
      have k0 : (0 : Int) ≤ (k : Int) := by omega
      have k1 : (k : Int) < (n : Int) := by omega
      have n1 : w.heap.size < wr.heap.size := by have := HB.out.size; omega
      have n2 : (ad.add (k * 5)).block < wr.heap.size := by have := HB.out.size; omega
      obtain ⟨Wb, hWb⟩ : ∃ Wb, Wb = ((wr.alloc (.cells #[.int .i64 (o.1 % 16), .int .i64 (o.1 / 65536), .int .i64 (o.1 % 65536 / 16)] 40)).alloc (.cells #[.int .i64 o.1] 3)).drew := ⟨_, rfl⟩
      have hbw : Below wr.heap.size wr Wb := by
        rw [hWb]
        have h1 := ((Below.refl wr.heap.size wr).alloc (Nat.le_refl _) (.cells #[.int .i64 (o.1 % 16), .int .i64 (o.1 / 65536), .int .i64 (o.1 % 65536 / 16)] 40)).alloc (by rw [World.size_alloc]; exact Nat.le_succ _) (.cells #[.int .i64 o.1] 3)
        exact ⟨h1.os, h1.tape, h1.output, h1.size, h1.block⟩
      have hnew : Row Wb (some ⟨wr.heap.size + 1, 0, none⟩) [o.1] := by
        rw [hWb]
        have := Row.of_lies (zs := [o.1]) (Lies.new (wr.alloc (.cells #[.int .i64 (o.1 % 16), .int .i64 (o.1 / 65536), .int .i64 (o.1 % 65536 / 16)] 40)) 3 [.int .i64 o.1])
        exact Row.drew (by simpa using this)
      have hwb := owns_kept HOW.out hbw
      have hbb := on HB.out HB.out.size hbw
      have hsb : W0.heap.size ≤ Wb.heap.size := hbb.size
      rw [hWb] at hnew hwb hbb hsb
      have HNew := Lib.hid hnew
      have HWB := Lib.hid hwb
      have HBB := Lib.hid hbb
      have HSB := Lib.hid hsb
      clear hnew hwb hbb hsb hbw hWb
      go_wp2_with fail
      go_region_held3 (fun W => W.cell? ⟨w.heap.size, 1, none⟩ = some (.slice (some ad) n c) ∧ W.cell? ⟨(ad.add (k * 5)).block, (ad.add (k * 5)).off + 1, none⟩ = some (.int .i64 (o.1 % 16)) ∧ W.cell? ⟨(ad.add (k * 5)).block, (ad.add (k * 5)).off + 2, none⟩ = some (.int .i64 (o.1 / 65536)) ∧ W.cell? ⟨(ad.add (k * 5)).block, (ad.add (k * 5)).off + 3, none⟩ = some (.int .i64 (o.1 % 65536 / 16)) ∧ W.cell? ⟨(ad.add (k * 5)).block, (ad.add (k * 5)).off + 4, none⟩ = some (.slice (some bd) M cc))
        (first | go_keep | exact ⟨hS1 _ _ hbl x1, hS1 _ _ hadl c1, hS1 _ _ hadl c2, hS1 _ _ hadl c3, hS1 _ _ hadl c4⟩ | exact ⟨hS2 _ _ hbl x1, hS2 _ _ hadl c1, hS2 _ _ hadl c2, hS2 _ _ hadl c3, hS2 _ _ hadl c4⟩)
        ((first
        | (go_at_call 52; refine (rpack_ob o.1 _ HFo.out.1).mono ?_; rintro e w' ⟨rfl, rfl⟩)
        | (refine step_ints rfl (.tmp 11) (.tmp 19) rfl W0.heap.size u3 N (flat (obs.take k)) rfl HWB.out _ 1 1 [o.1] rfl rfl HNew.out (by omega) HSB.out ?_; intro v1 w1 O1 G1; have B1 := Lib.hid (below_own HBB.out (Nat.le_refl _) HSB.out HWB.out G1); have hS1 := cell_two HB.out B1.out; have HO1 := Lib.hid O1; clear O1 G1)
        | (refine step_ints rfl (.tmp 20) (.tmp 26) rfl W0.heap.size v1 (N + 1) (flat (obs.take k) ++ [o.1]) rfl HO1.out bd M cc o.2 rfl HMm.out (HR.out.kept B1.out) (by omega) B1.out.size ?_; intro v2 w2 O2 G2; have B2 := Lib.hid (below_own B1.out (Nat.le_refl _) B1.out.size HO1.out G2); have hS2 := cell_two HB.out B2.out; have HO2 := Lib.hid O2; clear O2 G2)
        | fail))
      go_wp2
      refine ⟨⟨k + 1, by omega, by go_num, ?_, B2.out⟩, by simp [intOf]; omega⟩
      rw [HS.out, HFl.out]
      exact HO2.out
    · obtain rfl : k = n := by omega
      have hall : atI obs k = (flat obs).length := by rw [← HN.out]; exact atI_all obs
      have htk : flat (obs.take k) = flat obs := by rw [List.take_of_length_le (by rw [HN.out]; exact Nat.le_refl _)]
      rw [hall, htk] at OW
      obtain ⟨B, d, rfl, hRow⟩ := owns_row OW
      have HRow := Lib.hid hRow
      clear hall htk OW hRow
      go_wp2
      go_ret
      exact ⟨⟨B, d, rfl, HRow.out⟩, on b0 b0.size BB⟩
end Go.Proofs.Ytibfhpbklnpknaa
