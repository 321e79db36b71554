/- SpillLocks. -/
import Derived.Test.YtcnpbdboeaaajaaAw
import Derived.Deep.CutBlock
namespace Go.Proofs.Ytcnpbdboeaaajaa
open Go.RowKit
set_option linter.unusedVariables false
set_option linter.unusedSimpArgs false

/-- A put of 5, and a take beside it: so many touches. -/
def Two (w0 w : World) (gd g gw n ga gb : Nat) (zs : List Int) (cl : Cl) (k : Nat) : Prop :=
  ∃ A c ts, Cn w0 w gd g gw zs A c ts n [] [some (ga, cl, 5), some (gb, ⟨2, 27, 26, 0, 0, 0⟩, 0)] ∧ ts.length = k
theorem rank_nx {n : Nat} (h : n = 0 ∨ n = 27) : rank n = 0 ∨ rank n = 5 := by rcases h with rfl | rfl <;> simp [rank]

section
variable {w0 w w' : World} {gd g gw n ga gb k j : Nat} {zs : List Int} {cl : Cl}
theorem Two.kept (h : Two w0 w gd g gw n ga gb zs cl k) (b : Below w.heap.size w w') : Two w0 w' gd g gw n ga gb zs cl k := by
  obtain ⟨A, c, ts, H, hk⟩ := h; exact ⟨A, c, ts, H.kept b, hk⟩
theorem Two.own (h : Two w0 w gd g gw n ga gb zs cl k) : Lies w gd 58 [.pointer (some ⟨g, 0, none⟩)] := by
  obtain ⟨A, c, ts, H, hk⟩ := h; exact H.dq.own
theorem Two.conc (h : Two w0 w gd g gw n ga gb zs cl k) : Conc w0 w gd g gw n [] [some (ga, cl, 5), some (gb, ⟨2, 27, 26, 0, 0, 0⟩, 0)] k := by
  obtain ⟨A, c, ts, H, hk⟩ := h; exact ⟨zs, A, c, ts, H, hk⟩
theorem two_free (hn : cl.nx = 27 ∨ cl.nx = 0) {c2 : Cl} (h2 : c2.nx = 27 ∨ c2.nx = 0) {x y : Int} : Free [some (ga, cl, x), some (gb, c2, y)] := by
  intro i gc c z e
  have hi : i = 0 ∨ i = 1 := by
    have := (List.getElem?_eq_some_iff.1 e).1
    simp at this; omega
  rcases hi with rfl | rfl
  · simp at e; obtain ⟨_, rfl, _⟩ := e; exact hn
  · simp at e; obtain ⟨_, rfl, _⟩ := e; exact h2
theorem two_live (hr : 1 ≤ rank cl.nx) : Live [some (ga, cl, 5), some (gb, ⟨2, 27, 26, 0, 0, 0⟩, 0)] 0 :=
  ⟨ga, cl, 5, rfl, fun e => by rw [e] at hr; simp [rank] at hr, fun e => two_free (Or.inl e) (Or.inl rfl)⟩
theorem two_dead (h1 : 1 ≤ rank cl.nx) (h4 : rank cl.nx ≤ 4) : ¬ Live [some (ga, cl, 5), some (gb, ⟨2, 27, 26, 0, 0, 0⟩, 0)] 1 := by
  rintro ⟨gc, c, x, hc, hn, hf⟩
  simp at hc
  obtain ⟨_, rfl, _⟩ := hc
  have := hf rfl 0 ga cl 5 rfl
  have := rank_nx (n := cl.nx) (by omega)
  omega
/-- A step of the put, ahead of its last. -/
theorem two_put (h : Two w0 w gd g gw n ga gb zs cl k) (hmv : cl.mv = 25) (hr : 2 ≤ rank cl.nx) (hk : k ≤ 30000) :
    Calls Try.prog 16 #[.pointer (some ⟨ga, 0, none⟩)] w fun e w' => e = .returned (.bool false) ∧ ∃ zs' cl', Two w0 w' gd g gw n ga gb zs' cl' (k + 1) ∧ cl'.mv = 25 ∧ rank cl'.nx + 1 = rank cl.nx := by
  obtain ⟨A, c, ts, H, rfl⟩ := h
  have hlive : Live [some (ga, cl, 5), some (gb, ⟨2, 27, 26, 0, 0, 0⟩, 0)] 0 := two_live (by omega)
  have hn1 : 1 ≤ n := by
    rcases H.sh.st with ⟨_, p, _⟩ | ⟨_, h, gc, c, x, _, ho, _⟩
    · exact p.n1
    · exact ho.len.2
  refine (step_cn H (i := 0) rfl (fun e => by rw [e] at hr; simp [rank] at hr) hk).mono ?_
  rintro e w' ⟨cl', zs', pile', A', c', t, rfl, H', M, hmv', _, K⟩
  rcases M with ⟨h, _⟩ | ⟨_, h0, _, rfl, h3⟩ | ⟨_, h0, O, _, h3⟩
  · exact absurd hlive h
  · exact ⟨by rw [decide_eq_false h0], zs', cl', ⟨A', c', _, H', by simp⟩, hmv'.trans hmv, h3⟩
  · rw [hmv] at O
    rcases O with ⟨_, e1, _⟩ | ⟨_, _, _, _, e⟩ | ⟨e, _⟩ | ⟨e, _⟩
    · have := h3 e1; omega
    · simp at e; omega
    · cases e
    · cases e
/-- A step of the take, beside the lock. -/
theorem two_take (h : Two w0 w gd g gw n ga gb zs cl k) (hr : 1 ≤ rank cl.nx) (h4 : rank cl.nx ≤ 4) (hk : k ≤ 30000) :
    Calls Try.prog 16 #[.pointer (some ⟨gb, 0, none⟩)] w fun e w' => e = .returned (.bool false) ∧ Two w0 w' gd g gw n ga gb zs cl (k + 1) ∧ KeptB w w' gb g gw := by
  obtain ⟨A, c, ts, H, rfl⟩ := h
  have hdead : ¬ Live [some (ga, cl, 5), some (gb, ⟨2, 27, 26, 0, 0, 0⟩, 0)] 1 := two_dead hr h4
  refine (step_cn H (i := 1) rfl (by simp) hk).mono ?_
  rintro e w' ⟨cl', zs', pile', A', c', t, rfl, H', M, hmv', hz, K⟩
  rcases M with ⟨_, rfl, rfl⟩ | ⟨h, _⟩ | ⟨h, _⟩
  · have := hz hdead
    subst this
    exact ⟨rfl, ⟨A', c', _, H', by simp⟩, K⟩
  · exact absurd h hdead
  · exact absurd h hdead
theorem two_words (h : Two w0 w gd g gw n ga gb zs cl k) : Calls Try.prog 21 #[.pointer (some ⟨g, 0, none⟩)] w fun e w' => ∃ q, e = .returned (.slice (some ⟨q, 0, none⟩) zs.length zs.length) ∧ w.heap.size ≤ q ∧ Lies w' q 3 (zs.map (Value.int .i64)) ∧ Two w0 w' gd g gw n ga gb zs cl k ∧ Below w.heap.size w w' ∧ zs.length ≤ 65536 := by
  have h' := h
  obtain ⟨A, c, ts, H, hk⟩ := h
  have hm := H.dq.at_.most
  exact (words_q H.dq.at_).mono fun e w' ⟨q, he, hq, L, b⟩ => ⟨q, he, hq, L, h'.kept b, b, hm⟩
theorem two_log (h : Two w0 w gd g gw n ga gb zs cl k) (hk : k ≤ 30000) : Calls Try.prog 22 #[.pointer (some ⟨g, 0, none⟩)] w fun e w' => ∃ q, e = .returned (.slice (some ⟨q, 0, none⟩) k k) ∧ Two w0 w' gd g gw n ga gb zs cl k := by
  have h' := h
  obtain ⟨A, c, ts, H, rfl⟩ := h
  exact (log_q H.dq.at_ hk).mono fun e w' ⟨q, he, _, _, b⟩ => ⟨q, he, h'.kept b⟩
theorem two_done (h : Two w0 w gd g gw n ga gb zs cl k) (hmv : cl.mv = 25) (hr : 1 ≤ rank cl.nx) (hk : k + 5 ≤ 30000) :
    Calls Try.prog 12 #[.pointer (some ⟨ga, 0, none⟩)] w fun e w' => e = .returned (.tuple #[.int .i64 0, .int .i64 0]) ∧ ∃ cl' k', Conc w0 w' gd g gw n [5] [some (ga, cl', 5), some (gb, ⟨2, 27, 26, 0, 0, 0⟩, 0)] k' ∧ k' ≤ k + 5 ∧ cl'.nx = 0 := by
  have hn1 : 1 ≤ n := by
    obtain ⟨A, c, ts, H, rfl⟩ := h
    rcases H.sh.st with ⟨_, p, _⟩ | ⟨_, h, gc, c, x, _, ho, _⟩
    · exact p.n1
    · exact ho.len.2
  refine (done_conc h.conc (i := 0) rfl (two_live hr) hk).mono ?_
  rintro e w' ⟨cl', pile', k', rfl, C, hk', hz, O, K⟩
  rw [hmv] at O
  rcases O with ⟨_, e1, e2, rfl, _⟩ | ⟨_, _, _, _, e⟩ | ⟨e, _⟩ | ⟨e, _⟩
  · exact ⟨by rw [e1, e2], cl', k', C, hk', hz⟩
  · simp at e; omega
  · cases e
  · cases e
theorem two_done2 (h : Conc w0 w gd g gw n [5] [some (ga, cl, 5), some (gb, ⟨2, 27, 26, 0, 0, 0⟩, 0)] k) (hz : cl.nx = 0) (hk : k + 5 ≤ 30000) :
    Calls Try.prog 12 #[.pointer (some ⟨gb, 0, none⟩)] w fun e w' => e = .returned (.tuple #[.int .i64 5, .int .i64 0]) ∧ ∃ k', Conc w0 w' gd g gw n [] [] k' := by
  refine (done_conc h (i := 1) rfl ⟨gb, _, 0, rfl, by simp, fun _ => two_free (Or.inr hz) (Or.inl rfl)⟩ hk).mono ?_
  rintro e w' ⟨cl', pile', k', rfl, C, hk', hz', O, K⟩
  rcases O with ⟨e, _⟩ | ⟨e, _⟩ | ⟨_, e1, e2⟩ | ⟨_, _, _, e, _⟩
  · cases e
  · cases e
  · have e3 : ([] : List Int) ++ [5] = pile' ++ [cl'.word] := e2
    obtain ⟨rfl, e4⟩ := List.append_inj' e3 rfl
    injection e4 with e4
    exact ⟨by rw [e1, ← e4], k', C.nil (two_free (Or.inr hz) (Or.inr hz'))⟩
  · simp at e
end

set_option maxRecDepth 100000 in
set_option maxHeartbeats 8000000 in
theorem locks_any (room steps tries : Int) (h1 : 0 ≤ room ∧ room ≤ 255) (h2 : 0 ≤ steps ∧ steps ≤ 255) (h3 : 0 ≤ tries ∧ tries ≤ 255) (w : World) :
    Calls Try.prog 6 #[.int .u8 room, .int .u8 steps, .int .u8 tries] w fun e w' => e = .returned (.bool true) ∧ Below w.heap.size w w' := by
  obtain ⟨r0, r1⟩ := h1
  obtain ⟨s0, s1⟩ := h2
  obtain ⟨t0, t1⟩ := h3
  obtain ⟨n, hn⟩ : ∃ n : Nat, 1 + room = n := ⟨(1 + room).toNat, by omega⟩
  obtain ⟨K, hK⟩ : ∃ K : Nat, 1 + steps % 4 = K := ⟨(1 + steps % 4).toNat, by omega⟩
  obtain ⟨M, hM⟩ : ∃ M : Nat, tries % 50 = M := ⟨(tries % 50).toNat, by omega⟩
  have hK1 : 1 ≤ K := by omega
  have hK2 : K ≤ 4 := by omega
  have hM2 : M ≤ 49 := by omega
  have HN := Lib.hid hn
  have HK := Lib.hid hK
  have HM := Lib.hid hM
  have hn1 : Hid (1 ≤ n ∧ n ≤ 256) := Lib.hid (by omega)
  clear hn hK hM
  have n2 := nil24
  go_enter Try.func6, Try.ntmps6
  go_wp2_with fail
  refine (awake_any _).mono ?_
  rintro e w1 ⟨rfl, B1⟩
  have HB1 := Lib.hid B1
  clear B1
  go_wp2_with fail
  refine (conc_new (1 + room) n HN.out w w1 HB1.out hn1.out.1 (by have := hn1.out.2; omega)).mono ?_
  rintro e w2 ⟨gd, g, gw, rfl, C2, _⟩
  have HC2 := Lib.hid C2
  clear C2 HB1
  go_wp2_with fail
  refine (put_yes HC2.out.own 1 5 (by omega) (by omega)).mono ?_
  rintro e w3 ⟨rfl, L3, B3⟩
  have HC3 := Lib.hid (HC2.out.app L3 B3 (ok_put 1 5 (by omega) (by omega)) rfl)
  clear L3 B3
  generalize w2.heap.size = ga at *
  go_wp2_with fail
  refine (take_yes HC3.out.own 2 (by omega) (by omega)).mono ?_
  rintro e w4 ⟨rfl, L4, B4⟩
  have HC4 := Lib.hid (HC3.out.app L4 B4 (ok_take 2 0 (by omega) (by omega)) rfl)
  clear L4 B4 HC3 HC2
  generalize w3.heap.size = gb at *
  have HT : Hid (∃ zs, Two w w4 gd g gw n ga gb zs ⟨1, 27, 25, 0, 5, 0⟩ 0) := Lib.hid (by obtain ⟨zs, A, c, ts, H, hk⟩ := HC4.out; exact ⟨zs, A, c, ts, H, hk⟩)
  clear HC4
  go_upto_region 11 with fail
  rw [HK.out]
  clear s0 s1 HK r0 r1 HN
  go_wp2_with fail
  go_loopw [58] (fun v wr => ∃ (j : Nat) (zs : List Int) (cl : Cl), j ≤ K ∧ v = .int .i64 j ∧ Two w wr gd g gw n ga gb zs cl j ∧ cl.mv = 25 ∧ rank cl.nx + j = 5) (fun v _ => K - (intOf v).toNat)
  case atStart =>
    obtain ⟨zs, h⟩ := HT.out
    exact ⟨0, zs, _, Nat.zero_le _, rfl, h, rfl, rfl⟩
  case round =>
    obtain ⟨j, zs, cl, hj, rfl, X, hmv, hrk⟩ := hrel
    have HX := Lib.hid X
    have HV := Lib.hid hmv
    have HRK := Lib.hid hrk
    clear X hmv hrk HT
    by_cases hjk : j < K
    · have j1 : (j : Int) < (K : Int) := by omega
      go_wp2_with fail
      refine (two_put HX.out HV.out (by have := HRK.out; omega) (by omega)).mono ?_
      rintro e w5 ⟨rfl, zs5, cl5, X5, hmv5, hrk5⟩
      have HX5 := Lib.hid X5
      have HV5 := Lib.hid hmv5
      have HRK5 := Lib.hid hrk5
      clear X5 hmv5 hrk5
      go_wp2
      exact ⟨⟨j + 1, zs5, cl5, by omega, by go_num, HX5.out, HV5.out, by have := HRK.out; have := HRK5.out; omega⟩, by simp [intOf]; omega⟩
    · have hjk' : j = K := by omega
      subst hjk'
      go_upto_region 17 with fail
      rw [HM.out]
      clear t0 t1 HM
      go_wp2_with fail
      refine (cells_any HX.out.own).mono ?_
      rintro e w5 ⟨rfl, rfl⟩
      go_wp2_with fail
      refine (two_words HX.out).mono ?_
      rintro e w5 ⟨q, rfl, hq, L5, X5, B5, hzs⟩
      have HX5 := Lib.hid X5
      have HL5 := Lib.hid L5
      have hqg : Hid (q ≠ gw) := Lib.hid (by have := HX.out.conc.gw_lt; omega)
      clear X5 L5 B5 hq HX
      go_wp2_with fail
      go_loopw [70] (fun v wi => ∃ i : Nat, i ≤ M ∧ v = .int .i64 i ∧ Two w wi gd g gw n ga gb zs cl (j + i) ∧ Lies wi q 3 (zs.map (Value.int .i64))) (fun v _ => M - (intOf v).toNat)
      case atStart => exact ⟨0, Nat.zero_le _, rfl, HX5.out, HL5.out⟩
      case round =>
        obtain ⟨i, hi, rfl, X6, L6⟩ := hrel
        have HX6 := Lib.hid X6
        have HL6 := Lib.hid L6
        clear X6 L6 HX5 HL5
        by_cases him : i < M
        · have i1 : (i : Int) < (M : Int) := by omega
          go_wp2_with fail
          refine (two_take HX6.out (by have := HRK.out; omega) (by have := HRK.out; omega) (by omega)).mono ?_
          rintro e w7 ⟨rfl, X7, K7⟩
          have HX7 := Lib.hid X7
          have HL7 : Hid (Lies w7 q 3 (zs.map (Value.int .i64))) := Lib.hid (by
            obtain ⟨vg, Lg⟩ := HX6.out.conc.g_lies
            exact K7.lies HL6.out (HL6.out.apart (HX6.out.conc.lies (i := 1) rfl) (by decide)) (HL6.out.apart Lg (by decide)) hqg.out (by decide))
          clear X7 K7
          go_wp2
          exact ⟨⟨i + 1, by omega, by go_num, HX7.out, HL7.out⟩, by simp [intOf]; omega⟩
        · have him' : i = M := by omega
          subst him'
          go_wp2_with fail
          refine (cells_any HX6.out.own).mono ?_
          rintro e w7 ⟨rfl, rfl⟩
          go_wp2_with fail
          refine (two_words HX6.out).mono ?_
          rintro e w8 ⟨q8, rfl, _, L8, X8, B8, _⟩
          have HX8 := Lib.hid X8
          have HL8 := Lib.hid L8
          have HQ8 := Lib.hid (HL6.out.kept B8)
          clear X8 L8 B8 HX6 HL6
          go_wp2_with fail
          go_loopw [79] (fun v wi => ∃ m : Nat, m ≤ zs.length ∧ v = .int .i64 m ∧ w8 = wi) (fun v _ => zs.length - (intOf v).toNat)
          case atStart => exact ⟨0, Nat.zero_le _, rfl, rfl⟩
          case round =>
            obtain ⟨m, hm, rfl, rfl⟩ := hrel
            by_cases hmz : m < zs.length
            · have c1 : w8.cell? ⟨q8, m, none⟩ = some (.int .i64 zs[m]) := by rw [HL8.out.cell]; simp [hmz]
              have c2 : w8.cell? ⟨q, m, none⟩ = some (.int .i64 zs[m]) := by rw [HQ8.out.cell]; simp [hmz]
              generalize zs[m] = y at c1 c2
              have m0 : (0 : Int) ≤ (m : Int) := by omega
              have m1 : (m : Int) < (zs.length : Int) := by omega
              go_wp2
              exact ⟨⟨m + 1, by omega, by go_num, by first | rfl | trivial⟩, by simp [intOf]; omega⟩
            · have hm' : m = zs.length := by omega
              subst hm'
              have hsum : ((j + i : Nat) : Int) = (j : Int) + (i : Int) := by omega
              go_wp2_with fail
              refine (cells_any HX8.out.own).mono ?_
              rintro e w9 ⟨rfl, rfl⟩
              go_wp2_with fail
              refine (two_log HX8.out (by omega)).mono ?_
              rintro e w9 ⟨q9, rfl, X9⟩
              have HX9 := Lib.hid X9
              clear X9 HX8 HL8 HQ8
              go_wp2_with fail
              refine (two_done HX9.out HV.out (by have := HRK.out; omega) (by omega)).mono ?_
              rintro e w10 ⟨rfl, cl10, k10, C10, hk10, hz10⟩
              have HC10 := Lib.hid C10
              have HZ10 := Lib.hid hz10
              clear C10 hz10 HX9
              go_wp2_with fail
              refine (two_done2 HC10.out HZ10.out (by omega)).mono ?_
              rintro e w11 ⟨rfl, k11, C11⟩
              have HC11 := Lib.hid C11
              clear C11 HC10
              go_wp2_with fail
              refine (conc_words HC11.out free_nil).mono ?_
              rintro e w12 ⟨a12, rfl, _, _, B12⟩
              have HC12 := Lib.hid (HC11.out.kept B12)
              clear B12
              go_wp2
              go_ret
              exact ⟨rfl, HC12.out.below⟩
end Go.Proofs.Ytcnpbdboeaaajaa
