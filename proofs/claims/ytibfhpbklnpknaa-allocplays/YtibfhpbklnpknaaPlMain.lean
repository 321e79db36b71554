/- AllocPlays, up to its great loop. -/
import Derived.Test.YtibfhpbklnpknaaPlOut
import Derived.Test.YtibfhpbklnpknaaPlRet
import Derived.Test.YtibfhpbklnpknaaPlC1
import Derived.Test.YtibfhpbklnpknaaPlC2
import Derived.Test.YtibfhpbklnpknaaPlD1
import Derived.Test.YtibfhpbklnpknaaPlD2
import Derived.Test.YtibfhpbklnpknaaPlE1
import Derived.Test.YtibfhpbklnpknaaPlE2
import Derived.Test.YtibfhpbklnpknaaPlF1
import Derived.Test.YtibfhpbklnpknaaPlF2
import Derived.Test.YtibfhpbklnpknaaPlG
import Derived.Deep.DeepCutAuto
import Derived.LaidEqlPtr
namespace Go.Proofs.Ytibfhpbklnpknaa
open Go.RowKit
set_option linter.unusedVariables false
set_option linter.unusedSimpArgs false

theorem neq_same {P : Program} (w : World) {tp te : TypeId} {j : TypeInfo} (a : Addr) (hp : P.underlying tp = some (.pointer te)) (hte : P.info? te = some j) :
    (binOp .neq tp (.pointer (some a)) (.pointer (some a))).run P w = .ok (.bool false) w := by
  have h : (Op.equal tp (.pointer (some a)) (.pointer (some a))).run P w = .ok true w := by
    have h1 : ∀ d : Nat, (Op.equalIn (d + 1) tp (.pointer (some a)) (.pointer (some a))).run P w = .ok true w := fun d => by
      simp [Op.equalIn, run_underlying hp, sizeOf, typeInfo, hte, run_sameAddr_same]
    simp [Op.equal, Op.maxDepth, h1 9999]
  simp only [binOp]
  simp [h]
theorem info_69 : ∃ i, Try.prog.info? 69 = some i := ⟨_, rfl⟩
theorem ptr_same (W : World) (g : Nat) : (binOp .neq 26 (.pointer (some ⟨g, 0, none⟩)) (.pointer (some ⟨g, 0, none⟩))).run Try.prog W = .ok (.bool false) W := by
  obtain ⟨i, hi⟩ := info_69
  exact neq_same W _ Try.underlying26 hi

theorem minus_at (i m : Nat) : (List.replicate i (-1 : Int) ++ List.replicate (m + 1) 0)[i]? = some 0 := by
  rw [List.getElem?_append_right (by simp)]
  simp [List.replicate_succ]
theorem minus_set (i m : Nat) : (List.replicate i (-1 : Int) ++ List.replicate (m + 1) 0).set i (-1) = List.replicate (i + 1) (-1 : Int) ++ List.replicate m 0 := by
  rw [List.set_append_right _ _ (by simp)]
  simp only [List.length_replicate, Nat.sub_self, List.replicate_succ (n := m), List.set_cons_zero]
  rw [List.replicate_succ' (n := i), List.append_assoc]
  rfl

set_option maxRecDepth 1000000 in
set_option maxHeartbeats 4000000 in
theorem plays_yes (x0 y : Int) (nt : Nat) (B : Option Addr) (c : Nat) (ds : List Deal) (w : World) (hx : 0 ≤ x0) (hx' : x0 ≤ 65535) (h2 : ds.length ≤ 40) (hd : Deals w B ds) (hz : ∀ d ∈ ds, d.fit) (n1 : 1 ≤ nt) (n2 : nt ≤ 64) :
    Calls Try.prog 3 #[.int .u16 x0, .agg #[.int .i64 (nt : Int), .int .i64 y], .slice B ds.length c] w fun e w' => e = .returned (.bool true) ∧ Below w.heap.size w w' := by
  have d1 : decide ((40 : Int) < (ds.length : Int)) = false := by simp; omega
  have HD := Lib.hid hd
  have HZ := Lib.hid hz
  have hnil := fun W g => anil_ne W g
  have hsame := fun W g => ptr_same W g
  obtain ⟨Z, hn⟩ : ∃ Z : Nat, 1 + x0 % 300 = (Z : Int) := ⟨(1 + x0 % 300).toNat, by omega⟩
  have z1 : 1 ≤ Z := by omega
  have z2 : Z ≤ 300 := by omega
  have HN := Lib.hid hn
  have i1 : decide ((nt : Int) < 1) = false := by simp; omega
  have i2 : decide ((64 : Int) < (nt : Int)) = false := by simp; omega
  obtain ⟨s, hs⟩ : ∃ s, sizeF y = s := ⟨_, rfl⟩
  have HS := Lib.hid hs
  have s1 : 8 ≤ s := by rw [← hs]; unfold sizeF; omega
  have s2 : s ≤ 4096 := by rw [← hs]; unfold sizeF; omega
  have hmk := make51 nt (by omega)
  clear hd hz hn hs
  go_enter Try.func3, Try.ntmps3
  go_wp2_with fail
  refine (awake_any _).mono ?_
  rintro e w1 ⟨rfl, hb1⟩
  have LX := (Lies.new w 23 [.int .i64 (nt : Int), .int .i64 y]).below hb1 (by simp)
  have bX := below_one w (.cells #[.int .i64 (nt : Int), .int .i64 y] 23)
  have HB1 := Lib.hid (on bX bX.size hb1)
  have HLX1 := Lib.hid LX
  clear hb1 LX bX
  go_wp2_with fail
  rw [HN.out]
  refine (new_st Z _ z1 (by omega)).mono ?_
  rintro e w2 ⟨g, gw, gb, rfl, hb2, q1, q2, q3, S2⟩
  have LX2 := HLX1.out.below hb2 HLX1.out.lt
  have a0 : w2.cell? ⟨w.heap.size, 0, none⟩ = some (.int .i64 (nt : Int)) := LX2.cell 0
  have a1 : w2.cell? ⟨w.heap.size, 1, none⟩ = some (.int .i64 y) := LX2.cell 1
  have sz1 := HB1.out.size
  have HB2 := Lib.hid (on HB1.out HB1.out.size hb2)
  have HS2 := Lib.hid S2
  have HLX2 := Lib.hid LX2
  have l1 := S2.lies.own.lt
  have l2 := S2.lies.words.lt
  have l3 := S2.lies.begins.lt
  clear hb2 S2 LX2 HLX1
  go_wp2_with fail
  refine (anew_yes HS2.out nt y (by omega) (by omega)).mono ?_
  rintro e w4 ⟨ga, gf, rfl, A4, hb4, q7, q8⟩
  rw [HS.out] at A4
  have LX4 := HLX2.out.below hb4 HLX2.out.lt
  have sz2 := HB2.out.size
  have sz4 := hb4.size
  have HB4 := Lib.hid (on HB2.out HB2.out.size hb4)
  have HLX4 := Lib.hid LX4
  have HA4 := Lib.hid A4
  have l7 := A4.own.lt
  have l8 := A4.row.lt
  clear a0 a1
  have a0 : w4.cell? ⟨w.heap.size, 0, none⟩ = some (.int .i64 (nt : Int)) := LX4.cell 0
  have a1 : w4.cell? ⟨w.heap.size, 1, none⟩ = some (.int .i64 y) := LX4.cell 1
  have lx := LX4.lt
  clear hb4 LX4 A4 HS2
  go_wp2_with fail
  refine (Heap_any HA4.out).mono ?_
  rintro e w5 ⟨rfl, rfl⟩
  go_upto_region 11 with fail
  go_cut [13] (fun v13 wx => v13 = .int .i64 (s : Int) ∧ wx = w4.alloc (.cells #[.int .i64 (Z : Int), .slice none 0 0] 36))
  case first =>
    go_wp2
    all_goals go_meet
    all_goals refine ⟨?_, rfl⟩
    all_goals (congr 1; have := HS.out; unfold sizeF at this; omega)
  case rest =>
  obtain ⟨rfl, rfl⟩ := hcut
  obtain ⟨W1, hW1⟩ : ∃ W1, W1 = ((w4.alloc (.cells #[.int .i64 (Z : Int), .slice none 0 0] 36)).alloc (.cells (noughts nt).toArray 3)).alloc (.cells #[.slice (some ⟨w4.heap.size + 1, 0, none⟩) nt nt] 37) := ⟨_, rfl⟩
  have bW : Below w4.heap.size w4 W1 := by rw [hW1]; exact ((below_one w4 _).alloc (below_one w4 _).size _).alloc (by simp; omega) _
  have Lm : Lies W1 w4.heap.size 36 [.int .i64 (Z : Int), .slice none 0 0] := by rw [hW1]; exact ((Lies.new w4 36 [_, _]).alloc _).alloc _
  have Lt : Lies W1 (w4.heap.size + 1) 3 ((List.replicate 0 (-1 : Int) ++ List.replicate (nt - 0) 0).map (Value.int .i64)) := by
    rw [hW1]
    have := (Lies.new (w4.alloc (.cells #[.int .i64 (Z : Int), .slice none 0 0] 36)) 3 (noughts nt)).alloc (.cells #[.slice (some ⟨w4.heap.size + 1, 0, none⟩) nt nt] 37)
    rw [World.size_alloc] at this
    have e : noughts nt = ((List.replicate 0 (-1 : Int) ++ List.replicate (nt - 0) 0).map (Value.int .i64)) := by simp [noughts]
    rw [← e]
    exact this
  have Lb : Lies W1 (w4.heap.size + 1 + 1) 37 [.slice (some ⟨w4.heap.size + 1, 0, none⟩) nt nt] := by
    rw [hW1]
    have := Lies.new ((w4.alloc (.cells #[.int .i64 (Z : Int), .slice none 0 0] 36)).alloc (.cells (noughts nt).toArray 3)) 37 [.slice (some ⟨w4.heap.size + 1, 0, none⟩) nt nt]
    rw [World.size_alloc, World.size_alloc] at this
    exact this
  have szW : W1.heap.size = w4.heap.size + 1 + 1 + 1 := by rw [hW1]; simp
  have HLm := Lib.hid Lm
  have HLt := Lib.hid Lt
  have HLb := Lib.hid Lb
  have HbW := Lib.hid bW
  have HszW := Lib.hid szW
  have b0 : W1.cell? ⟨w4.heap.size + 1 + 1, 0, none⟩ = some (.slice (some ⟨w4.heap.size + 1, 0, none⟩) nt nt) := Lb.cell 0
  rw [hW1] at b0
  have HW1 := Lib.hid hW1
  clear Lm Lt Lb bW szW hW1
  go_wp2_with fail
  rw [← HW1.out]
  have k1 : w4.heap.size < w4.heap.size + 1 := Nat.lt_succ_self _
  have k2 : w4.heap.size + 1 < w4.heap.size + 1 + 1 := Nat.lt_succ_self _
  have k3 : W1.heap.size = w4.heap.size + 1 + 1 + 1 := HszW.out
  clear HszW HW1
  generalize w4.heap.size + 1 + 1 = ba at *
  generalize w4.heap.size + 1 = gt at *
  generalize hbm : w4.heap.size = bm at *
  have Hbm := Lib.hid hbm
  clear hbm
  go_loopw [100, 15] (fun v _ ws => ∃ i : Nat, i ≤ nt ∧ v = .int .i64 (i : Int) ∧ Lies ws gt 3 ((List.replicate i (-1 : Int) ++ List.replicate (nt - i) 0).map (Value.int .i64)) ∧ Else4 gt gt gt gt W1 ws) (fun v _ _ => nt - (intOf v).toNat)
  case atStart => exact ⟨0, Nat.zero_le _, rfl, HLt.out, Else4.refl _ _ _ _ _⟩
  case round =>
    obtain ⟨i, hi, rfl, LT, EE⟩ := hrel
    have hne : ba ≠ gt := HLb.out.apart HLt.out (by decide)
    have LB := EE.lies HLb.out hne hne hne hne
    have b0 : wr.cell? ⟨ba, 0, none⟩ = some (.slice (some ⟨gt, 0, none⟩) nt nt) := LB.cell 0
    by_cases hlt : i < nt
    · obtain ⟨m, hm⟩ : ∃ m, nt - i = m + 1 := ⟨nt - i - 1, by omega⟩
      rw [hm] at LT
      have cb : wr.cell? ⟨gt, i, none⟩ = some (.int .i64 0) := by rw [LT.cell i, List.getElem?_map, minus_at]; rfl
      have cf := LT.frozen i
      have LN : Lies (wr.setCell ⟨gt, i, none⟩ (.int .i64 (-1))) gt 3 ((List.replicate (i + 1) (-1 : Int) ++ List.replicate (nt - (i + 1)) 0).map (Value.int .i64)) := by
        have := LT.set i (.int .i64 (-1))
        rw [← List.map_set, minus_set] at this
        have e4 : nt - (i + 1) = m := by omega
        rw [e4]
        exact this
      have HLN := Lib.hid LN
      have HEN := Lib.hid (EE.put i (.int .i64 (-1)))
      have j3 : (0 : Int) ≤ (i : Int) := by omega
      have j4 : (i : Int) < (nt : Int) := by omega
      clear LT EE LN hm LB
      go_wp2
      exact ⟨⟨i + 1, by omega, by go_num, HLN.out, HEN.out⟩, by simp [intOf]; omega⟩
    · have hin : i = nt := by omega
      subst hin
      have LT2 : Lies wr gt 3 (((List.replicate i (0 : Int)).map fun b => b - 1).map (Value.int .i64)) := by
        have e : (List.replicate i (-1 : Int) ++ List.replicate (i - i) 0) = ((List.replicate i (0 : Int)).map fun b => b - 1) := by simp
        rw [e] at LT
        exact LT
      have hne2 : bm ≠ gt := by omega
      have A1 := HA4.out.kept (HbW.out.mono (by rw [Hbm.out]; exact Nat.le_refl _))
      have AL := A1.else4 EE ⟨by omega, by omega, by omega, by omega⟩ ⟨by omega, by omega, by omega, by omega⟩ ⟨by omega, by omega, by omega, by omega⟩ ⟨by omega, by omega, by omega, by omega⟩ ⟨by omega, by omega, by omega, by omega⟩
      have LX5 := HLX4.out.below HbW.out lx
      have hnx : w.heap.size ≠ gt := by omega
      have LX6 := EE.lies LX5 hnx hnx hnx hnx
      have LM := EE.lies HLm.out hne2 hne2 hne2 hne2
      have O1 : Below w.heap.size w W1 := HB4.out.trans (HbW.out.mono (by have := HB4.out.size; rw [Hbm.out] at this; exact this))
      have szE := EE.size
      obtain ⟨base, hbase⟩ : ∃ base, wr.heap.size = base := ⟨_, rfl⟩
      have FF := Lib.hid (show Lw w.heap.size ga gf g gw gb bm ba gt base from by
        refine ⟨?_, ?_, ?_, ?_, ?_, ?_, ?_, ?_, ?_, ?_, ?_, ?_, ?_, ?_, ?_⟩ <;> omega)
      have PT0 := Lib.hid (show Pt w wr ga gf g gw gb bm ba gt base w.heap.size Z s i y (List.replicate i 0) [] (List.replicate Z 0) none 0 0 [] from
        ⟨AL, ⟨LM, ⟨World.ownsRow_nil _ _ _ _, rfl⟩, rfl, by simpa using LB, LT2, by omega⟩, clean_nil, by simp [flat_nil], by simp, LX6, O1.trans (EE.below O1.size (by omega) (by omega) (by omega) (by omega))⟩)
      clear LT LT2 A1 AL LX5 LX6 LM O1 EE LB hbase HA4 HbW HLX4 HLm HLt HLb HB4 HB2 HB1 HLX2 b0
      go_wp2_with fail
      go_loopw [110] (fun v ws => ∃ j : Nat, j ≤ ds.length ∧ Rel w ws ga gf g gw gb bm ba gt base w.heap.size Z s i y j v) (fun v _ => ds.length - (intOf v).toNat)
      case atStart => exact ⟨0, Nat.zero_le _, _, _, _, _, _, _, _, rfl, PT0.out⟩
      case round =>
        obtain ⟨j, hj, bs, obs, tail, A, n, c', xs, rfl, PP⟩ := hrel
        clear PT0
        by_cases hjl : j < ds.length
        · obtain ⟨ad, rfl, c0, c1, c2, c3, c4⟩ := HD.out.at_ hjl wr PP.old
          have hft := HZ.out ds[j] (List.getElem_mem hjl)
          generalize ds[j] = d at c0 c1 c2 c3 c4 hft
          obtain ⟨kd, th, k, l, p⟩ := d
          obtain ⟨⟨hk0, hk1⟩, _, _, ⟨hl0, hl1⟩, _⟩ := hft
          simp only at c0 c1 c2 c3 c4 hk0 hk1 hl0 hl1
          by_cases hout : th < 0 ∨ (i : Int) ≤ th
          · refine round_out ad c w wr ds.length ga gf g gw gb bm ba gt base w.heap.size Z s i j y bs obs tail A n c' xs kd th k l p h2 hjl z2 n2 FF.out PP c0 c1 c2 c3 c4 hk0 hk1 hl0 hl1 _ _ _ _ _ _ _ _ _ _ _ _ _ _ _ _ _ _ _ _ _ _ _ _ _ _ _ _ _ _ _ _ _ _ _ _ _ _ _ _ _ _ _ _ _ _ _ _ _ _ _ _ _ _ _ _ _ _ _ _ _ _ _ _ _ _ _ _ _ _ _ _ _ _ _ _ _ _ _ _ _ _ _ _ _ _ _ _ _ _ _ _ _ _ _ _ _ _ _ _ _ _ _ _ _ _ _ _ _ _ _ _ _ _ _ _ _ _ _ _ _ _ _ _ _ _ _ _ _ _ _ _ _ _ _ _ _ _ _ _ _ _ _ _ _ _ _ _ _ _ _ _ _ _ _ _ _ _ _ _ _ _ _ _ _ _ _ _ _ _ _ _ _ _ _ _ _ _ _ _ _ _ _ _ _ _ _ _ _ _ _ _ _ _ _ _ _ _ _ _ _ _ _ _ _ _ _ _ _ _ _ _ _ _ _ _ _ _ _ _ _ _ _ _ _ _ _ _ _ _ _ _ _ _ _ _ _ _ _ _ _ _ _ _ _ _ _ _ _ _ _ _ _ _ _ _ _ _ _ _ _ _ _ _ _ _ _ _ _ _ _ _ _ _ _ _ _ _ _ _ _ ?_ hout
            exact fun v6 v18 v19 v20 v21 v22 v23 v24 v25 v26 v27 v28 v29 v30 v31 v32 v110 v111 v112 v113 v114 v115 v116 v117 v118 v119 v120 v121 v122 v123 v124 v125 v126 v127 v128 v129 v130 v131 v132 v133 v134 v135 v136 v137 v138 v139 v140 v141 v142 v143 v144 v145 v146 v147 v148 v149 v150 v151 v152 v153 v154 v155 v156 v157 v158 v159 v160 v161 v162 v163 v164 v165 v166 v167 v168 v169 v170 v171 v172 v173 v174 v175 v176 v177 v178 v179 v180 v181 v182 v183 v184 v185 v186 v187 v188 v189 v190 v191 v192 v193 v194 v195 v196 v197 v198 v199 v200 v201 v202 v203 v204 v205 v206 v207 v208 v209 v210 v211 v212 v213 v214 v215 v216 v217 v218 v219 v220 v221 v222 v223 v224 v225 v226 v227 v228 v229 v230 v231 v232 v233 v234 v235 v236 v237 v238 v239 v240 v241 v242 v243 v244 v245 v246 v247 v248 v249 v250 v251 v252 v253 v254 v255 v256 v257 v258 v259 v260 v261 v262 v263 v264 v265 v266 v267 v268 v269 v270 v271 v272 v273 v274 v275 v276 v277 v278 v279 v280 v281 v282 v283 v284 v285 v286 v287 v288 v289 v290 w'' ⟨bs2, obs2, tail2, A2, n2', c2', xs2, h110, P2⟩ => ⟨⟨v6, v18, v19, v20, v21, v22, v23, v24, v25, v26, v27, v28, v29, v30, v31, v32, v110, v111, v112, v113, v114, v115, v116, v117, v118, v119, v120, v121, v122, v123, v124, v125, v126, v127, v128, v129, v130, v131, v132, v133, v134, v135, v136, v137, v138, v139, v140, v141, v142, v143, v144, v145, v146, v147, v148, v149, v150, v151, v152, v153, v154, v155, v156, v157, v158, v159, v160, v161, v162, v163, v164, v165, v166, v167, v168, v169, v170, v171, v172, v173, v174, v175, v176, v177, v178, v179, v180, v181, v182, v183, v184, v185, v186, v187, v188, v189, v190, v191, v192, v193, v194, v195, v196, v197, v198, v199, v200, v201, v202, v203, v204, v205, v206, v207, v208, v209, v210, v211, v212, v213, v214, v215, v216, v217, v218, v219, v220, v221, v222, v223, v224, v225, v226, v227, v228, v229, v230, v231, v232, v233, v234, v235, v236, v237, v238, v239, v240, v241, v242, v243, v244, v245, v246, v247, v248, v249, v250, v251, v252, v253, v254, v255, v256, v257, v258, v259, v260, v261, v262, v263, v264, v265, v266, v267, v268, v269, v270, v271, v272, v273, v274, v275, v276, v277, v278, v279, v280, v281, v282, v283, v284, v285, v286, v287, v288, v289, v290, ⟨j + 1, by omega, bs2, obs2, tail2, A2, n2', c2', xs2, h110, P2⟩, rfl⟩, by show ds.length - (intOf v110).toNat < ds.length - (intOf (.int .i64 (j : Int))).toNat; rw [h110]; simp [intOf]; omega⟩
          by_cases h7 : kd % 8 = 7
          · refine round_ret ad c w wr ds.length ga gf g gw gb bm ba gt base w.heap.size Z s i j y bs obs tail A n c' xs kd th k l p h2 hjl z2 n2 FF.out PP c0 c1 c2 c3 c4 hk0 hk1 hl0 hl1 _ _ _ _ _ _ _ _ _ _ _ _ _ _ _ _ _ _ _ _ _ _ _ _ _ _ _ _ _ _ _ _ _ _ _ _ _ _ _ _ _ _ _ _ _ _ _ _ _ _ _ _ _ _ _ _ _ _ _ _ _ _ _ _ _ _ _ _ _ _ _ _ _ _ _ _ _ _ _ _ _ _ _ _ _ _ _ _ _ _ _ _ _ _ _ _ _ _ _ _ _ _ _ _ _ _ _ _ _ _ _ _ _ _ _ _ _ _ _ _ _ _ _ _ _ _ _ _ _ _ _ _ _ _ _ _ _ _ _ _ _ _ _ _ _ _ _ _ _ _ _ _ _ _ _ _ _ _ _ _ _ _ _ _ _ _ _ _ _ _ _ _ _ _ _ _ _ _ _ _ _ _ _ _ _ _ _ _ _ _ _ _ _ _ _ _ _ _ _ _ _ _ _ _ _ _ _ _ _ _ _ _ _ _ _ _ _ _ _ _ _ _ _ _ _ _ _ _ _ _ _ _ _ _ _ _ _ _ _ _ _ _ _ _ _ _ _ _ _ _ _ _ _ _ _ _ _ _ _ _ _ _ _ _ _ _ _ _ _ _ _ _ _ _ _ _ _ _ _ _ _ ?_ (by omega) (by omega) h7
            exact fun v6 v18 v19 v20 v21 v22 v23 v24 v25 v26 v27 v28 v29 v30 v31 v32 v110 v111 v112 v113 v114 v115 v116 v117 v118 v119 v120 v121 v122 v123 v124 v125 v126 v127 v128 v129 v130 v131 v132 v133 v134 v135 v136 v137 v138 v139 v140 v141 v142 v143 v144 v145 v146 v147 v148 v149 v150 v151 v152 v153 v154 v155 v156 v157 v158 v159 v160 v161 v162 v163 v164 v165 v166 v167 v168 v169 v170 v171 v172 v173 v174 v175 v176 v177 v178 v179 v180 v181 v182 v183 v184 v185 v186 v187 v188 v189 v190 v191 v192 v193 v194 v195 v196 v197 v198 v199 v200 v201 v202 v203 v204 v205 v206 v207 v208 v209 v210 v211 v212 v213 v214 v215 v216 v217 v218 v219 v220 v221 v222 v223 v224 v225 v226 v227 v228 v229 v230 v231 v232 v233 v234 v235 v236 v237 v238 v239 v240 v241 v242 v243 v244 v245 v246 v247 v248 v249 v250 v251 v252 v253 v254 v255 v256 v257 v258 v259 v260 v261 v262 v263 v264 v265 v266 v267 v268 v269 v270 v271 v272 v273 v274 v275 v276 v277 v278 v279 v280 v281 v282 v283 v284 v285 v286 v287 v288 v289 v290 w'' ⟨bs2, obs2, tail2, A2, n2', c2', xs2, h110, P2⟩ => ⟨⟨v6, v18, v19, v20, v21, v22, v23, v24, v25, v26, v27, v28, v29, v30, v31, v32, v110, v111, v112, v113, v114, v115, v116, v117, v118, v119, v120, v121, v122, v123, v124, v125, v126, v127, v128, v129, v130, v131, v132, v133, v134, v135, v136, v137, v138, v139, v140, v141, v142, v143, v144, v145, v146, v147, v148, v149, v150, v151, v152, v153, v154, v155, v156, v157, v158, v159, v160, v161, v162, v163, v164, v165, v166, v167, v168, v169, v170, v171, v172, v173, v174, v175, v176, v177, v178, v179, v180, v181, v182, v183, v184, v185, v186, v187, v188, v189, v190, v191, v192, v193, v194, v195, v196, v197, v198, v199, v200, v201, v202, v203, v204, v205, v206, v207, v208, v209, v210, v211, v212, v213, v214, v215, v216, v217, v218, v219, v220, v221, v222, v223, v224, v225, v226, v227, v228, v229, v230, v231, v232, v233, v234, v235, v236, v237, v238, v239, v240, v241, v242, v243, v244, v245, v246, v247, v248, v249, v250, v251, v252, v253, v254, v255, v256, v257, v258, v259, v260, v261, v262, v263, v264, v265, v266, v267, v268, v269, v270, v271, v272, v273, v274, v275, v276, v277, v278, v279, v280, v281, v282, v283, v284, v285, v286, v287, v288, v289, v290, ⟨j + 1, by omega, bs2, obs2, tail2, A2, n2', c2', xs2, h110, P2⟩, rfl⟩, by show ds.length - (intOf v110).toNat < ds.length - (intOf (.int .i64 (j : Int))).toNat; rw [h110]; simp [intOf]; omega⟩
          by_cases hg : goodB k l p = false
          · refine round_c1 ad c w wr ds.length ga gf g gw gb bm ba gt base w.heap.size Z s i j y bs obs tail A n c' xs kd th k l p h2 hjl z2 n2 FF.out PP c0 c1 c2 c3 c4 hk0 hk1 hl0 hl1 _ _ _ _ _ _ _ _ _ _ _ _ _ _ _ _ _ _ _ _ _ _ _ _ _ _ _ _ _ _ _ _ _ _ _ _ _ _ _ _ _ _ _ _ _ _ _ _ _ _ _ _ _ _ _ _ _ _ _ _ _ _ _ _ _ _ _ _ _ _ _ _ _ _ _ _ _ _ _ _ _ _ _ _ _ _ _ _ _ _ _ _ _ _ _ _ _ _ _ _ _ _ _ _ _ _ _ _ _ _ _ _ _ _ _ _ _ _ _ _ _ _ _ _ _ _ _ _ _ _ _ _ _ _ _ _ _ _ _ _ _ _ _ _ _ _ _ _ _ _ _ _ _ _ _ _ _ _ _ _ _ _ _ _ _ _ _ _ _ _ _ _ _ _ _ _ _ _ _ _ _ _ _ _ _ _ _ _ _ _ _ _ _ _ _ _ _ _ _ _ _ _ _ _ _ _ _ _ _ _ _ _ _ _ _ _ _ _ _ _ _ _ _ _ _ _ _ _ _ _ _ _ _ _ _ _ _ _ _ _ _ _ _ _ _ _ _ _ _ _ _ _ _ _ _ _ _ _ _ _ _ _ _ _ _ _ _ _ _ _ _ _ _ _ _ _ _ _ _ _ _ ?_ (by omega) (by omega) h7 hg
            exact fun v6 v18 v19 v20 v21 v22 v23 v24 v25 v26 v27 v28 v29 v30 v31 v32 v110 v111 v112 v113 v114 v115 v116 v117 v118 v119 v120 v121 v122 v123 v124 v125 v126 v127 v128 v129 v130 v131 v132 v133 v134 v135 v136 v137 v138 v139 v140 v141 v142 v143 v144 v145 v146 v147 v148 v149 v150 v151 v152 v153 v154 v155 v156 v157 v158 v159 v160 v161 v162 v163 v164 v165 v166 v167 v168 v169 v170 v171 v172 v173 v174 v175 v176 v177 v178 v179 v180 v181 v182 v183 v184 v185 v186 v187 v188 v189 v190 v191 v192 v193 v194 v195 v196 v197 v198 v199 v200 v201 v202 v203 v204 v205 v206 v207 v208 v209 v210 v211 v212 v213 v214 v215 v216 v217 v218 v219 v220 v221 v222 v223 v224 v225 v226 v227 v228 v229 v230 v231 v232 v233 v234 v235 v236 v237 v238 v239 v240 v241 v242 v243 v244 v245 v246 v247 v248 v249 v250 v251 v252 v253 v254 v255 v256 v257 v258 v259 v260 v261 v262 v263 v264 v265 v266 v267 v268 v269 v270 v271 v272 v273 v274 v275 v276 v277 v278 v279 v280 v281 v282 v283 v284 v285 v286 v287 v288 v289 v290 w'' ⟨bs2, obs2, tail2, A2, n2', c2', xs2, h110, P2⟩ => ⟨⟨v6, v18, v19, v20, v21, v22, v23, v24, v25, v26, v27, v28, v29, v30, v31, v32, v110, v111, v112, v113, v114, v115, v116, v117, v118, v119, v120, v121, v122, v123, v124, v125, v126, v127, v128, v129, v130, v131, v132, v133, v134, v135, v136, v137, v138, v139, v140, v141, v142, v143, v144, v145, v146, v147, v148, v149, v150, v151, v152, v153, v154, v155, v156, v157, v158, v159, v160, v161, v162, v163, v164, v165, v166, v167, v168, v169, v170, v171, v172, v173, v174, v175, v176, v177, v178, v179, v180, v181, v182, v183, v184, v185, v186, v187, v188, v189, v190, v191, v192, v193, v194, v195, v196, v197, v198, v199, v200, v201, v202, v203, v204, v205, v206, v207, v208, v209, v210, v211, v212, v213, v214, v215, v216, v217, v218, v219, v220, v221, v222, v223, v224, v225, v226, v227, v228, v229, v230, v231, v232, v233, v234, v235, v236, v237, v238, v239, v240, v241, v242, v243, v244, v245, v246, v247, v248, v249, v250, v251, v252, v253, v254, v255, v256, v257, v258, v259, v260, v261, v262, v263, v264, v265, v266, v267, v268, v269, v270, v271, v272, v273, v274, v275, v276, v277, v278, v279, v280, v281, v282, v283, v284, v285, v286, v287, v288, v289, v290, ⟨j + 1, by omega, bs2, obs2, tail2, A2, n2', c2', xs2, h110, P2⟩, rfl⟩, by show ds.length - (intOf v110).toNat < ds.length - (intOf (.int .i64 (j : Int))).toNat; rw [h110]; simp [intOf]; omega⟩
          by_cases h15 : k = 15
          · refine round_c2 ad c w wr ds.length ga gf g gw gb bm ba gt base w.heap.size Z s i j y bs obs tail A n c' xs kd th k l p h2 hjl z2 n2 FF.out PP c0 c1 c2 c3 c4 hk0 hk1 hl0 hl1 _ _ _ _ _ _ _ _ _ _ _ _ _ _ _ _ _ _ _ _ _ _ _ _ _ _ _ _ _ _ _ _ _ _ _ _ _ _ _ _ _ _ _ _ _ _ _ _ _ _ _ _ _ _ _ _ _ _ _ _ _ _ _ _ _ _ _ _ _ _ _ _ _ _ _ _ _ _ _ _ _ _ _ _ _ _ _ _ _ _ _ _ _ _ _ _ _ _ _ _ _ _ _ _ _ _ _ _ _ _ _ _ _ _ _ _ _ _ _ _ _ _ _ _ _ _ _ _ _ _ _ _ _ _ _ _ _ _ _ _ _ _ _ _ _ _ _ _ _ _ _ _ _ _ _ _ _ _ _ _ _ _ _ _ _ _ _ _ _ _ _ _ _ _ _ _ _ _ _ _ _ _ _ _ _ _ _ _ _ _ _ _ _ _ _ _ _ _ _ _ _ _ _ _ _ _ _ _ _ _ _ _ _ _ _ _ _ _ _ _ _ _ _ _ _ _ _ _ _ _ _ _ _ _ _ _ _ _ _ _ _ _ _ _ _ _ _ _ _ _ _ _ _ _ _ _ _ _ _ _ _ _ _ _ _ _ _ _ _ _ _ _ _ _ _ _ _ _ _ _ _ ?_ (by omega) (by omega) h7 (by simpa using hg) h15
            exact fun v6 v18 v19 v20 v21 v22 v23 v24 v25 v26 v27 v28 v29 v30 v31 v32 v110 v111 v112 v113 v114 v115 v116 v117 v118 v119 v120 v121 v122 v123 v124 v125 v126 v127 v128 v129 v130 v131 v132 v133 v134 v135 v136 v137 v138 v139 v140 v141 v142 v143 v144 v145 v146 v147 v148 v149 v150 v151 v152 v153 v154 v155 v156 v157 v158 v159 v160 v161 v162 v163 v164 v165 v166 v167 v168 v169 v170 v171 v172 v173 v174 v175 v176 v177 v178 v179 v180 v181 v182 v183 v184 v185 v186 v187 v188 v189 v190 v191 v192 v193 v194 v195 v196 v197 v198 v199 v200 v201 v202 v203 v204 v205 v206 v207 v208 v209 v210 v211 v212 v213 v214 v215 v216 v217 v218 v219 v220 v221 v222 v223 v224 v225 v226 v227 v228 v229 v230 v231 v232 v233 v234 v235 v236 v237 v238 v239 v240 v241 v242 v243 v244 v245 v246 v247 v248 v249 v250 v251 v252 v253 v254 v255 v256 v257 v258 v259 v260 v261 v262 v263 v264 v265 v266 v267 v268 v269 v270 v271 v272 v273 v274 v275 v276 v277 v278 v279 v280 v281 v282 v283 v284 v285 v286 v287 v288 v289 v290 w'' ⟨bs2, obs2, tail2, A2, n2', c2', xs2, h110, P2⟩ => ⟨⟨v6, v18, v19, v20, v21, v22, v23, v24, v25, v26, v27, v28, v29, v30, v31, v32, v110, v111, v112, v113, v114, v115, v116, v117, v118, v119, v120, v121, v122, v123, v124, v125, v126, v127, v128, v129, v130, v131, v132, v133, v134, v135, v136, v137, v138, v139, v140, v141, v142, v143, v144, v145, v146, v147, v148, v149, v150, v151, v152, v153, v154, v155, v156, v157, v158, v159, v160, v161, v162, v163, v164, v165, v166, v167, v168, v169, v170, v171, v172, v173, v174, v175, v176, v177, v178, v179, v180, v181, v182, v183, v184, v185, v186, v187, v188, v189, v190, v191, v192, v193, v194, v195, v196, v197, v198, v199, v200, v201, v202, v203, v204, v205, v206, v207, v208, v209, v210, v211, v212, v213, v214, v215, v216, v217, v218, v219, v220, v221, v222, v223, v224, v225, v226, v227, v228, v229, v230, v231, v232, v233, v234, v235, v236, v237, v238, v239, v240, v241, v242, v243, v244, v245, v246, v247, v248, v249, v250, v251, v252, v253, v254, v255, v256, v257, v258, v259, v260, v261, v262, v263, v264, v265, v266, v267, v268, v269, v270, v271, v272, v273, v274, v275, v276, v277, v278, v279, v280, v281, v282, v283, v284, v285, v286, v287, v288, v289, v290, ⟨j + 1, by omega, bs2, obs2, tail2, A2, n2', c2', xs2, h110, P2⟩, rfl⟩, by show ds.length - (intOf v110).toNat < ds.length - (intOf (.int .i64 (j : Int))).toNat; rw [h110]; simp [intOf]; omega⟩
          by_cases hlg : (s : Int) / 2 < 1 + l
          · by_cases hft : tail.length < 1 + l.toNat
            · refine round_d2 ad c w wr ds.length ga gf g gw gb bm ba gt base w.heap.size Z s i j y bs obs tail A n c' xs kd th k l p h2 hjl z2 n2 FF.out PP c0 c1 c2 c3 c4 hk0 hk1 hl0 hl1 _ _ _ _ _ _ _ _ _ _ _ _ _ _ _ _ _ _ _ _ _ _ _ _ _ _ _ _ _ _ _ _ _ _ _ _ _ _ _ _ _ _ _ _ _ _ _ _ _ _ _ _ _ _ _ _ _ _ _ _ _ _ _ _ _ _ _ _ _ _ _ _ _ _ _ _ _ _ _ _ _ _ _ _ _ _ _ _ _ _ _ _ _ _ _ _ _ _ _ _ _ _ _ _ _ _ _ _ _ _ _ _ _ _ _ _ _ _ _ _ _ _ _ _ _ _ _ _ _ _ _ _ _ _ _ _ _ _ _ _ _ _ _ _ _ _ _ _ _ _ _ _ _ _ _ _ _ _ _ _ _ _ _ _ _ _ _ _ _ _ _ _ _ _ _ _ _ _ _ _ _ _ _ _ _ _ _ _ _ _ _ _ _ _ _ _ _ _ _ _ _ _ _ _ _ _ _ _ _ _ _ _ _ _ _ _ _ _ _ _ _ _ _ _ _ _ _ _ _ _ _ _ _ _ _ _ _ _ _ _ _ _ _ _ _ _ _ _ _ _ _ _ _ _ _ _ _ _ _ _ _ _ _ _ _ _ _ _ _ _ _ _ _ _ _ _ _ _ _ _ _ ?_ (by omega) (by omega) h7 (by simpa using hg) h15 hlg hft
              exact fun v6 v18 v19 v20 v21 v22 v23 v24 v25 v26 v27 v28 v29 v30 v31 v32 v110 v111 v112 v113 v114 v115 v116 v117 v118 v119 v120 v121 v122 v123 v124 v125 v126 v127 v128 v129 v130 v131 v132 v133 v134 v135 v136 v137 v138 v139 v140 v141 v142 v143 v144 v145 v146 v147 v148 v149 v150 v151 v152 v153 v154 v155 v156 v157 v158 v159 v160 v161 v162 v163 v164 v165 v166 v167 v168 v169 v170 v171 v172 v173 v174 v175 v176 v177 v178 v179 v180 v181 v182 v183 v184 v185 v186 v187 v188 v189 v190 v191 v192 v193 v194 v195 v196 v197 v198 v199 v200 v201 v202 v203 v204 v205 v206 v207 v208 v209 v210 v211 v212 v213 v214 v215 v216 v217 v218 v219 v220 v221 v222 v223 v224 v225 v226 v227 v228 v229 v230 v231 v232 v233 v234 v235 v236 v237 v238 v239 v240 v241 v242 v243 v244 v245 v246 v247 v248 v249 v250 v251 v252 v253 v254 v255 v256 v257 v258 v259 v260 v261 v262 v263 v264 v265 v266 v267 v268 v269 v270 v271 v272 v273 v274 v275 v276 v277 v278 v279 v280 v281 v282 v283 v284 v285 v286 v287 v288 v289 v290 w'' ⟨bs2, obs2, tail2, A2, n2', c2', xs2, h110, P2⟩ => ⟨⟨v6, v18, v19, v20, v21, v22, v23, v24, v25, v26, v27, v28, v29, v30, v31, v32, v110, v111, v112, v113, v114, v115, v116, v117, v118, v119, v120, v121, v122, v123, v124, v125, v126, v127, v128, v129, v130, v131, v132, v133, v134, v135, v136, v137, v138, v139, v140, v141, v142, v143, v144, v145, v146, v147, v148, v149, v150, v151, v152, v153, v154, v155, v156, v157, v158, v159, v160, v161, v162, v163, v164, v165, v166, v167, v168, v169, v170, v171, v172, v173, v174, v175, v176, v177, v178, v179, v180, v181, v182, v183, v184, v185, v186, v187, v188, v189, v190, v191, v192, v193, v194, v195, v196, v197, v198, v199, v200, v201, v202, v203, v204, v205, v206, v207, v208, v209, v210, v211, v212, v213, v214, v215, v216, v217, v218, v219, v220, v221, v222, v223, v224, v225, v226, v227, v228, v229, v230, v231, v232, v233, v234, v235, v236, v237, v238, v239, v240, v241, v242, v243, v244, v245, v246, v247, v248, v249, v250, v251, v252, v253, v254, v255, v256, v257, v258, v259, v260, v261, v262, v263, v264, v265, v266, v267, v268, v269, v270, v271, v272, v273, v274, v275, v276, v277, v278, v279, v280, v281, v282, v283, v284, v285, v286, v287, v288, v289, v290, ⟨j + 1, by omega, bs2, obs2, tail2, A2, n2', c2', xs2, h110, P2⟩, rfl⟩, by show ds.length - (intOf v110).toNat < ds.length - (intOf (.int .i64 (j : Int))).toNat; rw [h110]; simp [intOf]; omega⟩
            · refine round_d1 ad c w wr ds.length ga gf g gw gb bm ba gt base w.heap.size Z s i j y bs obs tail A n c' xs kd th k l p h2 hjl z2 n2 FF.out PP c0 c1 c2 c3 c4 hk0 hk1 hl0 hl1 _ _ _ _ _ _ _ _ _ _ _ _ _ _ _ _ _ _ _ _ _ _ _ _ _ _ _ _ _ _ _ _ _ _ _ _ _ _ _ _ _ _ _ _ _ _ _ _ _ _ _ _ _ _ _ _ _ _ _ _ _ _ _ _ _ _ _ _ _ _ _ _ _ _ _ _ _ _ _ _ _ _ _ _ _ _ _ _ _ _ _ _ _ _ _ _ _ _ _ _ _ _ _ _ _ _ _ _ _ _ _ _ _ _ _ _ _ _ _ _ _ _ _ _ _ _ _ _ _ _ _ _ _ _ _ _ _ _ _ _ _ _ _ _ _ _ _ _ _ _ _ _ _ _ _ _ _ _ _ _ _ _ _ _ _ _ _ _ _ _ _ _ _ _ _ _ _ _ _ _ _ _ _ _ _ _ _ _ _ _ _ _ _ _ _ _ _ _ _ _ _ _ _ _ _ _ _ _ _ _ _ _ _ _ _ _ _ _ _ _ _ _ _ _ _ _ _ _ _ _ _ _ _ _ _ _ _ _ _ _ _ _ _ _ _ _ _ _ _ _ _ _ _ _ _ _ _ _ _ _ _ _ _ _ _ _ _ _ _ _ _ _ _ _ _ _ _ _ _ _ _ ?_ (by omega) (by omega) h7 (by simpa using hg) h15 hlg hft
              exact fun v6 v18 v19 v20 v21 v22 v23 v24 v25 v26 v27 v28 v29 v30 v31 v32 v110 v111 v112 v113 v114 v115 v116 v117 v118 v119 v120 v121 v122 v123 v124 v125 v126 v127 v128 v129 v130 v131 v132 v133 v134 v135 v136 v137 v138 v139 v140 v141 v142 v143 v144 v145 v146 v147 v148 v149 v150 v151 v152 v153 v154 v155 v156 v157 v158 v159 v160 v161 v162 v163 v164 v165 v166 v167 v168 v169 v170 v171 v172 v173 v174 v175 v176 v177 v178 v179 v180 v181 v182 v183 v184 v185 v186 v187 v188 v189 v190 v191 v192 v193 v194 v195 v196 v197 v198 v199 v200 v201 v202 v203 v204 v205 v206 v207 v208 v209 v210 v211 v212 v213 v214 v215 v216 v217 v218 v219 v220 v221 v222 v223 v224 v225 v226 v227 v228 v229 v230 v231 v232 v233 v234 v235 v236 v237 v238 v239 v240 v241 v242 v243 v244 v245 v246 v247 v248 v249 v250 v251 v252 v253 v254 v255 v256 v257 v258 v259 v260 v261 v262 v263 v264 v265 v266 v267 v268 v269 v270 v271 v272 v273 v274 v275 v276 v277 v278 v279 v280 v281 v282 v283 v284 v285 v286 v287 v288 v289 v290 w'' ⟨bs2, obs2, tail2, A2, n2', c2', xs2, h110, P2⟩ => ⟨⟨v6, v18, v19, v20, v21, v22, v23, v24, v25, v26, v27, v28, v29, v30, v31, v32, v110, v111, v112, v113, v114, v115, v116, v117, v118, v119, v120, v121, v122, v123, v124, v125, v126, v127, v128, v129, v130, v131, v132, v133, v134, v135, v136, v137, v138, v139, v140, v141, v142, v143, v144, v145, v146, v147, v148, v149, v150, v151, v152, v153, v154, v155, v156, v157, v158, v159, v160, v161, v162, v163, v164, v165, v166, v167, v168, v169, v170, v171, v172, v173, v174, v175, v176, v177, v178, v179, v180, v181, v182, v183, v184, v185, v186, v187, v188, v189, v190, v191, v192, v193, v194, v195, v196, v197, v198, v199, v200, v201, v202, v203, v204, v205, v206, v207, v208, v209, v210, v211, v212, v213, v214, v215, v216, v217, v218, v219, v220, v221, v222, v223, v224, v225, v226, v227, v228, v229, v230, v231, v232, v233, v234, v235, v236, v237, v238, v239, v240, v241, v242, v243, v244, v245, v246, v247, v248, v249, v250, v251, v252, v253, v254, v255, v256, v257, v258, v259, v260, v261, v262, v263, v264, v265, v266, v267, v268, v269, v270, v271, v272, v273, v274, v275, v276, v277, v278, v279, v280, v281, v282, v283, v284, v285, v286, v287, v288, v289, v290, ⟨j + 1, by omega, bs2, obs2, tail2, A2, n2', c2', xs2, h110, P2⟩, rfl⟩, by show ds.length - (intOf v110).toNat < ds.length - (intOf (.int .i64 (j : Int))).toNat; rw [h110]; simp [intOf]; omega⟩
          by_cases hlf : leftF bs obs th.toNat < 1 + l
          · by_cases hnw : (placeF obs tail 15 ((s : Int) - 1) 0).2.1 = 0
            · refine round_g ad c w wr ds.length ga gf g gw gb bm ba gt base w.heap.size Z s i j y bs obs tail A n c' xs kd th k l p h2 hjl z2 n2 FF.out PP c0 c1 c2 c3 c4 hk0 hk1 hl0 hl1 _ _ _ _ _ _ _ _ _ _ _ _ _ _ _ _ _ _ _ _ _ _ _ _ _ _ _ _ _ _ _ _ _ _ _ _ _ _ _ _ _ _ _ _ _ _ _ _ _ _ _ _ _ _ _ _ _ _ _ _ _ _ _ _ _ _ _ _ _ _ _ _ _ _ _ _ _ _ _ _ _ _ _ _ _ _ _ _ _ _ _ _ _ _ _ _ _ _ _ _ _ _ _ _ _ _ _ _ _ _ _ _ _ _ _ _ _ _ _ _ _ _ _ _ _ _ _ _ _ _ _ _ _ _ _ _ _ _ _ _ _ _ _ _ _ _ _ _ _ _ _ _ _ _ _ _ _ _ _ _ _ _ _ _ _ _ _ _ _ _ _ _ _ _ _ _ _ _ _ _ _ _ _ _ _ _ _ _ _ _ _ _ _ _ _ _ _ _ _ _ _ _ _ _ _ _ _ _ _ _ _ _ _ _ _ _ _ _ _ _ _ _ _ _ _ _ _ _ _ _ _ _ _ _ _ _ _ _ _ _ _ _ _ _ _ _ _ _ _ _ _ _ _ _ _ _ _ _ _ _ _ _ _ _ _ _ _ _ _ _ _ _ _ _ _ _ _ _ _ _ _ ?_ (by omega) (by omega) h7 (by simpa using hg) h15 hlg hlf hnw
              exact fun v6 v18 v19 v20 v21 v22 v23 v24 v25 v26 v27 v28 v29 v30 v31 v32 v110 v111 v112 v113 v114 v115 v116 v117 v118 v119 v120 v121 v122 v123 v124 v125 v126 v127 v128 v129 v130 v131 v132 v133 v134 v135 v136 v137 v138 v139 v140 v141 v142 v143 v144 v145 v146 v147 v148 v149 v150 v151 v152 v153 v154 v155 v156 v157 v158 v159 v160 v161 v162 v163 v164 v165 v166 v167 v168 v169 v170 v171 v172 v173 v174 v175 v176 v177 v178 v179 v180 v181 v182 v183 v184 v185 v186 v187 v188 v189 v190 v191 v192 v193 v194 v195 v196 v197 v198 v199 v200 v201 v202 v203 v204 v205 v206 v207 v208 v209 v210 v211 v212 v213 v214 v215 v216 v217 v218 v219 v220 v221 v222 v223 v224 v225 v226 v227 v228 v229 v230 v231 v232 v233 v234 v235 v236 v237 v238 v239 v240 v241 v242 v243 v244 v245 v246 v247 v248 v249 v250 v251 v252 v253 v254 v255 v256 v257 v258 v259 v260 v261 v262 v263 v264 v265 v266 v267 v268 v269 v270 v271 v272 v273 v274 v275 v276 v277 v278 v279 v280 v281 v282 v283 v284 v285 v286 v287 v288 v289 v290 w'' ⟨bs2, obs2, tail2, A2, n2', c2', xs2, h110, P2⟩ => ⟨⟨v6, v18, v19, v20, v21, v22, v23, v24, v25, v26, v27, v28, v29, v30, v31, v32, v110, v111, v112, v113, v114, v115, v116, v117, v118, v119, v120, v121, v122, v123, v124, v125, v126, v127, v128, v129, v130, v131, v132, v133, v134, v135, v136, v137, v138, v139, v140, v141, v142, v143, v144, v145, v146, v147, v148, v149, v150, v151, v152, v153, v154, v155, v156, v157, v158, v159, v160, v161, v162, v163, v164, v165, v166, v167, v168, v169, v170, v171, v172, v173, v174, v175, v176, v177, v178, v179, v180, v181, v182, v183, v184, v185, v186, v187, v188, v189, v190, v191, v192, v193, v194, v195, v196, v197, v198, v199, v200, v201, v202, v203, v204, v205, v206, v207, v208, v209, v210, v211, v212, v213, v214, v215, v216, v217, v218, v219, v220, v221, v222, v223, v224, v225, v226, v227, v228, v229, v230, v231, v232, v233, v234, v235, v236, v237, v238, v239, v240, v241, v242, v243, v244, v245, v246, v247, v248, v249, v250, v251, v252, v253, v254, v255, v256, v257, v258, v259, v260, v261, v262, v263, v264, v265, v266, v267, v268, v269, v270, v271, v272, v273, v274, v275, v276, v277, v278, v279, v280, v281, v282, v283, v284, v285, v286, v287, v288, v289, v290, ⟨j + 1, by omega, bs2, obs2, tail2, A2, n2', c2', xs2, h110, P2⟩, rfl⟩, by show ds.length - (intOf v110).toNat < ds.length - (intOf (.int .i64 (j : Int))).toNat; rw [h110]; simp [intOf]; omega⟩
            · by_cases hft : tail.length < 1 + l.toNat
              · refine round_f2 ad c w wr ds.length ga gf g gw gb bm ba gt base w.heap.size Z s i j y bs obs tail A n c' xs kd th k l p h2 hjl z2 n2 FF.out PP c0 c1 c2 c3 c4 hk0 hk1 hl0 hl1 _ _ _ _ _ _ _ _ _ _ _ _ _ _ _ _ _ _ _ _ _ _ _ _ _ _ _ _ _ _ _ _ _ _ _ _ _ _ _ _ _ _ _ _ _ _ _ _ _ _ _ _ _ _ _ _ _ _ _ _ _ _ _ _ _ _ _ _ _ _ _ _ _ _ _ _ _ _ _ _ _ _ _ _ _ _ _ _ _ _ _ _ _ _ _ _ _ _ _ _ _ _ _ _ _ _ _ _ _ _ _ _ _ _ _ _ _ _ _ _ _ _ _ _ _ _ _ _ _ _ _ _ _ _ _ _ _ _ _ _ _ _ _ _ _ _ _ _ _ _ _ _ _ _ _ _ _ _ _ _ _ _ _ _ _ _ _ _ _ _ _ _ _ _ _ _ _ _ _ _ _ _ _ _ _ _ _ _ _ _ _ _ _ _ _ _ _ _ _ _ _ _ _ _ _ _ _ _ _ _ _ _ _ _ _ _ _ _ _ _ _ _ _ _ _ _ _ _ _ _ _ _ _ _ _ _ _ _ _ _ _ _ _ _ _ _ _ _ _ _ _ _ _ _ _ _ _ _ _ _ _ _ _ _ _ _ _ _ _ _ _ _ _ _ _ _ _ _ _ _ _ ?_ (by omega) (by omega) h7 (by simpa using hg) h15 hlg hlf hnw hft
                exact fun v6 v18 v19 v20 v21 v22 v23 v24 v25 v26 v27 v28 v29 v30 v31 v32 v110 v111 v112 v113 v114 v115 v116 v117 v118 v119 v120 v121 v122 v123 v124 v125 v126 v127 v128 v129 v130 v131 v132 v133 v134 v135 v136 v137 v138 v139 v140 v141 v142 v143 v144 v145 v146 v147 v148 v149 v150 v151 v152 v153 v154 v155 v156 v157 v158 v159 v160 v161 v162 v163 v164 v165 v166 v167 v168 v169 v170 v171 v172 v173 v174 v175 v176 v177 v178 v179 v180 v181 v182 v183 v184 v185 v186 v187 v188 v189 v190 v191 v192 v193 v194 v195 v196 v197 v198 v199 v200 v201 v202 v203 v204 v205 v206 v207 v208 v209 v210 v211 v212 v213 v214 v215 v216 v217 v218 v219 v220 v221 v222 v223 v224 v225 v226 v227 v228 v229 v230 v231 v232 v233 v234 v235 v236 v237 v238 v239 v240 v241 v242 v243 v244 v245 v246 v247 v248 v249 v250 v251 v252 v253 v254 v255 v256 v257 v258 v259 v260 v261 v262 v263 v264 v265 v266 v267 v268 v269 v270 v271 v272 v273 v274 v275 v276 v277 v278 v279 v280 v281 v282 v283 v284 v285 v286 v287 v288 v289 v290 w'' ⟨bs2, obs2, tail2, A2, n2', c2', xs2, h110, P2⟩ => ⟨⟨v6, v18, v19, v20, v21, v22, v23, v24, v25, v26, v27, v28, v29, v30, v31, v32, v110, v111, v112, v113, v114, v115, v116, v117, v118, v119, v120, v121, v122, v123, v124, v125, v126, v127, v128, v129, v130, v131, v132, v133, v134, v135, v136, v137, v138, v139, v140, v141, v142, v143, v144, v145, v146, v147, v148, v149, v150, v151, v152, v153, v154, v155, v156, v157, v158, v159, v160, v161, v162, v163, v164, v165, v166, v167, v168, v169, v170, v171, v172, v173, v174, v175, v176, v177, v178, v179, v180, v181, v182, v183, v184, v185, v186, v187, v188, v189, v190, v191, v192, v193, v194, v195, v196, v197, v198, v199, v200, v201, v202, v203, v204, v205, v206, v207, v208, v209, v210, v211, v212, v213, v214, v215, v216, v217, v218, v219, v220, v221, v222, v223, v224, v225, v226, v227, v228, v229, v230, v231, v232, v233, v234, v235, v236, v237, v238, v239, v240, v241, v242, v243, v244, v245, v246, v247, v248, v249, v250, v251, v252, v253, v254, v255, v256, v257, v258, v259, v260, v261, v262, v263, v264, v265, v266, v267, v268, v269, v270, v271, v272, v273, v274, v275, v276, v277, v278, v279, v280, v281, v282, v283, v284, v285, v286, v287, v288, v289, v290, ⟨j + 1, by omega, bs2, obs2, tail2, A2, n2', c2', xs2, h110, P2⟩, rfl⟩, by show ds.length - (intOf v110).toNat < ds.length - (intOf (.int .i64 (j : Int))).toNat; rw [h110]; simp [intOf]; omega⟩
              · refine round_f1 ad c w wr ds.length ga gf g gw gb bm ba gt base w.heap.size Z s i j y bs obs tail A n c' xs kd th k l p h2 hjl z2 n2 FF.out PP c0 c1 c2 c3 c4 hk0 hk1 hl0 hl1 _ _ _ _ _ _ _ _ _ _ _ _ _ _ _ _ _ _ _ _ _ _ _ _ _ _ _ _ _ _ _ _ _ _ _ _ _ _ _ _ _ _ _ _ _ _ _ _ _ _ _ _ _ _ _ _ _ _ _ _ _ _ _ _ _ _ _ _ _ _ _ _ _ _ _ _ _ _ _ _ _ _ _ _ _ _ _ _ _ _ _ _ _ _ _ _ _ _ _ _ _ _ _ _ _ _ _ _ _ _ _ _ _ _ _ _ _ _ _ _ _ _ _ _ _ _ _ _ _ _ _ _ _ _ _ _ _ _ _ _ _ _ _ _ _ _ _ _ _ _ _ _ _ _ _ _ _ _ _ _ _ _ _ _ _ _ _ _ _ _ _ _ _ _ _ _ _ _ _ _ _ _ _ _ _ _ _ _ _ _ _ _ _ _ _ _ _ _ _ _ _ _ _ _ _ _ _ _ _ _ _ _ _ _ _ _ _ _ _ _ _ _ _ _ _ _ _ _ _ _ _ _ _ _ _ _ _ _ _ _ _ _ _ _ _ _ _ _ _ _ _ _ _ _ _ _ _ _ _ _ _ _ _ _ _ _ _ _ _ _ _ _ _ _ _ _ _ _ _ _ _ ?_ (by omega) (by omega) h7 (by simpa using hg) h15 hlg hlf hnw hft
                exact fun v6 v18 v19 v20 v21 v22 v23 v24 v25 v26 v27 v28 v29 v30 v31 v32 v110 v111 v112 v113 v114 v115 v116 v117 v118 v119 v120 v121 v122 v123 v124 v125 v126 v127 v128 v129 v130 v131 v132 v133 v134 v135 v136 v137 v138 v139 v140 v141 v142 v143 v144 v145 v146 v147 v148 v149 v150 v151 v152 v153 v154 v155 v156 v157 v158 v159 v160 v161 v162 v163 v164 v165 v166 v167 v168 v169 v170 v171 v172 v173 v174 v175 v176 v177 v178 v179 v180 v181 v182 v183 v184 v185 v186 v187 v188 v189 v190 v191 v192 v193 v194 v195 v196 v197 v198 v199 v200 v201 v202 v203 v204 v205 v206 v207 v208 v209 v210 v211 v212 v213 v214 v215 v216 v217 v218 v219 v220 v221 v222 v223 v224 v225 v226 v227 v228 v229 v230 v231 v232 v233 v234 v235 v236 v237 v238 v239 v240 v241 v242 v243 v244 v245 v246 v247 v248 v249 v250 v251 v252 v253 v254 v255 v256 v257 v258 v259 v260 v261 v262 v263 v264 v265 v266 v267 v268 v269 v270 v271 v272 v273 v274 v275 v276 v277 v278 v279 v280 v281 v282 v283 v284 v285 v286 v287 v288 v289 v290 w'' ⟨bs2, obs2, tail2, A2, n2', c2', xs2, h110, P2⟩ => ⟨⟨v6, v18, v19, v20, v21, v22, v23, v24, v25, v26, v27, v28, v29, v30, v31, v32, v110, v111, v112, v113, v114, v115, v116, v117, v118, v119, v120, v121, v122, v123, v124, v125, v126, v127, v128, v129, v130, v131, v132, v133, v134, v135, v136, v137, v138, v139, v140, v141, v142, v143, v144, v145, v146, v147, v148, v149, v150, v151, v152, v153, v154, v155, v156, v157, v158, v159, v160, v161, v162, v163, v164, v165, v166, v167, v168, v169, v170, v171, v172, v173, v174, v175, v176, v177, v178, v179, v180, v181, v182, v183, v184, v185, v186, v187, v188, v189, v190, v191, v192, v193, v194, v195, v196, v197, v198, v199, v200, v201, v202, v203, v204, v205, v206, v207, v208, v209, v210, v211, v212, v213, v214, v215, v216, v217, v218, v219, v220, v221, v222, v223, v224, v225, v226, v227, v228, v229, v230, v231, v232, v233, v234, v235, v236, v237, v238, v239, v240, v241, v242, v243, v244, v245, v246, v247, v248, v249, v250, v251, v252, v253, v254, v255, v256, v257, v258, v259, v260, v261, v262, v263, v264, v265, v266, v267, v268, v269, v270, v271, v272, v273, v274, v275, v276, v277, v278, v279, v280, v281, v282, v283, v284, v285, v286, v287, v288, v289, v290, ⟨j + 1, by omega, bs2, obs2, tail2, A2, n2', c2', xs2, h110, P2⟩, rfl⟩, by show ds.length - (intOf v110).toNat < ds.length - (intOf (.int .i64 (j : Int))).toNat; rw [h110]; simp [intOf]; omega⟩
          by_cases hrs : (splitF obs (bs.getD th.toNat 0 - 1) k l p).1 = 0
          · refine round_e1 ad c w wr ds.length ga gf g gw gb bm ba gt base w.heap.size Z s i j y bs obs tail A n c' xs kd th k l p h2 hjl z2 n2 FF.out PP c0 c1 c2 c3 c4 hk0 hk1 hl0 hl1 _ _ _ _ _ _ _ _ _ _ _ _ _ _ _ _ _ _ _ _ _ _ _ _ _ _ _ _ _ _ _ _ _ _ _ _ _ _ _ _ _ _ _ _ _ _ _ _ _ _ _ _ _ _ _ _ _ _ _ _ _ _ _ _ _ _ _ _ _ _ _ _ _ _ _ _ _ _ _ _ _ _ _ _ _ _ _ _ _ _ _ _ _ _ _ _ _ _ _ _ _ _ _ _ _ _ _ _ _ _ _ _ _ _ _ _ _ _ _ _ _ _ _ _ _ _ _ _ _ _ _ _ _ _ _ _ _ _ _ _ _ _ _ _ _ _ _ _ _ _ _ _ _ _ _ _ _ _ _ _ _ _ _ _ _ _ _ _ _ _ _ _ _ _ _ _ _ _ _ _ _ _ _ _ _ _ _ _ _ _ _ _ _ _ _ _ _ _ _ _ _ _ _ _ _ _ _ _ _ _ _ _ _ _ _ _ _ _ _ _ _ _ _ _ _ _ _ _ _ _ _ _ _ _ _ _ _ _ _ _ _ _ _ _ _ _ _ _ _ _ _ _ _ _ _ _ _ _ _ _ _ _ _ _ _ _ _ _ _ _ _ _ _ _ _ _ _ _ _ _ _ ?_ (by omega) (by omega) h7 (by simpa using hg) h15 hlg hlf hrs
            exact fun v6 v18 v19 v20 v21 v22 v23 v24 v25 v26 v27 v28 v29 v30 v31 v32 v110 v111 v112 v113 v114 v115 v116 v117 v118 v119 v120 v121 v122 v123 v124 v125 v126 v127 v128 v129 v130 v131 v132 v133 v134 v135 v136 v137 v138 v139 v140 v141 v142 v143 v144 v145 v146 v147 v148 v149 v150 v151 v152 v153 v154 v155 v156 v157 v158 v159 v160 v161 v162 v163 v164 v165 v166 v167 v168 v169 v170 v171 v172 v173 v174 v175 v176 v177 v178 v179 v180 v181 v182 v183 v184 v185 v186 v187 v188 v189 v190 v191 v192 v193 v194 v195 v196 v197 v198 v199 v200 v201 v202 v203 v204 v205 v206 v207 v208 v209 v210 v211 v212 v213 v214 v215 v216 v217 v218 v219 v220 v221 v222 v223 v224 v225 v226 v227 v228 v229 v230 v231 v232 v233 v234 v235 v236 v237 v238 v239 v240 v241 v242 v243 v244 v245 v246 v247 v248 v249 v250 v251 v252 v253 v254 v255 v256 v257 v258 v259 v260 v261 v262 v263 v264 v265 v266 v267 v268 v269 v270 v271 v272 v273 v274 v275 v276 v277 v278 v279 v280 v281 v282 v283 v284 v285 v286 v287 v288 v289 v290 w'' ⟨bs2, obs2, tail2, A2, n2', c2', xs2, h110, P2⟩ => ⟨⟨v6, v18, v19, v20, v21, v22, v23, v24, v25, v26, v27, v28, v29, v30, v31, v32, v110, v111, v112, v113, v114, v115, v116, v117, v118, v119, v120, v121, v122, v123, v124, v125, v126, v127, v128, v129, v130, v131, v132, v133, v134, v135, v136, v137, v138, v139, v140, v141, v142, v143, v144, v145, v146, v147, v148, v149, v150, v151, v152, v153, v154, v155, v156, v157, v158, v159, v160, v161, v162, v163, v164, v165, v166, v167, v168, v169, v170, v171, v172, v173, v174, v175, v176, v177, v178, v179, v180, v181, v182, v183, v184, v185, v186, v187, v188, v189, v190, v191, v192, v193, v194, v195, v196, v197, v198, v199, v200, v201, v202, v203, v204, v205, v206, v207, v208, v209, v210, v211, v212, v213, v214, v215, v216, v217, v218, v219, v220, v221, v222, v223, v224, v225, v226, v227, v228, v229, v230, v231, v232, v233, v234, v235, v236, v237, v238, v239, v240, v241, v242, v243, v244, v245, v246, v247, v248, v249, v250, v251, v252, v253, v254, v255, v256, v257, v258, v259, v260, v261, v262, v263, v264, v265, v266, v267, v268, v269, v270, v271, v272, v273, v274, v275, v276, v277, v278, v279, v280, v281, v282, v283, v284, v285, v286, v287, v288, v289, v290, ⟨j + 1, by omega, bs2, obs2, tail2, A2, n2', c2', xs2, h110, P2⟩, rfl⟩, by show ds.length - (intOf v110).toNat < ds.length - (intOf (.int .i64 (j : Int))).toNat; rw [h110]; simp [intOf]; omega⟩
          refine round_e2 ad c w wr ds.length ga gf g gw gb bm ba gt base w.heap.size Z s i j y bs obs tail A n c' xs kd th k l p h2 hjl z2 n2 FF.out PP c0 c1 c2 c3 c4 hk0 hk1 hl0 hl1 _ _ _ _ _ _ _ _ _ _ _ _ _ _ _ _ _ _ _ _ _ _ _ _ _ _ _ _ _ _ _ _ _ _ _ _ _ _ _ _ _ _ _ _ _ _ _ _ _ _ _ _ _ _ _ _ _ _ _ _ _ _ _ _ _ _ _ _ _ _ _ _ _ _ _ _ _ _ _ _ _ _ _ _ _ _ _ _ _ _ _ _ _ _ _ _ _ _ _ _ _ _ _ _ _ _ _ _ _ _ _ _ _ _ _ _ _ _ _ _ _ _ _ _ _ _ _ _ _ _ _ _ _ _ _ _ _ _ _ _ _ _ _ _ _ _ _ _ _ _ _ _ _ _ _ _ _ _ _ _ _ _ _ _ _ _ _ _ _ _ _ _ _ _ _ _ _ _ _ _ _ _ _ _ _ _ _ _ _ _ _ _ _ _ _ _ _ _ _ _ _ _ _ _ _ _ _ _ _ _ _ _ _ _ _ _ _ _ _ _ _ _ _ _ _ _ _ _ _ _ _ _ _ _ _ _ _ _ _ _ _ _ _ _ _ _ _ _ _ _ _ _ _ _ _ _ _ _ _ _ _ _ _ _ _ _ _ _ _ _ _ _ _ _ _ _ _ _ _ _ _ ?_ (by omega) (by omega) h7 (by simpa using hg) h15 hlg hlf hrs
          exact fun v6 v18 v19 v20 v21 v22 v23 v24 v25 v26 v27 v28 v29 v30 v31 v32 v110 v111 v112 v113 v114 v115 v116 v117 v118 v119 v120 v121 v122 v123 v124 v125 v126 v127 v128 v129 v130 v131 v132 v133 v134 v135 v136 v137 v138 v139 v140 v141 v142 v143 v144 v145 v146 v147 v148 v149 v150 v151 v152 v153 v154 v155 v156 v157 v158 v159 v160 v161 v162 v163 v164 v165 v166 v167 v168 v169 v170 v171 v172 v173 v174 v175 v176 v177 v178 v179 v180 v181 v182 v183 v184 v185 v186 v187 v188 v189 v190 v191 v192 v193 v194 v195 v196 v197 v198 v199 v200 v201 v202 v203 v204 v205 v206 v207 v208 v209 v210 v211 v212 v213 v214 v215 v216 v217 v218 v219 v220 v221 v222 v223 v224 v225 v226 v227 v228 v229 v230 v231 v232 v233 v234 v235 v236 v237 v238 v239 v240 v241 v242 v243 v244 v245 v246 v247 v248 v249 v250 v251 v252 v253 v254 v255 v256 v257 v258 v259 v260 v261 v262 v263 v264 v265 v266 v267 v268 v269 v270 v271 v272 v273 v274 v275 v276 v277 v278 v279 v280 v281 v282 v283 v284 v285 v286 v287 v288 v289 v290 w'' ⟨bs2, obs2, tail2, A2, n2', c2', xs2, h110, P2⟩ => ⟨⟨v6, v18, v19, v20, v21, v22, v23, v24, v25, v26, v27, v28, v29, v30, v31, v32, v110, v111, v112, v113, v114, v115, v116, v117, v118, v119, v120, v121, v122, v123, v124, v125, v126, v127, v128, v129, v130, v131, v132, v133, v134, v135, v136, v137, v138, v139, v140, v141, v142, v143, v144, v145, v146, v147, v148, v149, v150, v151, v152, v153, v154, v155, v156, v157, v158, v159, v160, v161, v162, v163, v164, v165, v166, v167, v168, v169, v170, v171, v172, v173, v174, v175, v176, v177, v178, v179, v180, v181, v182, v183, v184, v185, v186, v187, v188, v189, v190, v191, v192, v193, v194, v195, v196, v197, v198, v199, v200, v201, v202, v203, v204, v205, v206, v207, v208, v209, v210, v211, v212, v213, v214, v215, v216, v217, v218, v219, v220, v221, v222, v223, v224, v225, v226, v227, v228, v229, v230, v231, v232, v233, v234, v235, v236, v237, v238, v239, v240, v241, v242, v243, v244, v245, v246, v247, v248, v249, v250, v251, v252, v253, v254, v255, v256, v257, v258, v259, v260, v261, v262, v263, v264, v265, v266, v267, v268, v269, v270, v271, v272, v273, v274, v275, v276, v277, v278, v279, v280, v281, v282, v283, v284, v285, v286, v287, v288, v289, v290, ⟨j + 1, by omega, bs2, obs2, tail2, A2, n2', c2', xs2, h110, P2⟩, rfl⟩, by show ds.length - (intOf v110).toNat < ds.length - (intOf (.int .i64 (j : Int))).toNat; rw [h110]; simp [intOf]; omega⟩
        · go_wp2
          go_ret
          exact ⟨rfl, PP.old⟩
end Go.Proofs.Ytibfhpbklnpknaa
