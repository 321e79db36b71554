/- A round of CellPlays' loop, where the call is wrong (4 of 4). -/
import Derived.Test.YtcabgnfeeimeiaaPlR
namespace Go.Proofs.Ytcabgnfeeimeiaa
open Go.RowKit
set_option linter.unusedVariables false
set_option linter.unusedSimpArgs false

set_option maxRecDepth 1000000 in
set_option maxHeartbeats 4000000 in
theorem round_bad4 {K0 : Act → World → Prop} {Q0 : Exit → Act → World → Prop} (s : Nat) (ad : Addr) (c : Nat) (w wr : World) (nd g gw gv j n : Nat) (zs : List Int) (A : Option Addr) (c' : Nat) (ts : List Tc) (L : Option Addr) (lc : Nat) (kd who place a b' : Int)
    (hs : 1 ≤ s) (hs' : s ≤ 255) (hl : nd ≤ 80) (hjl : j < nd) (hn : ts.length = n) (PP : Pl wr w g gw gv s j zs A c' ts L lc)
    (c0 : wr.cell? (ad.add (j * 5)) = some (.int .u8 kd)) (c1 : wr.cell? ⟨(ad.add (j * 5)).block, (ad.add (j * 5)).off + 1, none⟩ = some (.int .i64 who)) (c2 : wr.cell? ⟨(ad.add (j * 5)).block, (ad.add (j * 5)).off + 2, none⟩ = some (.int .i64 place))
    (c3 : wr.cell? ⟨(ad.add (j * 5)).block, (ad.add (j * 5)).off + 3, none⟩ = some (.int .i64 a)) (c4 : wr.cell? ⟨(ad.add (j * 5)).block, (ad.add (j * 5)).off + 4, none⟩ = some (.int .i64 b')) (hk0 : 0 ≤ kd) (hk1 : kd ≤ 255)
    (x1 x2 x3 x4 x6 x9 x10 x11 x12 x13 x14 x15 x16 x17 x18 x19 x20 x21 x22 x23 x24 x25 x26 x27 x28 x29 x30 x31 x32 x33 x34 x35 x36 x37 x38 x39 x40 x41 x42 x43 x44 x45 x46 x47 x48 x49 x50 x51 x52 x53 x54 x55 x56 x60 x61 x62 x63 x64 x65 x66 x67 x68 x69 x70 x71 x72 x73 x74 x75 x76 x77 x78 x79 x80 x81 x82 x83 x84 x85 x86 x87 x88 x89 x90 x91 x92 x93 x94 x95 x96 x97 x98 x99 x100 x101 x102 x103 x104 x105 x106 x107 x108 x109 x110 x111 x112 x113 x114 x115 x116 x117 x118 x119 x120 x121 x122 x123 x124 x125 x126 x127 x128 x129 x130 x131 x132 x133 x134 x135 x136 x137 x138 x139 x140 x141 x142 x143 x144 x145 x146 x147 x148 x149 x150 x151 x152 x153 x154 x155 x156 x157 x158 x159 x160 x161 x162 x163 x164 x165 x166 x167 x168 x169 x170 x171 x172 x173 x174 x175 x176 x177 x178 x179 x180 x181 x182 x183 x184 x185 x186 x187 x188 x189 x190 x191 x192 x193 x194 x195 x196 x197 x198 x199 x200 x201 x202 x203 x204 x205 x206 x207 x208 x209 x210 x211 x212 x213 x214 x215 x216 x217 x218 x219 x220 x221 : Value)
    (hK : ∀ (v4 v8 v10 v11 v12 v13 v14 v15 v16 v17 v18 v19 v59 v60 v61 v62 v63 v64 v65 v66 v67 v68 v69 v70 v71 v72 v73 v74 v75 v76 v77 v78 v79 v80 v81 v82 v83 v84 v85 v86 v87 v88 v89 v90 v91 v92 v93 v94 v95 v96 v97 v98 v99 v100 v101 v102 v103 v104 v105 v106 v107 v108 v109 v110 v111 v112 v113 v114 v115 v116 v117 v118 v119 v120 v121 v122 v123 v124 v125 v126 v127 v128 v129 v130 v131 v132 v133 v134 v135 v136 v137 v138 v139 v140 v141 v142 v143 v144 v145 v146 v147 v148 v149 v150 v151 v152 v153 v154 v155 v156 v157 v158 v159 v160 v161 v162 v163 v164 v165 v166 v167 v168 v169 v170 v171 v172 v173 v174 v175 v176 v177 v178 v179 v180 v181 v182 v183 v184 v185 v186 v187 v188 v189 v190 v191 v192 v193 v194 v195 v196 v197 v198 v199 v200 v201 v202 v203 v204 v205 v206 v207 v208 v209 v210 v211 v212 v213 v214 v215 v216 v217 v218 v219 v220 v221 : Value) (w'' : World), Rel w w'' g gw gv s (j + 1) v8 v59 → K0 ⟨#[.int .u8 (s : Int), x1, x2, x3, v4, .pointer (some ⟨g, 0, none⟩), x6, .slice (some ⟨gv, 0, none⟩) s s, v8, x9, v10, v11, v12, v13, v14, v15, v16, v17, v18, v19, x20, x21, x22, x23, x24, x25, x26, x27, x28, x29, x30, x31, x32, x33, x34, x35, x36, x37, x38, x39, x40, x41, x42, x43, x44, x45, x46, x47, x48, x49, x50, x51, x52, x53, x54, x55, x56, .slice (some ad) nd c, .int .i64 (nd : Int), v59, v60, v61, v62, v63, v64, v65, v66, v67, v68, v69, v70, v71, v72, v73, v74, v75, v76, v77, v78, v79, v80, v81, v82, v83, v84, v85, v86, v87, v88, v89, v90, v91, v92, v93, v94, v95, v96, v97, v98, v99, v100, v101, v102, v103, v104, v105, v106, v107, v108, v109, v110, v111, v112, v113, v114, v115, v116, v117, v118, v119, v120, v121, v122, v123, v124, v125, v126, v127, v128, v129, v130, v131, v132, v133, v134, v135, v136, v137, v138, v139, v140, v141, v142, v143, v144, v145, v146, v147, v148, v149, v150, v151, v152, v153, v154, v155, v156, v157, v158, v159, v160, v161, v162, v163, v164, v165, v166, v167, v168, v169, v170, v171, v172, v173, v174, v175, v176, v177, v178, v179, v180, v181, v182, v183, v184, v185, v186, v187, v188, v189, v190, v191, v192, v193, v194, v195, v196, v197, v198, v199, v200, v201, v202, v203, v204, v205, v206, v207, v208, v209, v210, v211, v212, v213, v214, v215, v216, v217, v218, v219, v220, v221], []⟩ w'') (hk4 : ¬ kd % 5 = 4) (h1 : 0 ≤ who) (h2 : who < 64) (h3 : 0 ≤ place) (h4 : (s : Int) ≤ place) :
    Code.wp Try.prog rbody (Exit.then K0 Q0) ⟨#[.int .u8 (s : Int), x1, x2, x3, x4, .pointer (some ⟨g, 0, none⟩), x6, .slice (some ⟨gv, 0, none⟩) s s, .slice L n lc, x9, x10, x11, x12, x13, x14, x15, x16, x17, x18, x19, x20, x21, x22, x23, x24, x25, x26, x27, x28, x29, x30, x31, x32, x33, x34, x35, x36, x37, x38, x39, x40, x41, x42, x43, x44, x45, x46, x47, x48, x49, x50, x51, x52, x53, x54, x55, x56, .slice (some ad) nd c, .int .i64 (nd : Int), .int .i64 (j : Int), x60, x61, x62, x63, x64, x65, x66, x67, x68, x69, x70, x71, x72, x73, x74, x75, x76, x77, x78, x79, x80, x81, x82, x83, x84, x85, x86, x87, x88, x89, x90, x91, x92, x93, x94, x95, x96, x97, x98, x99, x100, x101, x102, x103, x104, x105, x106, x107, x108, x109, x110, x111, x112, x113, x114, x115, x116, x117, x118, x119, x120, x121, x122, x123, x124, x125, x126, x127, x128, x129, x130, x131, x132, x133, x134, x135, x136, x137, x138, x139, x140, x141, x142, x143, x144, x145, x146, x147, x148, x149, x150, x151, x152, x153, x154, x155, x156, x157, x158, x159, x160, x161, x162, x163, x164, x165, x166, x167, x168, x169, x170, x171, x172, x173, x174, x175, x176, x177, x178, x179, x180, x181, x182, x183, x184, x185, x186, x187, x188, x189, x190, x191, x192, x193, x194, x195, x196, x197, x198, x199, x200, x201, x202, x203, x204, x205, x206, x207, x208, x209, x210, x211, x212, x213, x214, x215, x216, x217, x218, x219, x220, x221], []⟩ wr := by
  have HN := Lib.hid hn
  have hn7 : n ≤ 80 := by have := PP.few; omega
  have HP := Lib.hid PP
  have HK := Lib.hid hK
  have j0 : (0 : Int) ≤ (j : Int) := by omega
  have j1 : (j : Int) < (nd : Int) := by omega
  obtain ⟨X, hX⟩ : ∃ X : Obj, X = .cells #[.int .u8 kd, .int .i64 who, .int .i64 place, .int .i64 a, .int .i64 b'] 32 := ⟨_, rfl⟩
  have LX : Lies (wr.alloc X) wr.heap.size 32 [.int .u8 kd, .int .i64 who, .int .i64 place, .int .i64 a, .int .i64 b'] := by rw [hX]; exact Lies.new wr 32 [_, _, _, _, _]
  have HX := Lib.hid (HP.out.kept (below_one wr X))
  have HLX := Lib.hid LX
  clear LX HP PP hn hK
  conv => arg 2; whnf
  have hkd : kd % 5 = 0 ∨ kd % 5 = 1 ∨ kd % 5 = 2 ∨ kd % 5 = 3 := by omega
  have HBad : Hid (¬ (0 ≤ who ∧ who < 64 ∧ 0 ≤ place ∧ place < zs.length)) := Lib.hid (by rw [HX.out.len]; omega)
  have hk4' : (kd % 5 == 4) = false := by simp [hk4]
  have h4' : decide (place < (s : Int)) = false := decide_eq_false (by omega)
  go_upto_region 16 with fail
  rw [← hX]
  have m0 : (wr.alloc X).cell? ⟨wr.heap.size, 0, none⟩ = some (.int .u8 kd) := HLX.out.cell 0
  have m1 : (wr.alloc X).cell? ⟨wr.heap.size, 1, none⟩ = some (.int .i64 who) := HLX.out.cell 1
  have m2 : (wr.alloc X).cell? ⟨wr.heap.size, 2, none⟩ = some (.int .i64 place) := HLX.out.cell 2
  have m3 : (wr.alloc X).cell? ⟨wr.heap.size, 3, none⟩ = some (.int .i64 a) := HLX.out.cell 3
  have m4 : (wr.alloc X).cell? ⟨wr.heap.size, 4, none⟩ = some (.int .i64 b') := HLX.out.cell 4
  clear c0 c1 c2 c3 c4 hX
  go_upto_block 2 with fail
  go_cut [13, 14, 15, 16, 17] from 60 to 221 (fun v13 v14 v15 v16 v17 wx => v16 = .int .i64 0 ∧ v17 = .int .i64 1 ∧ Pl wx w g gw gv s (j + 1) zs A c' ts L lc)
  case first =>
    rcases hkd with hkd | hkd | hkd | hkd
    · go_wp2_with fail
      refine (load_no HX.out.at_ who place HBad.out).mono ?_
      rintro e w3 ⟨rfl, B3⟩
      have LX3 := HLX.out.kept B3
      have n0 : w3.cell? ⟨wr.heap.size, 0, none⟩ = some (.int .u8 kd) := LX3.cell 0
      have n1 : w3.cell? ⟨wr.heap.size, 1, none⟩ = some (.int .i64 who) := LX3.cell 1
      have n2 : w3.cell? ⟨wr.heap.size, 2, none⟩ = some (.int .i64 place) := LX3.cell 2
      have n3 : w3.cell? ⟨wr.heap.size, 3, none⟩ = some (.int .i64 a) := LX3.cell 3
      have n4 : w3.cell? ⟨wr.heap.size, 4, none⟩ = some (.int .i64 b') := LX3.cell 4
      have HE := Lib.hid (HX.out.kept B3).more
      clear B3 LX3 m0 m1 m2 m3 m4
      go_wp2
      all_goals go_meet
      all_goals exact ⟨rfl, rfl, HE.out⟩
    · go_wp2_with fail
      refine (store_no HX.out.at_ who place a HBad.out).mono ?_
      rintro e w3 ⟨rfl, B3⟩
      have LX3 := HLX.out.kept B3
      have n0 : w3.cell? ⟨wr.heap.size, 0, none⟩ = some (.int .u8 kd) := LX3.cell 0
      have n1 : w3.cell? ⟨wr.heap.size, 1, none⟩ = some (.int .i64 who) := LX3.cell 1
      have n2 : w3.cell? ⟨wr.heap.size, 2, none⟩ = some (.int .i64 place) := LX3.cell 2
      have n3 : w3.cell? ⟨wr.heap.size, 3, none⟩ = some (.int .i64 a) := LX3.cell 3
      have n4 : w3.cell? ⟨wr.heap.size, 4, none⟩ = some (.int .i64 b') := LX3.cell 4
      have HE := Lib.hid (HX.out.kept B3).more
      clear B3 LX3 m0 m1 m2 m3 m4
      go_wp2
      all_goals go_meet
      all_goals exact ⟨rfl, rfl, HE.out⟩
    · go_wp2_with fail
      refine (swap_no HX.out.at_ who place b' a HBad.out).mono ?_
      rintro e w3 ⟨rfl, B3⟩
      have LX3 := HLX.out.kept B3
      have n0 : w3.cell? ⟨wr.heap.size, 0, none⟩ = some (.int .u8 kd) := LX3.cell 0
      have n1 : w3.cell? ⟨wr.heap.size, 1, none⟩ = some (.int .i64 who) := LX3.cell 1
      have n2 : w3.cell? ⟨wr.heap.size, 2, none⟩ = some (.int .i64 place) := LX3.cell 2
      have n3 : w3.cell? ⟨wr.heap.size, 3, none⟩ = some (.int .i64 a) := LX3.cell 3
      have n4 : w3.cell? ⟨wr.heap.size, 4, none⟩ = some (.int .i64 b') := LX3.cell 4
      have HE := Lib.hid (HX.out.kept B3).more
      clear B3 LX3 m0 m1 m2 m3 m4
      go_wp2
      all_goals go_meet
      all_goals exact ⟨rfl, rfl, HE.out⟩
    · go_wp2_with fail
      refine (add_no HX.out.at_ who place a HBad.out).mono ?_
      rintro e w3 ⟨rfl, B3⟩
      have LX3 := HLX.out.kept B3
      have n0 : w3.cell? ⟨wr.heap.size, 0, none⟩ = some (.int .u8 kd) := LX3.cell 0
      have n1 : w3.cell? ⟨wr.heap.size, 1, none⟩ = some (.int .i64 who) := LX3.cell 1
      have n2 : w3.cell? ⟨wr.heap.size, 2, none⟩ = some (.int .i64 place) := LX3.cell 2
      have n3 : w3.cell? ⟨wr.heap.size, 3, none⟩ = some (.int .i64 a) := LX3.cell 3
      have n4 : w3.cell? ⟨wr.heap.size, 4, none⟩ = some (.int .i64 b') := LX3.cell 4
      have HE := Lib.hid (HX.out.kept B3).more
      clear B3 LX3 m0 m1 m2 m3 m4
      go_wp2
      all_goals go_meet
      all_goals exact ⟨rfl, rfl, HE.out⟩
  case rest =>
  obtain ⟨rfl, rfl, PE⟩ := hcut
  have HE := Lib.hid PE
  have HEN := Lib.hid HN.out
  clear PE HX HLX m0 m1 m2 m3 m4 hkd
  go_wp2_with fail
  refine (log_n HE.out.at_ (by have := HEN.out; omega) n HEN.out).mono ?_
  rintro e w6 ⟨q, rfl, hq, L6, B6⟩
  have I6 := Lib.hid (In2.start HE.out hq L6 B6)
  clear hq L6 B6 HE
  have nn : (((n : Nat) : Int) != ((n : Nat) : Int)) = false := by simp
  go_wp2
  go_loopw [204] (fun i wi => ∃ (k : Nat) (cs : List Value), k ≤ n ∧ i = .int .i64 k ∧ In2 wi w g gw gv s (j + 1) q k zs A c' ts L lc cs) (fun i _ => n - (intOf i).toNat)
  case atStart => exact ⟨0, _, Nat.zero_le _, rfl, I6.out⟩
  case round =>
    obtain ⟨k, cs, hk, rfl, I⟩ := hrel
    have HI := Lib.hid I
    clear I I6
    by_cases hks : k < n
    · have k0 : (0 : Int) ≤ (k : Int) := by omega
      have k1 : (k : Int) < ((n : Nat) : Int) := by omega
      obtain ⟨hx, pp, hpp, hy⟩ := HI.out.here (show k < _ by rw [HEN.out]; exact hks)
      have HPP := Lib.hid hpp
      have x0 : wr.cell? ⟨q, k * 5, none⟩ = _ := hx 0 _ rfl
      have x1 := hx 1 _ rfl
      have x2 := hx 2 _ rfl
      have x3 := hx 3 _ rfl
      have x4 := hx 4 _ rfl
      have y0 : wr.cell? ⟨pp, k * 5, none⟩ = _ := hy 0 _ rfl
      have y1 := hy 1 _ rfl
      have y2 := hy 2 _ rfl
      have y3 := hy 3 _ rfl
      have y4 := hy 4 _ rfl
      have fz := HI.out.box.frozen (k * 5 + 4)
      clear hx hy
      generalize (ts)[k]'(by rw [HEN.out]; exact hks) = t at x0 x1 x2 x3 x4 y0 y1 y2 y3 y4
      obtain ⟨t0, t1, t2, t3, t4⟩ := t
      simp only at x0 x1 x2 x3 x4 y0 y1 y2 y3 y4
      have ND := Lib.hid (fun n => (HI.out.draws n).next)
      clear HPP
      subst hpp
      go_wp2_with fail
      go_quiet (fail)
      go_wp2
      exact ⟨⟨k + 1, _, by omega, by go_num, ND.out _⟩, by simp [intOf]; omega⟩
    · go_wp2
      refine HK.out _ _ _ _ _ _ _ _ _ _ _ _ _ _ _ _ _ _ _ _ _ _ _ _ _ _ _ _ _ _ _ _ _ _ _ _ _ _ _ _ _ _ _ _ _ _ _ _ _ _ _ _ _ _ _ _ _ _ _ _ _ _ _ _ _ _ _ _ _ _ _ _ _ _ _ _ _ _ _ _ _ _ _ _ _ _ _ _ _ _ _ _ _ _ _ _ _ _ _ _ _ _ _ _ _ _ _ _ _ _ _ _ _ _ _ _ _ _ _ _ _ _ _ _ _ _ _ _ _ _ _ _ _ _ _ _ _ _ _ _ _ _ _ _ _ _ _ _ _ _ _ _ _ _ _ _ _ _ _ _ _ _ _ _ _ _ _ _ _ _ _ _ _ _ _ _ ?_
      exact ⟨_, _, _, _, _, _, _, by go_num, rfl, HEN.out, HI.out.pl⟩
end Go.Proofs.Ytcabgnfeeimeiaa
