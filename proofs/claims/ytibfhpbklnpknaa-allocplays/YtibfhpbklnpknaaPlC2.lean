/- A round of AllocPlays: a filler's head. -/
import Derived.Test.YtibfhpbklnpknaaPlD
import Derived.Deep.CutRange
import Derived.Deep.CutBlock
import Derived.Deep.RegionHeld3
namespace Go.Proofs.Ytibfhpbklnpknaa
open Go.RowKit
set_option linter.unusedVariables false
set_option linter.unusedSimpArgs false

set_option maxRecDepth 1000000 in
set_option maxHeartbeats 4000000 in
theorem round_c2 {K0 : Act → World → Prop} {Q0 : Exit → Act → World → Prop} (ad : Addr) (c : Nat) (w wr : World) (nd ga gf g gw gb bm ba gt base bx Z s nt j : Nat) (y : Int) (bs : List Int) (obs : List Ob) (tail : List Int) (A : Option Addr) (n c' : Nat) (xs : List Value) (kd th k l p : Int)
    (hl : nd ≤ 40) (hjl : j < nd) (hZ : Z ≤ 300) (hnt : nt ≤ 64) (F : Lw w.heap.size ga gf g gw gb bm ba gt base) (PP : Pt w wr ga gf g gw gb bm ba gt base bx Z s nt y bs obs tail A n c' xs)
    (c0 : wr.cell? (ad.add (j * 5)) = some (.int .u8 kd)) (c1 : wr.cell? ⟨(ad.add (j * 5)).block, (ad.add (j * 5)).off + 1, none⟩ = some (.int .i64 th)) (c2 : wr.cell? ⟨(ad.add (j * 5)).block, (ad.add (j * 5)).off + 2, none⟩ = some (.int .i64 k))
    (c3 : wr.cell? ⟨(ad.add (j * 5)).block, (ad.add (j * 5)).off + 3, none⟩ = some (.int .i64 l)) (c4 : wr.cell? ⟨(ad.add (j * 5)).block, (ad.add (j * 5)).off + 4, none⟩ = some (.int .i64 p)) (hk0 : 0 ≤ kd) (hk1 : kd ≤ 255) (hl0 : -9223372036854775808 ≤ l) (hl1 : l ≤ 9223372036854775807)
    (x0 x1 x2 x3 x5 x6 x7 x9 x11 x15 x17 x18 x19 x20 x21 x22 x23 x24 x25 x26 x27 x28 x29 x30 x31 x32 x33 x34 x35 x36 x37 x38 x39 x40 x41 x42 x43 x44 x45 x46 x47 x48 x49 x50 x51 x52 x53 x54 x55 x56 x57 x58 x59 x60 x61 x62 x63 x64 x65 x66 x67 x68 x69 x70 x71 x72 x73 x74 x75 x76 x77 x78 x79 x80 x81 x82 x83 x84 x85 x86 x87 x88 x89 x90 x91 x92 x93 x94 x95 x96 x97 x98 x99 x100 x101 x102 x103 x104 x105 x106 x107 x111 x112 x113 x114 x115 x116 x117 x118 x119 x120 x121 x122 x123 x124 x125 x126 x127 x128 x129 x130 x131 x132 x133 x134 x135 x136 x137 x138 x139 x140 x141 x142 x143 x144 x145 x146 x147 x148 x149 x150 x151 x152 x153 x154 x155 x156 x157 x158 x159 x160 x161 x162 x163 x164 x165 x166 x167 x168 x169 x170 x171 x172 x173 x174 x175 x176 x177 x178 x179 x180 x181 x182 x183 x184 x185 x186 x187 x188 x189 x190 x191 x192 x193 x194 x195 x196 x197 x198 x199 x200 x201 x202 x203 x204 x205 x206 x207 x208 x209 x210 x211 x212 x213 x214 x215 x216 x217 x218 x219 x220 x221 x222 x223 x224 x225 x226 x227 x228 x229 x230 x231 x232 x233 x234 x235 x236 x237 x238 x239 x240 x241 x242 x243 x244 x245 x246 x247 x248 x249 x250 x251 x252 x253 x254 x255 x256 x257 x258 x259 x260 x261 x262 x263 x264 x265 x266 x267 x268 x269 x270 x271 x272 x273 x274 x275 x276 x277 x278 x279 x280 x281 x282 x283 x284 x285 x286 x287 x288 x289 x290 : Value)
    (hK : ∀ (v6 v18 v19 v20 v21 v22 v23 v24 v25 v26 v27 v28 v29 v30 v31 v32 v110 v111 v112 v113 v114 v115 v116 v117 v118 v119 v120 v121 v122 v123 v124 v125 v126 v127 v128 v129 v130 v131 v132 v133 v134 v135 v136 v137 v138 v139 v140 v141 v142 v143 v144 v145 v146 v147 v148 v149 v150 v151 v152 v153 v154 v155 v156 v157 v158 v159 v160 v161 v162 v163 v164 v165 v166 v167 v168 v169 v170 v171 v172 v173 v174 v175 v176 v177 v178 v179 v180 v181 v182 v183 v184 v185 v186 v187 v188 v189 v190 v191 v192 v193 v194 v195 v196 v197 v198 v199 v200 v201 v202 v203 v204 v205 v206 v207 v208 v209 v210 v211 v212 v213 v214 v215 v216 v217 v218 v219 v220 v221 v222 v223 v224 v225 v226 v227 v228 v229 v230 v231 v232 v233 v234 v235 v236 v237 v238 v239 v240 v241 v242 v243 v244 v245 v246 v247 v248 v249 v250 v251 v252 v253 v254 v255 v256 v257 v258 v259 v260 v261 v262 v263 v264 v265 v266 v267 v268 v269 v270 v271 v272 v273 v274 v275 v276 v277 v278 v279 v280 v281 v282 v283 v284 v285 v286 v287 v288 v289 v290 : Value) (w'' : World), Rel w w'' ga gf g gw gb bm ba gt base bx Z s nt y (j + 1) v110 → K0 ⟨#[x0, x1, x2, x3, .pointer (some ⟨bx, 0, none⟩), x5, v6, x7, .pointer (some ⟨g, 0, none⟩), x9, .pointer (some ⟨ga, 0, none⟩), x11, .pointer (some ⟨bm, 0, none⟩), .int .i64 (s : Int), .pointer (some ⟨ba, 0, none⟩), x15, .func (.func 11) #[] #[.pointer (some ⟨bm, 0, none⟩), .pointer (some ⟨ba, 0, none⟩)], x17, v18, v19, v20, v21, v22, v23, v24, v25, v26, v27, v28, v29, v30, v31, v32, x33, x34, x35, x36, x37, x38, x39, x40, x41, x42, x43, x44, x45, x46, x47, x48, x49, x50, x51, x52, x53, x54, x55, x56, x57, x58, x59, x60, x61, x62, x63, x64, x65, x66, x67, x68, x69, x70, x71, x72, x73, x74, x75, x76, x77, x78, x79, x80, x81, x82, x83, x84, x85, x86, x87, x88, x89, x90, x91, x92, x93, x94, x95, x96, x97, x98, x99, x100, x101, x102, x103, x104, x105, x106, x107, .slice (some ad) nd c, .int .i64 (nd : Int), v110, v111, v112, v113, v114, v115, v116, v117, v118, v119, v120, v121, v122, v123, v124, v125, v126, v127, v128, v129, v130, v131, v132, v133, v134, v135, v136, v137, v138, v139, v140, v141, v142, v143, v144, v145, v146, v147, v148, v149, v150, v151, v152, v153, v154, v155, v156, v157, v158, v159, v160, v161, v162, v163, v164, v165, v166, v167, v168, v169, v170, v171, v172, v173, v174, v175, v176, v177, v178, v179, v180, v181, v182, v183, v184, v185, v186, v187, v188, v189, v190, v191, v192, v193, v194, v195, v196, v197, v198, v199, v200, v201, v202, v203, v204, v205, v206, v207, v208, v209, v210, v211, v212, v213, v214, v215, v216, v217, v218, v219, v220, v221, v222, v223, v224, v225, v226, v227, v228, v229, v230, v231, v232, v233, v234, v235, v236, v237, v238, v239, v240, v241, v242, v243, v244, v245, v246, v247, v248, v249, v250, v251, v252, v253, v254, v255, v256, v257, v258, v259, v260, v261, v262, v263, v264, v265, v266, v267, v268, v269, v270, v271, v272, v273, v274, v275, v276, v277, v278, v279, v280, v281, v282, v283, v284, v285, v286, v287, v288, v289, v290], []⟩ w'') (ht0 : 0 ≤ th) (ht1 : th < (nt : Int)) (hkd : ¬ kd % 8 = 7) (hg : goodB k l p = true) (hk15 : k = 15) :
    Code.wp Try.prog rbody (Exit.then K0 Q0) ⟨#[x0, x1, x2, x3, .pointer (some ⟨bx, 0, none⟩), x5, x6, x7, .pointer (some ⟨g, 0, none⟩), x9, .pointer (some ⟨ga, 0, none⟩), x11, .pointer (some ⟨bm, 0, none⟩), .int .i64 (s : Int), .pointer (some ⟨ba, 0, none⟩), x15, .func (.func 11) #[] #[.pointer (some ⟨bm, 0, none⟩), .pointer (some ⟨ba, 0, none⟩)], x17, x18, x19, x20, x21, x22, x23, x24, x25, x26, x27, x28, x29, x30, x31, x32, x33, x34, x35, x36, x37, x38, x39, x40, x41, x42, x43, x44, x45, x46, x47, x48, x49, x50, x51, x52, x53, x54, x55, x56, x57, x58, x59, x60, x61, x62, x63, x64, x65, x66, x67, x68, x69, x70, x71, x72, x73, x74, x75, x76, x77, x78, x79, x80, x81, x82, x83, x84, x85, x86, x87, x88, x89, x90, x91, x92, x93, x94, x95, x96, x97, x98, x99, x100, x101, x102, x103, x104, x105, x106, x107, .slice (some ad) nd c, .int .i64 (nd : Int), .int .i64 (j : Int), x111, x112, x113, x114, x115, x116, x117, x118, x119, x120, x121, x122, x123, x124, x125, x126, x127, x128, x129, x130, x131, x132, x133, x134, x135, x136, x137, x138, x139, x140, x141, x142, x143, x144, x145, x146, x147, x148, x149, x150, x151, x152, x153, x154, x155, x156, x157, x158, x159, x160, x161, x162, x163, x164, x165, x166, x167, x168, x169, x170, x171, x172, x173, x174, x175, x176, x177, x178, x179, x180, x181, x182, x183, x184, x185, x186, x187, x188, x189, x190, x191, x192, x193, x194, x195, x196, x197, x198, x199, x200, x201, x202, x203, x204, x205, x206, x207, x208, x209, x210, x211, x212, x213, x214, x215, x216, x217, x218, x219, x220, x221, x222, x223, x224, x225, x226, x227, x228, x229, x230, x231, x232, x233, x234, x235, x236, x237, x238, x239, x240, x241, x242, x243, x244, x245, x246, x247, x248, x249, x250, x251, x252, x253, x254, x255, x256, x257, x258, x259, x260, x261, x262, x263, x264, x265, x266, x267, x268, x269, x270, x271, x272, x273, x274, x275, x276, x277, x278, x279, x280, x281, x282, x283, x284, x285, x286, x287, x288, x289, x290], []⟩ wr := by
  have hobj : objB k l p = false := by unfold objB; rw [hg, hk15]; rfl
  have H15 := Lib.hid hk15
  clear hk15
  have HK := Lib.hid hK
  have j0 : (0 : Int) ≤ (j : Int) := by omega
  have j1 : (j : Int) < (nd : Int) := by omega
  have LX := Lies.new wr 45 [.int .u8 kd, .int .i64 th, .int .i64 k, .int .i64 l, .int .i64 p]
  have bX := below_one wr (.cells #[.int .u8 kd, .int .i64 th, .int .i64 k, .int .i64 l, .int .i64 p] 45)
  have HP := Lib.hid (PP.kept bX)
  have HLX := Lib.hid LX
  have m0 : (wr.alloc (.cells #[.int .u8 kd, .int .i64 th, .int .i64 k, .int .i64 l, .int .i64 p] 45)).cell? ⟨wr.heap.size, 0, none⟩ = some (.int .u8 kd) := LX.cell 0
  have m1 : (wr.alloc (.cells #[.int .u8 kd, .int .i64 th, .int .i64 k, .int .i64 l, .int .i64 p] 45)).cell? ⟨wr.heap.size, 1, none⟩ = some (.int .i64 th) := LX.cell 1
  have m2 : (wr.alloc (.cells #[.int .u8 kd, .int .i64 th, .int .i64 k, .int .i64 l, .int .i64 p] 45)).cell? ⟨wr.heap.size, 2, none⟩ = some (.int .i64 k) := LX.cell 2
  have m3 : (wr.alloc (.cells #[.int .u8 kd, .int .i64 th, .int .i64 k, .int .i64 l, .int .i64 p] 45)).cell? ⟨wr.heap.size, 3, none⟩ = some (.int .i64 l) := LX.cell 3
  have m4 : (wr.alloc (.cells #[.int .u8 kd, .int .i64 th, .int .i64 k, .int .i64 l, .int .i64 p] 45)).cell? ⟨wr.heap.size, 4, none⟩ = some (.int .i64 p) := LX.cell 4
  have x0b : (wr.alloc (.cells #[.int .u8 kd, .int .i64 th, .int .i64 k, .int .i64 l, .int .i64 p] 45)).cell? ⟨bx, 0, none⟩ = some (.int .i64 (nt : Int)) := (PP.kept bX).box.cell 0
  have ne1 : wr.heap.size ≠ g := by have := PP.al.st.lies.own.lt; omega
  have ne2 : wr.heap.size ≠ gw := by have := PP.al.st.lies.words.lt; omega
  have ne3 : wr.heap.size ≠ gb := by have := PP.al.st.lies.begins.lt; omega
  have ne4 : wr.heap.size ≠ gf := by have := PP.al.row.lt; omega
  have ne5 : wr.heap.size ≠ gt := by have := PP.rf.arow.lt; omega
  have ne6 : wr.heap.size ≠ bm := by have := PP.rf.box.lt; omega
  have hbl := PP.bl
  have HBL := Lib.hid hbl
  have hent := enter11
  clear PP hK LX bX hbl
  conv => arg 2; whnf
  obtain ⟨t, rfl⟩ := Int.eq_ofNat_of_zero_le ht0
  have htn : t < nt := by omega
  have k7 : (kd % 8 == 7) = false := by simp [hkd]
  have HT1 : Hid (t < bs.length) := Lib.hid (by rw [HBL.out]; exact htn)
  have hin : ¬ (¬ (0 ≤ (t : Int) ∧ (t : Int) < (bs.length : Int)) ∨ objB k l p = false) → 0 ≤ (t : Int) ∧ (t : Int) < (bs.length : Int) := fun _ => by rw [HBL.out]; omega
  have HA := Lib.hid (Alloc_any HP.out.al (t : Int) k l p)
  have ea : allocF s bs obs tail (t : Int) k l p = (0, 1, bs, obs, tail) := by unfold allocF; rw [if_pos (.inr hobj)]
  rw [ea] at HA
  clear ea hin
  go_wp2_with fail
  refine HA.out.mono ?_
  rintro e w6 ⟨rfl, A6, E6⟩
  have M6 := Lib.hid (HP.out.md F HLX.out A6 E6)
  clear A6 E6 HA m0 m1 m2 m3 m4 x0b
  obtain ⟨bc, hbc⟩ : ∃ bc, wr.heap.size = bc := ⟨_, rfl⟩
  rw [hbc] at M6
  have m0 : w6.cell? ⟨bc, 0, none⟩ = some (.int .u8 kd) := M6.out.act.cell 0
  have m2 : w6.cell? ⟨bc, 2, none⟩ = some (.int .i64 k) := M6.out.act.cell 2
  have m3 : w6.cell? ⟨bc, 3, none⟩ = some (.int .i64 l) := M6.out.act.cell 3
  have m4 : w6.cell? ⟨bc, 4, none⟩ = some (.int .i64 p) := M6.out.act.cell 4
  rw [hbc]
  have Hbc := Lib.hid hbc
  clear hbc HLX
  have MM := M6
  go_wp2_with fail
  refine (good_b k l p _ true hg).mono ?_
  rintro e w7 ⟨rfl, hb7⟩
  have M7 := Lib.hid (M6.out.kept hb7)
  clear hb7 m0 m2 m3 m4 MM M6
  have m2 : w7.cell? ⟨bc, 2, none⟩ = some (.int .i64 k) := M7.out.act.cell 2
  have k15 : (k == 15) = true := by simp [H15.out]
  go_upto_region 53 with fail
  have MM := M7
  clear M7
  have PT := Lib.hid (MM.out.pt HP.out.clean HP.out.len HP.out.bl)
  have HT2 : Hid (t < (bs).length) := Lib.hid (by rw [HP.out.bl]; exact htn)
  clear MM
  have HLa := Lib.hid (Left_any PT.out.al (t : Int))
  have ela : leftA bs obs (t : Int) = (leftF bs obs t, 0) := by unfold leftA; rw [if_pos (by have := HT2.out; omega), Int.toNat_natCast]
  rw [ela] at HLa
  have HLc := Lib.hid (fun W h => leftc_any (W := W) (bm := bm) (ba := ba) (gt := gt) (base := base) (Z := Z) (n := n) (c := c') (A := A) (xs := xs) (bs := bs) (obs := obs) h PT.out.al.st.fine PT.out.al.led PT.out.al.st.few t HT2.out)
  clear ela
  generalize leftF bs obs t = q at *
  have eq9 : (q != q) = false := by simp
  go_wp2_with fail
  refine HLa.out.mono ?_
  rintro e wa ⟨rfl, hba⟩
  have PA := Lib.hid (PT.out.kept hba)
  clear hba HLa
  go_wp2_with fail
  refine (HLc.out _ PA.out.rf).mono ?_
  rintro e wb ⟨rfl, hbb⟩
  have PB := Lib.hid (PA.out.kept hbb)
  clear hbb HLc PA
  have u0 := PB.out.rf.m0
  have u1 := PB.out.rf.m1
  have HIS := Lib.hid (is_any PB.out.al.st PB.out.rf.own.things PB.out.clean.within n c' Z PB.out.rf.count PB.out.len)
  go_wp2_with fail
  refine HIS.out.mono ?_
  rintro e wc ⟨rfl, hbc⟩
  have PC := Lib.hid (PB.out.kept hbc)
  clear hbc HIS PB u0 u1
  go_wp2
  refine HK.out _ _ _ _ _ _ _ _ _ _ _ _ _ _ _ _ _ _ _ _ _ _ _ _ _ _ _ _ _ _ _ _ _ _ _ _ _ _ _ _ _ _ _ _ _ _ _ _ _ _ _ _ _ _ _ _ _ _ _ _ _ _ _ _ _ _ _ _ _ _ _ _ _ _ _ _ _ _ _ _ _ _ _ _ _ _ _ _ _ _ _ _ _ _ _ _ _ _ _ _ _ _ _ _ _ _ _ _ _ _ _ _ _ _ _ _ _ _ _ _ _ _ _ _ _ _ _ _ _ _ _ _ _ _ _ _ _ _ _ _ _ _ _ _ _ _ _ _ _ _ _ _ _ _ _ _ _ _ _ _ _ _ _ _ _ _ _ _ _ _ _ _ _ _ _ _ _ _ _ _ _ _ _ _ _ _ _ _ _ _ _ _ _ _ _ _ _ _ ?_
  exact ⟨_, _, _, _, _, _, _, by go_num, PC.out⟩
end Go.Proofs.Ytibfhpbklnpknaa
