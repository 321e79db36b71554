/- A round of AllocPlays: a new buffer, and the object out of it. -/
import Derived.Test.YtibfhpbklnpknaaPlD
import Derived.Deep.CutRange
import Derived.Deep.CutBlock
import Derived.Deep.RegionHeld3
namespace Go.Proofs.Ytibfhpbklnpknaa
open Go.RowKit
set_option linter.unusedVariables false
set_option linter.unusedSimpArgs false

set_option maxRecDepth 1000000 in
set_option maxHeartbeats 4000000 in
theorem round_g {K0 : Act → World → Prop} {Q0 : Exit → Act → World → Prop} (ad : Addr) (c : Nat) (w wr : World) (nd ga gf g gw gb bm ba gt base bx Z s nt j : Nat) (y : Int) (bs : List Int) (obs : List Ob) (tail : List Int) (A : Option Addr) (n c' : Nat) (xs : List Value) (kd th k l p : Int)
    (hl : nd ≤ 40) (hjl : j < nd) (hZ : Z ≤ 300) (hnt : nt ≤ 64) (F : Lw w.heap.size ga gf g gw gb bm ba gt base) (PP : Pt w wr ga gf g gw gb bm ba gt base bx Z s nt y bs obs tail A n c' xs)
    (c0 : wr.cell? (ad.add (j * 5)) = some (.int .u8 kd)) (c1 : wr.cell? ⟨(ad.add (j * 5)).block, (ad.add (j * 5)).off + 1, none⟩ = some (.int .i64 th)) (c2 : wr.cell? ⟨(ad.add (j * 5)).block, (ad.add (j * 5)).off + 2, none⟩ = some (.int .i64 k))
    (c3 : wr.cell? ⟨(ad.add (j * 5)).block, (ad.add (j * 5)).off + 3, none⟩ = some (.int .i64 l)) (c4 : wr.cell? ⟨(ad.add (j * 5)).block, (ad.add (j * 5)).off + 4, none⟩ = some (.int .i64 p)) (hk0 : 0 ≤ kd) (hk1 : kd ≤ 255) (hl0 : -9223372036854775808 ≤ l) (hl1 : l ≤ 9223372036854775807)
    (x0 x1 x2 x3 x5 x6 x7 x9 x11 x15 x17 x18 x19 x20 x21 x22 x23 x24 x25 x26 x27 x28 x29 x30 x31 x32 x33 x34 x35 x36 x37 x38 x39 x40 x41 x42 x43 x44 x45 x46 x47 x48 x49 x50 x51 x52 x53 x54 x55 x56 x57 x58 x59 x60 x61 x62 x63 x64 x65 x66 x67 x68 x69 x70 x71 x72 x73 x74 x75 x76 x77 x78 x79 x80 x81 x82 x83 x84 x85 x86 x87 x88 x89 x90 x91 x92 x93 x94 x95 x96 x97 x98 x99 x100 x101 x102 x103 x104 x105 x106 x107 x111 x112 x113 x114 x115 x116 x117 x118 x119 x120 x121 x122 x123 x124 x125 x126 x127 x128 x129 x130 x131 x132 x133 x134 x135 x136 x137 x138 x139 x140 x141 x142 x143 x144 x145 x146 x147 x148 x149 x150 x151 x152 x153 x154 x155 x156 x157 x158 x159 x160 x161 x162 x163 x164 x165 x166 x167 x168 x169 x170 x171 x172 x173 x174 x175 x176 x177 x178 x179 x180 x181 x182 x183 x184 x185 x186 x187 x188 x189 x190 x191 x192 x193 x194 x195 x196 x197 x198 x199 x200 x201 x202 x203 x204 x205 x206 x207 x208 x209 x210 x211 x212 x213 x214 x215 x216 x217 x218 x219 x220 x221 x222 x223 x224 x225 x226 x227 x228 x229 x230 x231 x232 x233 x234 x235 x236 x237 x238 x239 x240 x241 x242 x243 x244 x245 x246 x247 x248 x249 x250 x251 x252 x253 x254 x255 x256 x257 x258 x259 x260 x261 x262 x263 x264 x265 x266 x267 x268 x269 x270 x271 x272 x273 x274 x275 x276 x277 x278 x279 x280 x281 x282 x283 x284 x285 x286 x287 x288 x289 x290 : Value)
    (hK : ∀ (v6 v18 v19 v20 v21 v22 v23 v24 v25 v26 v27 v28 v29 v30 v31 v32 v110 v111 v112 v113 v114 v115 v116 v117 v118 v119 v120 v121 v122 v123 v124 v125 v126 v127 v128 v129 v130 v131 v132 v133 v134 v135 v136 v137 v138 v139 v140 v141 v142 v143 v144 v145 v146 v147 v148 v149 v150 v151 v152 v153 v154 v155 v156 v157 v158 v159 v160 v161 v162 v163 v164 v165 v166 v167 v168 v169 v170 v171 v172 v173 v174 v175 v176 v177 v178 v179 v180 v181 v182 v183 v184 v185 v186 v187 v188 v189 v190 v191 v192 v193 v194 v195 v196 v197 v198 v199 v200 v201 v202 v203 v204 v205 v206 v207 v208 v209 v210 v211 v212 v213 v214 v215 v216 v217 v218 v219 v220 v221 v222 v223 v224 v225 v226 v227 v228 v229 v230 v231 v232 v233 v234 v235 v236 v237 v238 v239 v240 v241 v242 v243 v244 v245 v246 v247 v248 v249 v250 v251 v252 v253 v254 v255 v256 v257 v258 v259 v260 v261 v262 v263 v264 v265 v266 v267 v268 v269 v270 v271 v272 v273 v274 v275 v276 v277 v278 v279 v280 v281 v282 v283 v284 v285 v286 v287 v288 v289 v290 : Value) (w'' : World), Rel w w'' ga gf g gw gb bm ba gt base bx Z s nt y (j + 1) v110 → K0 ⟨#[x0, x1, x2, x3, .pointer (some ⟨bx, 0, none⟩), x5, v6, x7, .pointer (some ⟨g, 0, none⟩), x9, .pointer (some ⟨ga, 0, none⟩), x11, .pointer (some ⟨bm, 0, none⟩), .int .i64 (s : Int), .pointer (some ⟨ba, 0, none⟩), x15, .func (.func 11) #[] #[.pointer (some ⟨bm, 0, none⟩), .pointer (some ⟨ba, 0, none⟩)], x17, v18, v19, v20, v21, v22, v23, v24, v25, v26, v27, v28, v29, v30, v31, v32, x33, x34, x35, x36, x37, x38, x39, x40, x41, x42, x43, x44, x45, x46, x47, x48, x49, x50, x51, x52, x53, x54, x55, x56, x57, x58, x59, x60, x61, x62, x63, x64, x65, x66, x67, x68, x69, x70, x71, x72, x73, x74, x75, x76, x77, x78, x79, x80, x81, x82, x83, x84, x85, x86, x87, x88, x89, x90, x91, x92, x93, x94, x95, x96, x97, x98, x99, x100, x101, x102, x103, x104, x105, x106, x107, .slice (some ad) nd c, .int .i64 (nd : Int), v110, v111, v112, v113, v114, v115, v116, v117, v118, v119, v120, v121, v122, v123, v124, v125, v126, v127, v128, v129, v130, v131, v132, v133, v134, v135, v136, v137, v138, v139, v140, v141, v142, v143, v144, v145, v146, v147, v148, v149, v150, v151, v152, v153, v154, v155, v156, v157, v158, v159, v160, v161, v162, v163, v164, v165, v166, v167, v168, v169, v170, v171, v172, v173, v174, v175, v176, v177, v178, v179, v180, v181, v182, v183, v184, v185, v186, v187, v188, v189, v190, v191, v192, v193, v194, v195, v196, v197, v198, v199, v200, v201, v202, v203, v204, v205, v206, v207, v208, v209, v210, v211, v212, v213, v214, v215, v216, v217, v218, v219, v220, v221, v222, v223, v224, v225, v226, v227, v228, v229, v230, v231, v232, v233, v234, v235, v236, v237, v238, v239, v240, v241, v242, v243, v244, v245, v246, v247, v248, v249, v250, v251, v252, v253, v254, v255, v256, v257, v258, v259, v260, v261, v262, v263, v264, v265, v266, v267, v268, v269, v270, v271, v272, v273, v274, v275, v276, v277, v278, v279, v280, v281, v282, v283, v284, v285, v286, v287, v288, v289, v290], []⟩ w'') (ht0 : 0 ≤ th) (ht1 : th < (nt : Int)) (hkd : ¬ kd % 8 = 7) (hg : goodB k l p = true) (hk15 : k ≠ 15) (hsmall : ¬ (s : Int) / 2 < 1 + l) (hleft : leftF bs obs th.toNat < 1 + l) (hnew : (placeF obs tail 15 ((s : Int) - 1) 0).2.1 = 0) :
    Code.wp Try.prog rbody (Exit.then K0 Q0) ⟨#[x0, x1, x2, x3, .pointer (some ⟨bx, 0, none⟩), x5, x6, x7, .pointer (some ⟨g, 0, none⟩), x9, .pointer (some ⟨ga, 0, none⟩), x11, .pointer (some ⟨bm, 0, none⟩), .int .i64 (s : Int), .pointer (some ⟨ba, 0, none⟩), x15, .func (.func 11) #[] #[.pointer (some ⟨bm, 0, none⟩), .pointer (some ⟨ba, 0, none⟩)], x17, x18, x19, x20, x21, x22, x23, x24, x25, x26, x27, x28, x29, x30, x31, x32, x33, x34, x35, x36, x37, x38, x39, x40, x41, x42, x43, x44, x45, x46, x47, x48, x49, x50, x51, x52, x53, x54, x55, x56, x57, x58, x59, x60, x61, x62, x63, x64, x65, x66, x67, x68, x69, x70, x71, x72, x73, x74, x75, x76, x77, x78, x79, x80, x81, x82, x83, x84, x85, x86, x87, x88, x89, x90, x91, x92, x93, x94, x95, x96, x97, x98, x99, x100, x101, x102, x103, x104, x105, x106, x107, .slice (some ad) nd c, .int .i64 (nd : Int), .int .i64 (j : Int), x111, x112, x113, x114, x115, x116, x117, x118, x119, x120, x121, x122, x123, x124, x125, x126, x127, x128, x129, x130, x131, x132, x133, x134, x135, x136, x137, x138, x139, x140, x141, x142, x143, x144, x145, x146, x147, x148, x149, x150, x151, x152, x153, x154, x155, x156, x157, x158, x159, x160, x161, x162, x163, x164, x165, x166, x167, x168, x169, x170, x171, x172, x173, x174, x175, x176, x177, x178, x179, x180, x181, x182, x183, x184, x185, x186, x187, x188, x189, x190, x191, x192, x193, x194, x195, x196, x197, x198, x199, x200, x201, x202, x203, x204, x205, x206, x207, x208, x209, x210, x211, x212, x213, x214, x215, x216, x217, x218, x219, x220, x221, x222, x223, x224, x225, x226, x227, x228, x229, x230, x231, x232, x233, x234, x235, x236, x237, x238, x239, x240, x241, x242, x243, x244, x245, x246, x247, x248, x249, x250, x251, x252, x253, x254, x255, x256, x257, x258, x259, x260, x261, x262, x263, x264, x265, x266, x267, x268, x269, x270, x271, x272, x273, x274, x275, x276, x277, x278, x279, x280, x281, x282, x283, x284, x285, x286, x287, x288, x289, x290], []⟩ wr := by
  have H15 := Lib.hid hk15
  clear hk15
  have HK := Lib.hid hK
  have j0 : (0 : Int) ≤ (j : Int) := by omega
  have j1 : (j : Int) < (nd : Int) := by omega
  have LX := Lies.new wr 45 [.int .u8 kd, .int .i64 th, .int .i64 k, .int .i64 l, .int .i64 p]
  have bX := below_one wr (.cells #[.int .u8 kd, .int .i64 th, .int .i64 k, .int .i64 l, .int .i64 p] 45)
  have HP := Lib.hid (PP.kept bX)
  have HLX := Lib.hid LX
  have m0 : (wr.alloc (.cells #[.int .u8 kd, .int .i64 th, .int .i64 k, .int .i64 l, .int .i64 p] 45)).cell? ⟨wr.heap.size, 0, none⟩ = some (.int .u8 kd) := LX.cell 0
  have m1 : (wr.alloc (.cells #[.int .u8 kd, .int .i64 th, .int .i64 k, .int .i64 l, .int .i64 p] 45)).cell? ⟨wr.heap.size, 1, none⟩ = some (.int .i64 th) := LX.cell 1
  have m2 : (wr.alloc (.cells #[.int .u8 kd, .int .i64 th, .int .i64 k, .int .i64 l, .int .i64 p] 45)).cell? ⟨wr.heap.size, 2, none⟩ = some (.int .i64 k) := LX.cell 2
  have m3 : (wr.alloc (.cells #[.int .u8 kd, .int .i64 th, .int .i64 k, .int .i64 l, .int .i64 p] 45)).cell? ⟨wr.heap.size, 3, none⟩ = some (.int .i64 l) := LX.cell 3
  have m4 : (wr.alloc (.cells #[.int .u8 kd, .int .i64 th, .int .i64 k, .int .i64 l, .int .i64 p] 45)).cell? ⟨wr.heap.size, 4, none⟩ = some (.int .i64 p) := LX.cell 4
  have x0b : (wr.alloc (.cells #[.int .u8 kd, .int .i64 th, .int .i64 k, .int .i64 l, .int .i64 p] 45)).cell? ⟨bx, 0, none⟩ = some (.int .i64 (nt : Int)) := (PP.kept bX).box.cell 0
  have ne1 : wr.heap.size ≠ g := by have := PP.al.st.lies.own.lt; omega
  have ne2 : wr.heap.size ≠ gw := by have := PP.al.st.lies.words.lt; omega
  have ne3 : wr.heap.size ≠ gb := by have := PP.al.st.lies.begins.lt; omega
  have ne4 : wr.heap.size ≠ gf := by have := PP.al.row.lt; omega
  have ne5 : wr.heap.size ≠ gt := by have := PP.rf.arow.lt; omega
  have ne6 : wr.heap.size ≠ bm := by have := PP.rf.box.lt; omega
  have hbl := PP.bl
  have HBL := Lib.hid hbl
  have hent := enter11
  clear PP hK LX bX hbl
  conv => arg 2; whnf
  obtain ⟨t, rfl⟩ := Int.eq_ofNat_of_zero_le ht0
  have htn : t < nt := by omega
  have k7 : (kd % 8 == 7) = false := by simp [hkd]
  have HT1 : Hid (t < bs.length) := Lib.hid (by rw [HBL.out]; exact htn)
  have hin : ¬ (¬ (0 ≤ (t : Int) ∧ (t : Int) < (bs.length : Int)) ∨ objB k l p = false) → 0 ≤ (t : Int) ∧ (t : Int) < (bs.length : Int) := fun _ => by rw [HBL.out]; omega
  have HA := Lib.hid (Alloc_any HP.out.al (t : Int) k l p)
  rw [Int.toNat_natCast] at hleft
  have hobj : objB k l p = true := by unfold objB; rw [hg]; simp [H15.out]
  have l0 := ((good_iff k l p).1 hg).2.2.1
  have l9 := ((good_iff k l p).1 hg).2.2.2.1
  have hnn : ¬ (¬ (0 ≤ (t : Int) ∧ (t : Int) < (bs.length : Int)) ∨ objB k l p = false) := fun h => h.elim (fun h2 => h2 (by rw [HBL.out]; omega)) (fun h2 => by rw [hobj] at h2; cases h2)
  obtain ⟨R, hR⟩ : ∃ R, placeF obs tail 15 ((s : Int) - 1) 0 = R := ⟨_, rfl⟩
  obtain ⟨r1, cd1, obs1, tail1⟩ := R
  have hcd : cd1 = 0 := by rw [hR] at hnew; exact hnew
  subst hcd
  have g15 : goodB 15 ((s : Int) - 1) 0 = true := good_yes (by have := HP.out.al.lo; have := HP.out.al.hi; omega)
  have hval : r1 = (((flat obs).length : Nat) : Int) ∧ obs1 = obs ++ [(packW 15 ((s : Int) - 1) 0, zeros ((s : Int) - 1))] := by
    unfold placeF at hR
    rw [if_neg (by rw [g15]; simp)] at hR
    split at hR
    · injection hR with _ h2; injection h2 with h3 _; exact absurd h3 (by decide)
    · injection hR with h1 h2; injection h2 with _ h3; injection h3 with h4 h5; exact ⟨h1.symm, h4.symm⟩
  have hr0 : 0 ≤ r1 := by rw [hval.1]; omega
  have er : renewF s bs obs tail t = (true, bs.set t (r1 + 1), obs1, tail1) := by unfold renewF; rw [hR]; rfl
  have eg : (bs.set t (r1 + 1)).getD t 0 - 1 = r1 := by rw [getD_set', if_pos ⟨rfl, HT1.out⟩]; omega
  obtain ⟨S, hS⟩ : ∃ S, splitF obs1 r1 k l p = S := ⟨_, rfl⟩
  obtain ⟨r, cc, obs2⟩ := S
  have hrr : r ≠ 0 := by
    have hlk : look obs1 r1 = some (obs, (packW 15 ((s : Int) - 1) 0, zeros ((s : Int) - 1)), []) := by rw [hval.1, hval.2]; exact look_here _ _ _
    unfold splitF at hS
    rw [hlk] at hS
    simp only at hS
    rw [if_neg (by rw [(head_pack g15).2.1]; simp), if_neg (by rw [hg]; simp), (head_pack g15).2.2.1, if_neg (by have := HP.out.al.lo; omega), if_neg (by have := HP.out.al.lo; omega)] at hS
    injection hS with h1 _
    omega
  have ea : allocF s bs obs tail (t : Int) k l p = (r1, 0, bs.set t (r + 1), obs2, tail1) := by
    unfold allocF cutF; rw [if_neg hnn, if_neg hsmall, Int.toNat_natCast, if_pos hleft, er]
    simp only
    rw [if_neg (by simp), eg, hS]
    simp only [Prod.mk.injEq, true_and, and_true]
    rw [if_neg hrr, List.set_set]
  have hf1 : Fine obs1 := by have := fine_place (tail := tail) (k := 15) (l := (s : Int) - 1) (p := 0) HP.out.al.st.fine; rw [hR] at this; exact this
  have ht1' : (flat obs1 ++ tail1).length = Z := by have := (place_total obs tail 15 ((s : Int) - 1) 0).trans HP.out.len; rw [hR] at this; exact this
  have HRQ := Lib.hid (fun W O hb => rplace_any (w := W) (base := base) (xs := xs) Z A n c' obs tail HP.out.al.st.fine O hb HP.out.rf.count HP.out.len (by omega) 15 ((s : Int) - 1) 0)
  rw [hR] at HRQ
  have HSQ := Lib.hid (fun W A9 n9 c9 xs9 O hb hn => rsplit_any (w := W) (base := base) (xs := xs9) Z A9 n9 c9 obs1 hf1 O hb hn (by have := ht1'; simp at this; omega) r1 k l p)
  have hc1 : Clean obs1 := by have := clean_place (tail := tail) (k := 15) (l := (s : Int) - 1) (p := 0) HP.out.clean; rw [hR] at this; exact this
  have HCL := Lib.hid (clean_split (a := r1) (k := k) (l := l) (p := p) hf1 hc1)
  have HLN : Hid ((flat obs2 ++ tail1).length = Z) := Lib.hid (by
    have h1 := split_len (a := r1) (k := k) (l := l) (p := p) hf1
    rw [hS] at h1
    have h2 := ht1'
    simp only [List.length_append] at h1 h2 ⊢
    omega)
  have hrn := splitF_code hf1 r1 k l p
  rw [hS] at HSQ HCL hrn
  simp only at HSQ HCL HRQ hrn
  have r0 : 0 ≤ r := hrn.1
  have r9 : r ≤ 65536 := by have := ht1'; simp at this; omega
  have r1l : r1 ≤ 65536 := by rw [hval.1]; have := HP.out.al.st.few; omega
  have HRR := Lib.hid hrr
  have HLF := Lib.hid hleft
  have HAE := Lib.hid eg
  have hleft' : decide (leftF bs obs t < 1 + l) = true := decide_eq_true hleft
  clear hobj hnn er hR hS hrr hval hf1 ht1' hc1 hrn eg g15
  rw [ea] at HA
  clear hnew
  clear ea hin
  go_wp2_with fail
  refine HA.out.mono ?_
  rintro e w6 ⟨rfl, A6, E6⟩
  have M6 := Lib.hid (HP.out.md F HLX.out A6 E6)
  clear A6 E6 HA m0 m1 m2 m3 m4 x0b
  obtain ⟨bc, hbc⟩ : ∃ bc, wr.heap.size = bc := ⟨_, rfl⟩
  rw [hbc] at M6
  have m0 : w6.cell? ⟨bc, 0, none⟩ = some (.int .u8 kd) := M6.out.act.cell 0
  have m2 : w6.cell? ⟨bc, 2, none⟩ = some (.int .i64 k) := M6.out.act.cell 2
  have m3 : w6.cell? ⟨bc, 3, none⟩ = some (.int .i64 l) := M6.out.act.cell 3
  have m4 : w6.cell? ⟨bc, 4, none⟩ = some (.int .i64 p) := M6.out.act.cell 4
  rw [hbc]
  have Hbc := Lib.hid hbc
  clear hbc HLX
  have kn15 : (k == 15) = false := by simp [H15.out]
  have lg : decide ((s : Int) / 2 < 1 + l) = false := by simp; omega
  have s0 : (0 : Int) ≤ (s : Int) := by omega
  have s9 : (s : Int) ≤ 4096 := by have := HP.out.al.hi; omega
  have HLc := Lib.hid (fun W h => leftc_any (W := W) (bm := bm) (ba := ba) (gt := gt) (base := base) (Z := Z) (n := n) (c := c') (A := A) (xs := xs) (bs := bs) (obs := obs) h HP.out.al.st.fine HP.out.al.led HP.out.al.st.few t HT1.out)
  generalize leftF bs obs t = q at *
  have wr1 : IntKind.i64.wrap (1 + l) = 1 + l := IntWalk.i64_in _ (by omega)
  go_wp2_with fail
  refine (good_b k l p _ true hg).mono ?_
  rintro e w7 ⟨rfl, hb7⟩
  have M7 := Lib.hid (M6.out.kept hb7)
  clear hb7 m0 m2 m3 m4 M6
  have m2 : w7.cell? ⟨bc, 2, none⟩ = some (.int .i64 k) := M7.out.act.cell 2
  have m3 : w7.cell? ⟨bc, 3, none⟩ = some (.int .i64 l) := M7.out.act.cell 3
  have M7d := Lib.hid (M7.out.kept (Below.refl w7.heap.size w7).drew)
  go_wp2_with fail
  go_region_held3 (fun W => W.cell? ⟨bc, 2, none⟩ = some (.int .i64 k) ∧ W.cell? ⟨bc, 3, none⟩ = some (.int .i64 l))
    (first | exact ⟨m2, m3⟩ | go_keep | exact ⟨M8.act.cell 2, M8.act.cell 3⟩)
    ((first
    | (go_at_call 11; refine (HLc.out _ M7d.out.rf).mono ?_; rintro e w8 ⟨rfl, hb8⟩; have M8 := M7d.out.kept hb8)
    | fail))
  have HM8 := Lib.hid M8
  clear hb8 M8 M7 M7d HLc m2 m3 wr1 lg hsmall
  have rz : (r == 0) = false := by simp [HRR.out]
  have an : decide (r1 < 0) = false := by simp; omega
  obtain ⟨WA, hWA⟩ : ∃ WA, WA = w8 := ⟨_, rfl⟩
  subst hWA
  have g0 := HM8.out.rf.a0
  have g1 := HM8.out.rf.a_at HT1.out
  have g2 := HM8.out.rf.arow.frozen t
  rw [HBL.out] at g0
  have tt0 : (0 : Int) ≤ (t : Int) := by omega
  have tt1 : (t : Int) < (nt : Int) := by omega
  have MS := Lib.hid (HM8.out.set F t 0 (-1) (by decide))
  have e9 := HM8.out.rf.m0
  have e8 := HM8.out.rf.m1
  have d1 : gt ≠ bm := by have := F.l6; omega
  have d2 : bm ≠ gt := by omega
  have d3 : ba ≠ bm := by have := F.l6; have := F.l7; omega
  have d4 : bm ≠ ba := by omega
  have d5 : ba ≠ gt := by have := F.l7; omega
  have d6 : gt ≠ ba := by omega
  go_wp2_with fail
  generalize WA.setCell ⟨gt, t, none⟩ (.int .i64 (-1)) = WB at *
  refine (HRQ.out _ MS.out.rf.own MS.out.rf.room).mono ?_
  rintro e w9 ⟨⟨A9, n9, c9, xs9, rfl, hn9, O9⟩, hb9⟩
  have bY := below_one w9 (.cells #[.int .i64 (Z : Int), .slice A9 n9 c9] 36)
  have MT := (MS.out.kept hb9).kept bY
  have OT := O9.kept bY
  have LY := Lies.new w9 36 [.int .i64 (Z : Int), .slice A9 n9 c9]
  have MP := (MT.kept (Below.refl (w9.alloc (.cells #[.int .i64 (Z : Int), .slice A9 n9 c9] 36)).heap.size (w9.alloc (.cells #[.int .i64 (Z : Int), .slice A9 n9 c9] 36))).drew).put F (OT.kept (Below.refl (w9.alloc (.cells #[.int .i64 (Z : Int), .slice A9 n9 c9] 36)).heap.size (w9.alloc (.cells #[.int .i64 (Z : Int), .slice A9 n9 c9] 36))).drew) hn9
  have MV := MP.set F t (r1 + 1) r1 (by omega)
  have f7 := MP.rf.a0
  have f8 := MV.rf.a0
  have yne : w9.heap.size ≠ bm := by have h1 := MS.out.rf.box.lt; have h2 := hb9.size; omega
  have yng : w9.heap.size ≠ gt := by have h1 := MS.out.rf.arow.lt; have h2 := hb9.size; omega
  have LP := (LY.drew.far (p := ⟨bm, 0, none⟩) yne (.int .i64 (Z : Int))).far (p := ⟨bm, 1, none⟩) yne (.slice A9 n9 c9)
  have LQ := LP.far (p := ⟨gt, t, none⟩) yng (.int .i64 r1)
  rw [List.set_set] at MV
  have MU := Lib.hid MV
  have f0 := MT.rf.m0
  have f1 := MT.rf.m1
  have f2 := MT.rf.box.frozen 0
  have f3 := MT.rf.box.frozen 1
  have f4 := MT.rf.a0
  have f5 := MT.rf.a_at (t := t) (by simp; exact HT1.out)
  have f6 := MT.rf.arow.frozen t
  have el : (bs.set t 0).length = nt := by simp [HBL.out]
  have eg : (bs.set t 0).getD t 0 - 1 = -1 := by rw [getD_set', if_pos ⟨rfl, HT1.out⟩]; rfl
  rw [el] at f4 f7
  rw [List.length_set, el] at f8
  rw [eg] at f5
  have p0 : (w9.alloc (.cells #[.int .i64 (Z : Int), .slice A9 n9 c9] 36)).cell? ⟨w9.heap.size, 0, none⟩ = some (.int .i64 (Z : Int)) := LY.cell 0
  have p1 : (w9.alloc (.cells #[.int .i64 (Z : Int), .slice A9 n9 c9] 36)).cell? ⟨w9.heap.size, 1, none⟩ = some (.slice A9 n9 c9) := LY.cell 1
  have Hn9 := Lib.hid hn9
  clear hb9 O9 hn9 bY MS MT OT LY MP MV g0 g1 g2 e9 e8 HM8 el eg HRQ
  go_upto_region 38 with fail
  go_cut [] from 111 to 290 (fun wx => Md w wx ga gf g gw gb bm ba gt base bx Z s nt bc y kd (t : Int) k l p (bs.set t (r + 1)) obs2 tail1 (bs.set t (r1 + 1)) obs1 A9 n9 c9 xs9)
  case first =>
    go_region_held3 (fun W => W.cell? ⟨ba, 0, none⟩ = some (.slice (some ⟨gt, 0, none⟩) nt nt) ∧ W.cell? ⟨w9.heap.size, 0, none⟩ = some (.int .i64 (Z : Int)) ∧ W.cell? ⟨w9.heap.size, 1, none⟩ = some (.slice A9 n9 c9))
      (first | exact ⟨f4, p0, p1⟩ | exact ⟨f7, LP.cell 0, LP.cell 1⟩ | exact ⟨f8, LQ.cell 0, LQ.cell 1⟩ | go_keep)
      ((first | fail))
    all_goals (go_wp2_with fail; go_meet; exact MU.out)
  case rest =>
  have HMc := Lib.hid hcut
  clear hcut MU f0 f1 f2 f3 f4 f5 f6 f7 f8 p0 p1 LP LQ yne yng
  obtain ⟨WC, hWC⟩ : ∃ WC, WC = wc := ⟨_, rfl⟩
  subst hWC
  have HTR : Hid (t < (bs.set t (r1 + 1)).length) := Lib.hid (by simp; exact HT1.out)
  have HBR : Hid ((bs.set t (r1 + 1)).length = nt) := Lib.hid (by simp [HBL.out])
  have HAD := HAE
  have HSP := Lib.hid (fun W O hb => HSQ.out W A9 n9 c9 xs9 O hb Hn9.out)
  have g0 := HMc.out.rf.a0
  have g1 := HMc.out.rf.a_at HTR.out
  rw [HBR.out] at g0
  rw [HAD.out] at g1
  go_upto_region 42 with fail
  clear g0 g1 tt0 tt1 d1 d2 d3 d4 d5 d6
  have q0 := HMc.out.rf.a0
  have q1 := HMc.out.rf.a_at HTR.out
  rw [HBR.out] at q0
  have y0 := HMc.out.rf.m0
  have y1 := HMc.out.rf.m1
  have m2 : WC.cell? ⟨bc, 2, none⟩ = some (.int .i64 k) := HMc.out.act.cell 2
  have m3 : WC.cell? ⟨bc, 3, none⟩ = some (.int .i64 l) := HMc.out.act.cell 3
  have m4 : WC.cell? ⟨bc, 4, none⟩ = some (.int .i64 p) := HMc.out.act.cell 4
  have t0 : (0 : Int) ≤ (t : Int) := by omega
  have t1 : (t : Int) < (nt : Int) := by omega
  have d1 : gt ≠ bm := by have := F.l6; omega
  have d2 : bm ≠ gt := by omega
  have d3 : ba ≠ bm := by have := F.l6; have := F.l7; omega
  have d4 : bm ≠ ba := by omega
  have d5 : ba ≠ gt := by have := F.l7; omega
  have d6 : gt ≠ ba := by omega
  rw [HAD.out] at q1
  have MD := Lib.hid (HMc.out.kept (Below.refl WC.heap.size WC).drew)
  go_cut [] from 111 to 290 (fun wx => ∃ (A7 : Option Addr) (n7 c7 : Nat) (xs7 : List Value), Md w wx ga gf g gw gb bm ba gt base bx Z s nt bc y kd (t : Int) k l p (bs.set t (r + 1)) obs2 tail1 ((bs.set t (r1 + 1)).set t (r + 1)) obs2 A7 n7 c7 xs7)
  case first =>
    refine wp_region_noPanic ?_
    go_region_with ((first
      | (go_at_call 18; refine (HSP.out _ MD.out.rf.own MD.out.rf.room).mono ?_; rintro e w9 ⟨⟨A7, n7, c7, xs7, rfl, hn7, O7⟩, hb9⟩; have M9 := MD.out.kept hb9; have MQ := Lib.hid ((M9.put F O7 hn7).set F t (r + 1) r (by omega)); have z0 := M9.rf.m0; have z1 := M9.rf.m1; have z2 := M9.rf.box.frozen 0; have z3 := M9.rf.box.frozen 1; have z4 := M9.rf.a_at HTR.out; have z5 := M9.rf.arow.frozen t; have z6 := M9.rf.a0; rw [HBR.out] at z6; rw [HAD.out] at z4; clear M9 hb9 O7 hn7)
      | fail))
    all_goals (refine NoPanic.normal ?_; go_wp2_with fail; go_meet; exact ⟨_, _, _, _, MQ.out⟩)
  case rest =>
  obtain ⟨A7, n7, c7, xs7, M10h⟩ := hcut
  have M10 := Lib.hid M10h
  have v0 := M10h.rf.a0
  have v1 := M10h.rf.a_at (t := t) (by simp only [List.length_set]; exact HT1.out)
  have v2 := M10h.rf.arow.frozen t
  have ev : (((bs.set t (r1 + 1)).set t (r + 1))).getD t 0 - 1 = r := by rw [getD_set', if_pos ⟨rfl, HTR.out⟩]; omega
  have el : (((bs.set t (r1 + 1)).set t (r + 1))).length = nt := by simp [HBL.out]
  rw [ev] at v1
  rw [el] at v0
  clear ev el q0 q1 y0 y1 m2 m3 m4 MD HMc M10h
  rw [List.set_set] at M10
  have MM := M10
  go_upto_region 53 with fail
  clear v0 v1 v2 M10
  have hb2 : ((bs.set t (r + 1))).length = nt := (by simp [HBL.out])
  have PT := Lib.hid (MM.out.pt HCL.out HLN.out hb2)
  have HT2 : Hid (t < ((bs.set t (r + 1))).length) := Lib.hid (by rw [hb2]; exact htn)
  clear MM hb2
  have HLa := Lib.hid (Left_any PT.out.al (t : Int))
  have ela : leftA (bs.set t (r + 1)) obs2 (t : Int) = (leftF (bs.set t (r + 1)) obs2 t, 0) := by unfold leftA; rw [if_pos (by have := HT2.out; omega), Int.toNat_natCast]
  rw [ela] at HLa
  have HLc := Lib.hid (fun W h => leftc_any (W := W) (bm := bm) (ba := ba) (gt := gt) (base := base) (Z := Z) (n := n7) (c := c7) (A := A7) (xs := xs7) (bs := (bs.set t (r + 1))) (obs := obs2) h PT.out.al.st.fine PT.out.al.led PT.out.al.st.few t HT2.out)
  clear ela
  generalize leftF (bs.set t (r + 1)) obs2 t = q at *
  have eq9 : (q != q) = false := by simp
  go_wp2_with fail
  refine HLa.out.mono ?_
  rintro e wa ⟨rfl, hba⟩
  have PA := Lib.hid (PT.out.kept hba)
  clear hba HLa
  go_wp2_with fail
  refine (HLc.out _ PA.out.rf).mono ?_
  rintro e wb ⟨rfl, hbb⟩
  have PB := Lib.hid (PA.out.kept hbb)
  clear hbb HLc PA
  have u0 := PB.out.rf.m0
  have u1 := PB.out.rf.m1
  have HIS := Lib.hid (is_any PB.out.al.st PB.out.rf.own.things PB.out.clean.within n7 c7 Z PB.out.rf.count PB.out.len)
  go_wp2_with fail
  refine HIS.out.mono ?_
  rintro e wc ⟨rfl, hbc⟩
  have PC := Lib.hid (PB.out.kept hbc)
  clear hbc HIS PB u0 u1
  go_wp2
  refine HK.out _ _ _ _ _ _ _ _ _ _ _ _ _ _ _ _ _ _ _ _ _ _ _ _ _ _ _ _ _ _ _ _ _ _ _ _ _ _ _ _ _ _ _ _ _ _ _ _ _ _ _ _ _ _ _ _ _ _ _ _ _ _ _ _ _ _ _ _ _ _ _ _ _ _ _ _ _ _ _ _ _ _ _ _ _ _ _ _ _ _ _ _ _ _ _ _ _ _ _ _ _ _ _ _ _ _ _ _ _ _ _ _ _ _ _ _ _ _ _ _ _ _ _ _ _ _ _ _ _ _ _ _ _ _ _ _ _ _ _ _ _ _ _ _ _ _ _ _ _ _ _ _ _ _ _ _ _ _ _ _ _ _ _ _ _ _ _ _ _ _ _ _ _ _ _ _ _ _ _ _ _ _ _ _ _ _ _ _ _ _ _ _ _ _ _ _ _ _ ?_
  exact ⟨_, _, _, _, _, _, _, by go_num, PC.out⟩
end Go.Proofs.Ytibfhpbklnpknaa
