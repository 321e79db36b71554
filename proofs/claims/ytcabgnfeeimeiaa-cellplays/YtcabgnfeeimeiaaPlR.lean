/- The body of CellPlays' loop, and what each round keeps. -/
import Derived.Test.YtcabgnfeeimeiaaPl
import Derived.Deep.CutRange
import Derived.Deep.CutBlock
namespace Go.Proofs.Ytcabgnfeeimeiaa
open Go.RowKit
set_option linter.unusedVariables false
set_option linter.unusedSimpArgs false

/-- What the inner loop keeps. -/
structure In2 (wi w : World) (g gw gv s j q k : Nat) (zs : List Int) (A : Option Addr) (c : Nat) (ts : List Tc) (L : Option Addr) (lc : Nat) (cs : List Value) : Prop where
  pl : Pl wi w g gw gv s j zs A c ts L lc
  box : Lies wi q 39 cs
  len : cs.length = ts.length * 5
  rest : ∀ m, k * 5 ≤ m → cs[m]? = (cellsT ts)[m]?
  q1 : some q ≠ blk A
  q2 : some q ≠ blk L
  q3 : w.heap.size ≤ q

theorem In2.start {W W' w : World} {g gw gv s j q : Nat} {zs : List Int} {A : Option Addr} {c : Nat} {ts : List Tc} {L : Option Addr} {lc : Nat} (h : Pl W w g gw gv s j zs A c ts L lc) (hq : W.heap.size ≤ q) (hl : Lies W' q 39 (cellsT ts)) (hb : Below W.heap.size W W') : In2 W' w g gw gv s j q 0 zs A c ts L lc (cellsT ts) :=
  ⟨h.kept hb, hl, cellsT_len ts, fun _ _ => rfl, (fun e => by have := (row_of h.at_.log e.symm).2.1; omega), (fun e => by have := (row_of h.log e.symm).2.1; omega), Nat.le_trans h.old.size hq⟩
theorem In2.draws {wi w : World} {g gw gv s j q k : Nat} {zs : List Int} {A : Option Addr} {c : Nat} {ts : List Tc} {L : Option Addr} {lc : Nat} {cs : List Value} (h : In2 wi w g gw gv s j q k zs A c ts L lc cs) (n : Nat) : In2 (wi.drewN n) w g gw gv s j q k zs A c ts L lc cs :=
  ⟨h.pl.kept ⟨rfl, rfl, rfl, Nat.le_refl _, fun _ _ => rfl⟩, h.box, h.len, h.rest, h.q1, h.q2, h.q3⟩
theorem In2.next {wi w : World} {g gw gv s j q k : Nat} {zs : List Int} {A : Option Addr} {c : Nat} {ts : List Tc} {L : Option Addr} {lc : Nat} {cs : List Value} (h : In2 wi w g gw gv s j q k zs A c ts L lc cs) :
    In2 (wi.setCell ⟨q, k * 5 + 4, none⟩ (.int .i64 99)) w g gw gv s j q (k + 1) zs A c ts L lc (cs.set (k * 5 + 4) (.int .i64 99)) := by
  refine ⟨h.pl.far (h.box.apart h.pl.at_.own (by decide)) (h.box.apart h.pl.at_.words (by decide)) h.q1 h.q2 (h.box.apart h.pl.own (by decide)) h.q3 _ _, h.box.set _ _, by simpa using h.len, fun m hm => ?_, h.q1, h.q2, h.q3⟩
  rw [List.getElem?_set_ne (by omega)]
  exact h.rest m (by omega)

/-- A touch's cells, in the copy and in the law's own row. -/
theorem In2.here {wi w : World} {g gw gv s j q k : Nat} {zs : List Int} {A : Option Addr} {c : Nat} {ts : List Tc} {L : Option Addr} {lc : Nat} {cs : List Value} (h : In2 wi w g gw gv s j q k zs A c ts L lc cs) (hk : k < ts.length) :
    (∀ m v, ts[k].cells[m]? = some v → wi.cell? ⟨q, k * 5 + m, none⟩ = some v) ∧ ∃ p, L = some ⟨p, 0, none⟩ ∧ ∀ m v, ts[k].cells[m]? = some v → wi.cell? ⟨p, k * 5 + m, none⟩ = some v := by
  have hat : ∀ m v, ts[k].cells[m]? = some v → (cellsT ts)[k * 5 + m]? = some v := fun m v hv => by
    have hm : m < 5 := by
      have := (List.getElem?_eq_some_iff.1 hv).1
      simpa [Tc.cells] using this
    rw [cellsT_at ts k m hm, List.getElem?_eq_getElem hk]
    exact hv
  refine ⟨fun m v hv => ?_, ?_⟩
  · rw [h.box.cell, h.rest _ (by omega)]; exact hat m v hv
  · obtain ⟨_, ⟨_, e⟩ | ⟨p, cap, cur, e, _, hq, _, _, _, ht⟩⟩ := h.pl.log
    · omega
    · injection e with e
      refine ⟨p, e, fun m v hv => ?_⟩
      have h1 := hat m v hv
      rw [← ht, List.getElem?_take] at h1
      split at h1
      · have h2 := World.news_of_block hq _ _ h1
        rw [add_at] at h2
        exact h2
      · cases h1

theorem log_n {w : World} {base g gw : Nat} {zs : List Int} {A : Option Addr} {c : Nat} {ts : List Tc} (h : At w base g gw zs A c ts) (hn : ts.length ≤ 1000) (n : Nat) (e : ts.length = n) : Calls Try.prog 17 #[.pointer (some ⟨g, 0, none⟩)] w fun e w' => ∃ q, e = .returned (.slice (some ⟨q, 0, none⟩) n n) ∧ w.heap.size ≤ q ∧ Lies w' q 39 (cellsT ts) ∧ Below w.heap.size w w' := by
  subst e; exact log_q h hn

theorem makeU (n : Nat) (hn : n ≤ 255) (w : World) : (Instr.makeSlice 29 (.int .u8 (n : Int)) (.int .u8 (n : Int))).run Try.prog w = .ok (.slice (some ⟨w.heap.size, 0, none⟩) n n) (w.alloc (.cells (noughts n).toArray 3)) := by
  obtain ⟨i0, hi0, hz0, hz1, hz2⟩ := info3
  have := run_make (P := Try.prog) w 29 3 i0 _ Try.underlying29 hi0 hz0 .u8 .u8 n n (by omega) (Int.le_refl _) (by rw [hz2]; omega) (by omega)
  rw [this, hz1]
  simp [Value.cells, made_one, noughts]

/-- The first loop of a text. -/
def firstLoop : Code → Option Code
  | .loop c => some c
  | .seq a b => match firstLoop a with
    | some c => some c
    | none => firstLoop b
  | .block _ c => firstLoop c
  | .scope c => firstLoop c
  | .cond _ a b => match firstLoop a with
    | some c => some c
    | none => firstLoop b
  | _ => none
noncomputable def rbody : Code := (Try.f3.body.bind firstLoop).getD .skip

def Rel (w w'' : World) (g gw gv s j : Nat) (v8 v59 : Value) : Prop := ∃ (zs : List Int) (A : Option Addr) (c' : Nat) (ts : List Tc) (L : Option Addr) (lc n : Nat), v59 = .int .i64 (j : Int) ∧ v8 = .slice L n lc ∧ ts.length = n ∧ Pl w'' w g gw gv s j zs A c' ts L lc

set_option maxRecDepth 1000000 in
set_option maxHeartbeats 4000000 in
theorem round_clear {K0 : Act → World → Prop} {Q0 : Exit → Act → World → Prop} (s : Nat) (ad : Addr) (c : Nat) (w wr : World) (nd g gw gv j n : Nat) (zs : List Int) (A : Option Addr) (c' : Nat) (ts : List Tc) (L : Option Addr) (lc : Nat) (kd who place a b' : Int)
    (hs : 1 ≤ s) (hs' : s ≤ 255) (hl : nd ≤ 80) (hjl : j < nd) (hn : ts.length = n) (PP : Pl wr w g gw gv s j zs A c' ts L lc)
    (c0 : wr.cell? (ad.add (j * 5)) = some (.int .u8 kd)) (c1 : wr.cell? ⟨(ad.add (j * 5)).block, (ad.add (j * 5)).off + 1, none⟩ = some (.int .i64 who)) (c2 : wr.cell? ⟨(ad.add (j * 5)).block, (ad.add (j * 5)).off + 2, none⟩ = some (.int .i64 place))
    (c3 : wr.cell? ⟨(ad.add (j * 5)).block, (ad.add (j * 5)).off + 3, none⟩ = some (.int .i64 a)) (c4 : wr.cell? ⟨(ad.add (j * 5)).block, (ad.add (j * 5)).off + 4, none⟩ = some (.int .i64 b')) (hk0 : 0 ≤ kd) (hk1 : kd ≤ 255)
    (x1 x2 x3 x4 x6 x9 x10 x11 x12 x13 x14 x15 x16 x17 x18 x19 x20 x21 x22 x23 x24 x25 x26 x27 x28 x29 x30 x31 x32 x33 x34 x35 x36 x37 x38 x39 x40 x41 x42 x43 x44 x45 x46 x47 x48 x49 x50 x51 x52 x53 x54 x55 x56 x60 x61 x62 x63 x64 x65 x66 x67 x68 x69 x70 x71 x72 x73 x74 x75 x76 x77 x78 x79 x80 x81 x82 x83 x84 x85 x86 x87 x88 x89 x90 x91 x92 x93 x94 x95 x96 x97 x98 x99 x100 x101 x102 x103 x104 x105 x106 x107 x108 x109 x110 x111 x112 x113 x114 x115 x116 x117 x118 x119 x120 x121 x122 x123 x124 x125 x126 x127 x128 x129 x130 x131 x132 x133 x134 x135 x136 x137 x138 x139 x140 x141 x142 x143 x144 x145 x146 x147 x148 x149 x150 x151 x152 x153 x154 x155 x156 x157 x158 x159 x160 x161 x162 x163 x164 x165 x166 x167 x168 x169 x170 x171 x172 x173 x174 x175 x176 x177 x178 x179 x180 x181 x182 x183 x184 x185 x186 x187 x188 x189 x190 x191 x192 x193 x194 x195 x196 x197 x198 x199 x200 x201 x202 x203 x204 x205 x206 x207 x208 x209 x210 x211 x212 x213 x214 x215 x216 x217 x218 x219 x220 x221 : Value)
    (hK : ∀ (v4 v8 v10 v11 v12 v13 v14 v15 v16 v17 v18 v19 v59 v60 v61 v62 v63 v64 v65 v66 v67 v68 v69 v70 v71 v72 v73 v74 v75 v76 v77 v78 v79 v80 v81 v82 v83 v84 v85 v86 v87 v88 v89 v90 v91 v92 v93 v94 v95 v96 v97 v98 v99 v100 v101 v102 v103 v104 v105 v106 v107 v108 v109 v110 v111 v112 v113 v114 v115 v116 v117 v118 v119 v120 v121 v122 v123 v124 v125 v126 v127 v128 v129 v130 v131 v132 v133 v134 v135 v136 v137 v138 v139 v140 v141 v142 v143 v144 v145 v146 v147 v148 v149 v150 v151 v152 v153 v154 v155 v156 v157 v158 v159 v160 v161 v162 v163 v164 v165 v166 v167 v168 v169 v170 v171 v172 v173 v174 v175 v176 v177 v178 v179 v180 v181 v182 v183 v184 v185 v186 v187 v188 v189 v190 v191 v192 v193 v194 v195 v196 v197 v198 v199 v200 v201 v202 v203 v204 v205 v206 v207 v208 v209 v210 v211 v212 v213 v214 v215 v216 v217 v218 v219 v220 v221 : Value) (w'' : World), Rel w w'' g gw gv s (j + 1) v8 v59 → K0 ⟨#[.int .u8 (s : Int), x1, x2, x3, v4, .pointer (some ⟨g, 0, none⟩), x6, .slice (some ⟨gv, 0, none⟩) s s, v8, x9, v10, v11, v12, v13, v14, v15, v16, v17, v18, v19, x20, x21, x22, x23, x24, x25, x26, x27, x28, x29, x30, x31, x32, x33, x34, x35, x36, x37, x38, x39, x40, x41, x42, x43, x44, x45, x46, x47, x48, x49, x50, x51, x52, x53, x54, x55, x56, .slice (some ad) nd c, .int .i64 (nd : Int), v59, v60, v61, v62, v63, v64, v65, v66, v67, v68, v69, v70, v71, v72, v73, v74, v75, v76, v77, v78, v79, v80, v81, v82, v83, v84, v85, v86, v87, v88, v89, v90, v91, v92, v93, v94, v95, v96, v97, v98, v99, v100, v101, v102, v103, v104, v105, v106, v107, v108, v109, v110, v111, v112, v113, v114, v115, v116, v117, v118, v119, v120, v121, v122, v123, v124, v125, v126, v127, v128, v129, v130, v131, v132, v133, v134, v135, v136, v137, v138, v139, v140, v141, v142, v143, v144, v145, v146, v147, v148, v149, v150, v151, v152, v153, v154, v155, v156, v157, v158, v159, v160, v161, v162, v163, v164, v165, v166, v167, v168, v169, v170, v171, v172, v173, v174, v175, v176, v177, v178, v179, v180, v181, v182, v183, v184, v185, v186, v187, v188, v189, v190, v191, v192, v193, v194, v195, v196, v197, v198, v199, v200, v201, v202, v203, v204, v205, v206, v207, v208, v209, v210, v211, v212, v213, v214, v215, v216, v217, v218, v219, v220, v221], []⟩ w'') (hk4 : kd % 5 = 4) :
    Code.wp Try.prog rbody (Exit.then K0 Q0) ⟨#[.int .u8 (s : Int), x1, x2, x3, x4, .pointer (some ⟨g, 0, none⟩), x6, .slice (some ⟨gv, 0, none⟩) s s, .slice L n lc, x9, x10, x11, x12, x13, x14, x15, x16, x17, x18, x19, x20, x21, x22, x23, x24, x25, x26, x27, x28, x29, x30, x31, x32, x33, x34, x35, x36, x37, x38, x39, x40, x41, x42, x43, x44, x45, x46, x47, x48, x49, x50, x51, x52, x53, x54, x55, x56, .slice (some ad) nd c, .int .i64 (nd : Int), .int .i64 (j : Int), x60, x61, x62, x63, x64, x65, x66, x67, x68, x69, x70, x71, x72, x73, x74, x75, x76, x77, x78, x79, x80, x81, x82, x83, x84, x85, x86, x87, x88, x89, x90, x91, x92, x93, x94, x95, x96, x97, x98, x99, x100, x101, x102, x103, x104, x105, x106, x107, x108, x109, x110, x111, x112, x113, x114, x115, x116, x117, x118, x119, x120, x121, x122, x123, x124, x125, x126, x127, x128, x129, x130, x131, x132, x133, x134, x135, x136, x137, x138, x139, x140, x141, x142, x143, x144, x145, x146, x147, x148, x149, x150, x151, x152, x153, x154, x155, x156, x157, x158, x159, x160, x161, x162, x163, x164, x165, x166, x167, x168, x169, x170, x171, x172, x173, x174, x175, x176, x177, x178, x179, x180, x181, x182, x183, x184, x185, x186, x187, x188, x189, x190, x191, x192, x193, x194, x195, x196, x197, x198, x199, x200, x201, x202, x203, x204, x205, x206, x207, x208, x209, x210, x211, x212, x213, x214, x215, x216, x217, x218, x219, x220, x221], []⟩ wr := by
  have HN := Lib.hid hn
  have hn7 : n ≤ 80 := by have := PP.few; omega
  have HP := Lib.hid PP
  have HK := Lib.hid hK
  have j0 : (0 : Int) ≤ (j : Int) := by omega
  have j1 : (j : Int) < (nd : Int) := by omega
  obtain ⟨X, hX⟩ : ∃ X : Obj, X = .cells #[.int .u8 kd, .int .i64 who, .int .i64 place, .int .i64 a, .int .i64 b'] 32 := ⟨_, rfl⟩
  have LX : Lies (wr.alloc X) wr.heap.size 32 [.int .u8 kd, .int .i64 who, .int .i64 place, .int .i64 a, .int .i64 b'] := by rw [hX]; exact Lies.new wr 32 [_, _, _, _, _]
  have HX := Lib.hid (HP.out.kept (below_one wr X))
  have HLX := Lib.hid LX
  clear LX HP PP hn hK
  conv => arg 2; whnf
  go_wp2_with fail
  rw [← hX]
  refine (clear_any HX.out.at_).mono ?_
  rintro e w3 ⟨rfl, A3, E3⟩
  have F := Lib.hid (HX.out.cleared A3 E3)
  clear A3 E3 HX HLX c0 c1 c2 c3 c4 hX
  go_wp2
  refine HK.out _ _ _ _ _ _ _ _ _ _ _ _ _ _ _ _ _ _ _ _ _ _ _ _ _ _ _ _ _ _ _ _ _ _ _ _ _ _ _ _ _ _ _ _ _ _ _ _ _ _ _ _ _ _ _ _ _ _ _ _ _ _ _ _ _ _ _ _ _ _ _ _ _ _ _ _ _ _ _ _ _ _ _ _ _ _ _ _ _ _ _ _ _ _ _ _ _ _ _ _ _ _ _ _ _ _ _ _ _ _ _ _ _ _ _ _ _ _ _ _ _ _ _ _ _ _ _ _ _ _ _ _ _ _ _ _ _ _ _ _ _ _ _ _ _ _ _ _ _ _ _ _ _ _ _ _ _ _ _ _ _ _ _ _ _ _ _ _ _ _ _ _ _ _ _ _ ?_
  exact ⟨_, _, _, _, _, _, 0, by go_num, rfl, rfl, F.out⟩
end Go.Proofs.Ytcabgnfeeimeiaa
