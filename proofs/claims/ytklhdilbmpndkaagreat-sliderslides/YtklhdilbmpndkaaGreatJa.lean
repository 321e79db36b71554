/- What Build keeps between its steps. A round of Build's loop that places objects. A round of Build's loop that places objects, with a filler ahead. -/
import Derived.Test.YtklhdilbmpndkaaGreatHa
import Derived.Deep.CutRange
import Derived.Deep.CutBlock
namespace Go.Proofs.YtklhdilbmpndkaaGreat
set_option maxRecDepth 20000
open Go.RowKit
set_option linter.unusedVariables false
set_option linter.unusedSimpArgs false

/-- The program's heap, of some objects, and the reference's, of the same or of those ahead of a step; the nodes' addresses. -/
structure Bu (w W : World) (g gw gb bm base Z : Nat) (obs : List Ob) (tail : List Int) (obr : List Ob) (A : Option Addr) (n c : Nat) (xs : List Value) (B : Option Addr) (cap : Nat) (ats : List Int) : Prop where
  st : St W g gw gb obs tail
  clean : Clean obs
  len : (flat obs ++ tail).length = Z
  box : Lies W bm 34 [.int .i64 (Z : Int), .slice A n c]
  own : Owned W base A n c obr xs
  count : obr.length = n
  old : Below w.heap.size w W
  room : base ≤ W.heap.size
  row : Rv W base B cap ats
  off : ∀ N0, blk B = some N0 → Off N0 A xs
  lo : w.heap.size ≤ g ∧ w.heap.size ≤ gw ∧ w.heap.size ≤ gb
  hi : g < base ∧ gw < base ∧ gb < base
  bm_ : base ≤ bm

section
variable {w W W' : World} {g gw gb bm base Z n c cap : Nat} {obs obr : List Ob} {tail : List Int} {A B : Option Addr} {xs : List Value} {ats : List Int}
theorem Bu.kept (h : Bu w W g gw gb bm base Z obs tail obr A n c xs B cap ats) (hb : Below W.heap.size W W') : Bu w W' g gw gb bm base Z obs tail obr A n c xs B cap ats :=
  ⟨h.st.kept hb, h.clean, h.len, h.box.below hb h.box.lt, h.own.kept hb, h.count, on h.old h.old.size hb, Nat.le_trans h.room hb.size, h.row.below hb, h.off, h.lo, h.hi, h.bm_⟩
theorem Bu.alloc (h : Bu w W g gw gb bm base Z obs tail obr A n c xs B cap ats) (o : Obj) : Bu w (W.alloc o) g gw gb bm base Z obs tail obr A n c xs B cap ats := h.kept (below_one W o)
theorem Bu.drew (h : Bu w W g gw gb bm base Z obs tail obr A n c xs B cap ats) : Bu w W.drew g gw gb bm base Z obs tail obr A n c xs B cap ats := h.kept ((Below.refl _ W).drew)
/-- Behind a call on the program's heap. -/
theorem Bu.heap (h : Bu w W g gw gb bm base Z obs tail obr A n c xs B cap ats) {obs2 : List Ob} {tail2 : List Int} (S : St W' g gw gb obs2 tail2) (E : Else g gw gb W W') (C : Clean obs2) (hl : (flat obs2 ++ tail2).length = Z) :
    Bu w W' g gw gb bm base Z obs2 tail2 obr A n c xs B cap ats := by
  obtain ⟨h1, h2, h3⟩ := h.hi
  obtain ⟨l1, l2, l3⟩ := h.lo
  have hb := h.bm_
  exact ⟨S, C, hl, E.lies h.box (by omega) (by omega) (by omega), h.own.else3 E h1 h2 h3, h.count, h.old.trans (E.below h.old.size l1 l2 l3), Nat.le_trans h.room E.size, h.row.off fun b hb hlt => E.block b hlt (by omega) (by omega) (by omega), h.off, h.lo, h.hi, h.bm_⟩
/-- Behind a call of the reference's, whose answer goes into the box. -/
theorem Bu.ref (h : Bu w W g gw gb bm base Z obs tail obr A n c xs B cap ats) {w2 : World} {A' : Option Addr} {n' c' : Nat} {obr' : List Ob} {xs' : List Value} (hb : Below W.heap.size W w2) (O : Owned w2 base A' n' c' obr' xs') (hn : obr'.length = n')
    (ho : ∀ N0, N0 < W.heap.size → Off N0 A xs → Off N0 A' xs') : Bu w ((w2.setCell ⟨bm, 0, none⟩ (.int .i64 (Z : Int))).setCell ⟨bm, 1, none⟩ (.slice A' n' c')) g gw gb bm base Z obs tail obr' A' n' c' xs' B cap ats := by
  have K := h.kept hb
  obtain ⟨h1, h2, h3⟩ := h.hi
  obtain ⟨l1, l2, l3⟩ := h.lo
  have hbm := h.bm_
  have hw : w.heap.size ≤ bm := by omega
  have q0 := K.box.set 0 (.int .i64 (Z : Int))
  refine ⟨K.st.put2 (by omega) (by omega) (by omega) _ _, h.clean, h.len, lies_put2 K.box, O.put2 K.box _ _, hn, (K.old.setCell (p := ⟨bm, 0, none⟩) hw _).setCell (p := ⟨bm, 1, none⟩) hw _, by simpa using K.room, ?_, fun N0 e => ?_, h.lo, h.hi, h.bm_⟩
  · refine (K.row.kept fun b cs hb hl => ?_)
    have hne : b ≠ bm := hl.apart K.box (by decide)
    exact (hl.far (p := ⟨bm, 0, none⟩) hne _).far (p := ⟨bm, 1, none⟩) hne _
  · exact ho N0 (h.row.blk_lt e).2 (h.off N0 e)
/-- One address more. -/
theorem Bu.more (h : Bu w W g gw gb bm base Z obs tail obr A n c xs B cap ats) {B' : Option Addr} {cap' : Nat} {y : Int} (R : Rv W' base B' cap' (ats ++ [y])) (G : W.grownBy W' (blk B)) (M : blk B' = blk B ∨ blk B' = some W.heap.size) (hA : ∀ ad, A = some ad → ad.block < W.heap.size) (hx : ∀ ad k j, Value.slice (some ad) k j ∈ xs → ad.block < W.heap.size) :
    Bu w W' g gw gb bm base Z obs tail obr A n c xs B' cap' (ats ++ [y]) := by
  obtain ⟨h1, h2, h3⟩ := h.hi
  obtain ⟨l1, l2, l3⟩ := h.lo
  have hbm := h.bm_
  have lg := h.st.lies.own.lt
  have lw := h.st.lies.words.lt
  have lb := h.st.lies.begins.lt
  have nb : ∀ k, k < base → some k ≠ blk B := fun k hk e => by have := (h.row.blk_lt e.symm).1; omega
  have hbox : some bm ≠ blk B := fun e => by
    obtain ⟨cs, hl, _⟩ := h.row.lies e.symm
    exact hl.apart h.box (by decide) rfl
  have own' : Owned W' base A n c obr xs := by
    cases e : blk B with
    | none => exact h.own.kept ⟨G.os, G.tape, G.output, G.size, fun k hk => G.block k hk (by rw [e]; exact fun h => by cases h)⟩
    | some N0 => exact h.own.off (h.off N0 e) fun b hb hlt => G.block b hlt (by rw [e]; exact fun h => hb (by injection h))
  refine ⟨⟨h.st.fine, h.st.lies.own.of_block (G.block g lg (nb g h1)), h.st.lies.words.of_block (G.block gw lw (nb gw h2)), h.st.lies.begins.of_block (G.block gb lb (nb gb h3)), h.st.lies.same, h.st.lies.some_, h.st.lies.most, h.st.lies.fits⟩, h.clean, h.len, h.box.of_block (G.block bm h.box.lt hbox), own', h.count, h.old.grown G h.old.size (fun k e => by have := (h.row.blk_lt e).1; omega), Nat.le_trans h.room G.size, R, fun N0 e => ?_, h.lo, h.hi, h.bm_⟩
  rcases M with e2 | e2
  · exact h.off N0 (e2.symm.trans e)
  · rw [e2] at e
    injection e with e
    subst e
    exact ⟨fun ad ea => Nat.ne_of_lt (hA ad ea), fun ad k j hm => Nat.ne_of_lt (hx ad k j hm)⟩
end

theorem CellsO.lt {w : World} {base : Nat} : ∀ {a : Nat} {obs : List Ob} {xs : List Value}, CellsO w base a obs xs → ∀ ad k j, Value.slice (some ad) k j ∈ xs → ad.block < w.heap.size
  | _, [], xs, h, ad, k, j, hm => by have : xs = [] := h; subst this; simp at hm
  | a, o :: l, xs, h, ad, k, j, hm => by
    obtain ⟨b, c, ys, e, h1, h2⟩ := h
    rw [e] at hm
    rcases List.mem_append.1 hm with hm | hm
    · simp [thing] at hm
      obtain ⟨rfl, _⟩ := hm
      obtain ⟨cs, hl⟩ := owns_block h1
      exact hl.lt
    · exact h2.lt ad k j hm
theorem Owned.lt {w : World} {base n c : Nat} {A : Option Addr} {obs : List Ob} {xs : List Value} (h : Owned w base A n c obs xs) : (∀ ad, A = some ad → ad.block < w.heap.size) ∧ ∀ ad k j, Value.slice (some ad) k j ∈ xs → ad.block < w.heap.size := by
  refine ⟨fun ad e => ?_, h.cells.lt⟩
  subst e
  rcases h.own.2 with ⟨e, _⟩ | ⟨g, cap, cur, e, _, h3, _⟩
  · cases e
  · injection e with e
    injection e with e
    subst e
    exact (Array.getElem?_eq_some_iff.1 h3).1
/-- One more, with the row's append. -/
theorem Bu.append {w W W' : World} {g gw gb bm base Z n c cap : Nat} {obs obr : List Ob} {tail : List Int} {A B : Option Addr} {xs : List Value} {ats : List Int} (h : Bu w W g gw gb bm base Z obs tail obr A n c xs B cap ats) {B' : Option Addr} {cap' : Nat} {y : Int} (R : Rv W' base B' cap' (ats ++ [y])) (G : W.grownBy W' (blk B)) (M : blk B' = blk B ∨ blk B' = some W.heap.size) :
    Bu w W' g gw gb bm base Z obs tail obr A n c xs B' cap' (ats ++ [y]) := h.more R G M h.own.lt.1 h.own.lt.2
end Go.Proofs.YtklhdilbmpndkaaGreat

namespace Go.Proofs.YtklhdilbmpndkaaGreat
set_option maxRecDepth 20000
open Go.RowKit
set_option linter.unusedVariables false
set_option linter.unusedSimpArgs false

/-- The bodies of a text's loops, in its order. -/
def loopsOf : Code → List Code
  | .loop c => c :: loopsOf c
  | .seq a b => loopsOf a ++ loopsOf b
  | .block _ c => loopsOf c
  | .scope c => loopsOf c
  | .cond _ a b => loopsOf a ++ loopsOf b
  | _ => []
noncomputable def bloop (i : Nat) : Code := ((Tryz.f23.body.map loopsOf).getD []).getD i .skip

/-- Behind a round of placing. -/
def Placed (w w'' : World) (g gw gb bm base Z k : Nat) (obs : List Ob) (ats : List Int) (v13 v59 : Value) : Prop :=
  ∃ (tail : List Int) (A : Option Addr) (n c : Nat) (xs : List Value) (B : Option Addr) (cap : Nat), v59 = .int .i64 (k : Int) ∧ v13 = .slice B k cap ∧ Bu w w'' g gw gb bm base Z obs tail obs A n c xs B cap ats

set_option maxRecDepth 1000000 in
set_option maxHeartbeats 4000000 in
theorem bplace_plain {K0 : Act → World → Prop} {Q0 : Exit → Act → World → Prop} (w wr : World) (g gw gb bm base Z k n c cap nn cN el ec : Nat) (ad : Addr) (obs : List Ob) (tail : List Int) (A B E : Option Addr) (xs : List Value) (ats : List Int) (d : Nd)
    (hf : d.fit) (hel : d.edges.length = el) (hel2 : el ≤ 10) (hkn : k < nn) (hnn : nn ≤ 14) (hk : ats.length = k) (hroom : (flat obs).length + szN d < Z) (hZ : Z ≤ 1000)
    (PP : Bu w wr g gw gb bm base Z obs tail obs A n c xs B cap ats)
    (c0 : wr.cell? (ad.add (k * 3)) = some (.int .u8 d.kind)) (c1 : wr.cell? ⟨(ad.add (k * 3)).block, (ad.add (k * 3)).off + 1, none⟩ = some (.slice E el ec)) (c2 : wr.cell? ⟨(ad.add (k * 3)).block, (ad.add (k * 3)).off + 2, none⟩ = some (.int .u8 d.more))
    (x0 x1 x2 x3 x4 x5 x6 x7 x8 x9 x11 x14 x15 x16 x17 x18 x19 x20 x21 x22 x23 x24 x25 x26 x27 x28 x29 x30 x31 x32 x33 x34 x35 x36 x37 x38 x39 x40 x41 x42 x43 x44 x45 x46 x47 x48 x49 x50 x51 x52 x53 x54 x55 x56 x60 x61 x62 x63 x64 x65 x66 x67 x68 x69 x70 x71 x72 x73 x74 x75 x76 x77 x78 x79 x80 x81 x82 x83 x84 x85 x86 x87 x88 x89 x90 x91 x92 x93 x94 x95 x96 x97 x98 x99 x100 x101 x102 x103 x104 x105 x106 x107 x108 x109 x110 x111 x112 x113 x114 x115 x116 x117 x118 x119 x120 x121 x122 x123 x124 x125 x126 x127 x128 x129 x130 x131 x132 x133 x134 x135 x136 x137 x138 x139 x140 x141 x142 x143 x144 x145 x146 x147 x148 x149 x150 x151 x152 x153 x154 x155 x156 x157 x158 x159 x160 x161 x162 x163 x164 x165 x166 x167 x168 x169 x170 x171 x172 x173 x174 x175 x176 x177 x178 x179 x180 x181 x182 x183 x184 x185 x186 x187 x188 x189 x190 x191 x192 x193 x194 x195 x196 x197 x198 x199 x200 x201 x202 x203 x204 x205 x206 x207 x208 x209 x210 x211 x212 x213 x214 x215 : Value)
    (hK : ∀ (v13 v14 v15 v16 v17 v18 v19 v59 v60 v61 v62 v63 v64 v65 v66 v67 v68 v69 v70 v71 v72 v73 v74 v75 v76 v77 v78 v79 v80 v81 v82 v83 v84 v85 v86 v87 v88 v89 v90 v91 v92 v93 v94 v95 v96 v97 v98 v99 v100 v101 v102 v103 v104 v105 v106 v107 v108 v109 v110 v111 v112 v113 v114 v115 v116 : Value) (w'' : World), Placed w w'' g gw gb bm base Z (k + 1) (midN k d obs ++ [(headN d, zeros (lenN d))]) (ats ++ [(((flat (midN k d obs)).length : Nat) : Int)]) v13 v59 → K0 ⟨#[x0, x1, x2, x3, x4, x5, x6, x7, x8, x9, .pointer (some ⟨g, 0, none⟩), x11, .pointer (some ⟨bm, 0, none⟩), v13, v14, v15, v16, v17, v18, v19, x20, x21, x22, x23, x24, x25, x26, x27, x28, x29, x30, x31, x32, x33, x34, x35, x36, x37, x38, x39, x40, x41, x42, x43, x44, x45, x46, x47, x48, x49, x50, x51, x52, x53, x54, x55, x56, .slice (some ad) nn cN, .int .i64 (nn : Int), v59, v60, v61, v62, v63, v64, v65, v66, v67, v68, v69, v70, v71, v72, v73, v74, v75, v76, v77, v78, v79, v80, v81, v82, v83, v84, v85, v86, v87, v88, v89, v90, v91, v92, v93, v94, v95, v96, v97, v98, v99, v100, v101, v102, v103, v104, v105, v106, v107, v108, v109, v110, v111, v112, v113, v114, v115, v116, x117, x118, x119, x120, x121, x122, x123, x124, x125, x126, x127, x128, x129, x130, x131, x132, x133, x134, x135, x136, x137, x138, x139, x140, x141, x142, x143, x144, x145, x146, x147, x148, x149, x150, x151, x152, x153, x154, x155, x156, x157, x158, x159, x160, x161, x162, x163, x164, x165, x166, x167, x168, x169, x170, x171, x172, x173, x174, x175, x176, x177, x178, x179, x180, x181, x182, x183, x184, x185, x186, x187, x188, x189, x190, x191, x192, x193, x194, x195, x196, x197, x198, x199, x200, x201, x202, x203, x204, x205, x206, x207, x208, x209, x210, x211, x212, x213, x214, x215], []⟩ w'') (hk3 : ¬ k % 3 = 2) :
    Code.wp Tryz.prog (bloop 1) (Exit.then K0 Q0) ⟨#[x0, x1, x2, x3, x4, x5, x6, x7, x8, x9, .pointer (some ⟨g, 0, none⟩), x11, .pointer (some ⟨bm, 0, none⟩), .slice B k cap, x14, x15, x16, x17, x18, x19, x20, x21, x22, x23, x24, x25, x26, x27, x28, x29, x30, x31, x32, x33, x34, x35, x36, x37, x38, x39, x40, x41, x42, x43, x44, x45, x46, x47, x48, x49, x50, x51, x52, x53, x54, x55, x56, .slice (some ad) nn cN, .int .i64 (nn : Int), .int .i64 (k : Int), x60, x61, x62, x63, x64, x65, x66, x67, x68, x69, x70, x71, x72, x73, x74, x75, x76, x77, x78, x79, x80, x81, x82, x83, x84, x85, x86, x87, x88, x89, x90, x91, x92, x93, x94, x95, x96, x97, x98, x99, x100, x101, x102, x103, x104, x105, x106, x107, x108, x109, x110, x111, x112, x113, x114, x115, x116, x117, x118, x119, x120, x121, x122, x123, x124, x125, x126, x127, x128, x129, x130, x131, x132, x133, x134, x135, x136, x137, x138, x139, x140, x141, x142, x143, x144, x145, x146, x147, x148, x149, x150, x151, x152, x153, x154, x155, x156, x157, x158, x159, x160, x161, x162, x163, x164, x165, x166, x167, x168, x169, x170, x171, x172, x173, x174, x175, x176, x177, x178, x179, x180, x181, x182, x183, x184, x185, x186, x187, x188, x189, x190, x191, x192, x193, x194, x195, x196, x197, x198, x199, x200, x201, x202, x203, x204, x205, x206, x207, x208, x209, x210, x211, x212, x213, x214, x215], []⟩ wr := by
  obtain ⟨kd, eds, mr⟩ := d
  obtain ⟨f1, f2, f3, f4, f5, f6, f7, f8⟩ := node_len hf (by rw [hel]; exact hel2)
  have gN := good_node hf (by rw [hel]; exact hel2)
  have gF := good_fill hf
  have eL : lenN ⟨kd, eds, mr⟩ = (el : Int) + mr % 4 := by unfold lenN; simp only [hel]
  obtain ⟨⟨hk0, hk1⟩, ⟨hm0, hm1⟩, -⟩ := hf
  unfold szN at hroom
  simp only [hel] at f1 f2 f3 f4 f5 f6 f7 f8 gN gF eL hk0 hk1 hm0 hm1 c0 c1 c2 hroom
  rw [eL] at f1 f2 f3 gN
  have HEL := Lib.hid eL
  have HHel := Lib.hid hel
  have HP := Lib.hid PP
  have HK := Lib.hid hK
  have hlen := PP.len
  have hrw := PP.room
  simp only [List.length_append] at hlen
  have j0 : (0 : Int) ≤ (k : Int) := by omega
  have j1 : (k : Int) < (nn : Int) := by omega
  obtain ⟨X, hX⟩ : ∃ X : Obj, X = .cells #[.int .u8 kd, .slice E el ec, .int .u8 mr] 59 := ⟨_, rfl⟩
  have LX : Lies (wr.alloc X) wr.heap.size 59 [.int .u8 kd, .slice E el ec, .int .u8 mr] := by rw [hX]; exact Lies.new wr 59 [_, _, _]
  have HX := Lib.hid (HP.out.alloc X)
  have y0 : (wr.alloc X).cell? ⟨wr.heap.size, 0, none⟩ = some (.int .u8 kd) := LX.cell 0
  have y1 : (wr.alloc X).cell? ⟨wr.heap.size, 1, none⟩ = some (.slice E el ec) := LX.cell 1
  have y2 : (wr.alloc X).cell? ⟨wr.heap.size, 2, none⟩ = some (.int .u8 mr) := LX.cell 2
  have HLX := Lib.hid LX
  have HXX := Lib.hid hX
  clear LX HP PP hK eL hX hel
  conv => arg 2; whnf
  have hk3' : ((k : Int) % 3 == 2) = false := by rw [beq_eq_false_iff_ne]; omega
  have hmid : midN k ⟨kd, eds, mr⟩ obs = obs := by unfold midN; rw [if_neg hk3]
  rw [hmid] at HK
  clear hk3 hmid
  obtain ⟨Y, hY⟩ : ∃ Y : Obj, Y = .cells #[.int .i64 (kd % 15), .int .i64 ((el : Int) + mr % 4), .int .i64 (el : Int)] 64 := ⟨_, rfl⟩
  have LY : Lies ((wr.alloc X).alloc Y) (wr.heap.size + 1) 64 [.int .i64 (kd % 15), .int .i64 ((el : Int) + mr % 4), .int .i64 (el : Int)] := by rw [hY]; have := Lies.new (wr.alloc X) 64 [.int .i64 (kd % 15), .int .i64 ((el : Int) + mr % 4), .int .i64 (el : Int)]; (try rw [World.size_alloc] at this); exact this
  have HY := Lib.hid (HX.out.alloc Y)
  have q0 : ((wr.alloc X).alloc Y).cell? ⟨wr.heap.size + 1, 0, none⟩ = some (.int .i64 (kd % 15)) := LY.cell 0
  have q1 : ((wr.alloc X).alloc Y).cell? ⟨wr.heap.size + 1, 1, none⟩ = some (.int .i64 ((el : Int) + mr % 4)) := LY.cell 1
  have q2 : ((wr.alloc X).alloc Y).cell? ⟨wr.heap.size + 1, 2, none⟩ = some (.int .i64 (el : Int)) := LY.cell 2
  have HLY := Lib.hid LY
  have HYY := Lib.hid hY
  have PE := Lib.hid (place_eq (obs := obs) (tail := tail) gN (by omega))
  have PS := Lib.hid (by have := place_st HY.out.st (kd % 15) ((el : Int) + mr % 4) (el : Int); rw [PE.out] at this; exact this)
  have PF := Lib.hid HY.out.st.fine
  clear LY hY
  go_wp2_with fail
  rw [← HXX.out, ← HYY.out]
  refine PS.out.mono ?_
  rintro e w3 ⟨rfl, S3, E3⟩
  have C3 := clean_place (tail := tail) (k := kd % 15) (l := (el : Int) + mr % 4) (p := (el : Int)) HY.out.clean
  have L3 := (place_total obs tail (kd % 15) ((el : Int) + mr % 4) (el : Int)).trans HY.out.len
  rw [PE.out] at C3 L3
  have H3 := Lib.hid (HY.out.heap S3 E3 C3 L3)
  have hi3 := HY.out.hi
  have ro3 := HX.out.room
  (try rw [World.size_alloc] at ro3)
  have LY3 := E3.lies HLY.out (by omega) (by omega) (by omega)
  have z0 : w3.cell? ⟨wr.heap.size + 1, 0, none⟩ = some (.int .i64 (kd % 15)) := LY3.cell 0
  have z1 : w3.cell? ⟨wr.heap.size + 1, 1, none⟩ = some (.int .i64 ((el : Int) + mr % 4)) := LY3.cell 1
  have z2 : w3.cell? ⟨wr.heap.size + 1, 2, none⟩ = some (.int .i64 (el : Int)) := LY3.cell 2
  have m0 : w3.cell? ⟨bm, 0, none⟩ = some (.int .i64 (Z : Int)) := H3.out.box.cell 0
  have m1 : w3.cell? ⟨bm, 1, none⟩ = some (.slice A n c) := H3.out.box.cell 1
  have HLen := Lib.hid HY.out.len
  clear S3 E3 C3 L3 LY3 PS HLY hi3 ro3 q0 q1 q2
  go_wp2_with fail
  refine (rplace_any Z A n c obs tail PF.out H3.out.own H3.out.room H3.out.count HLen.out (by omega) (kd % 15) ((el : Int) + mr % 4) (el : Int)).mono ?_
  rintro e w4 ⟨⟨A4, n4, c4, xs4, rfl, hn4, O4, off4⟩, hb4⟩
  rw [PE.out] at hn4 O4 ⊢
  have LV : Lies (w4.alloc (.cells #[.int .i64 (Z : Int), .slice A4 n4 c4] 34)) w4.heap.size 34 [.int .i64 (Z : Int), .slice A4 n4 c4] := Lies.new w4 34 [_, _]
  have v0' : (w4.alloc (.cells #[.int .i64 (Z : Int), .slice A4 n4 c4] 34)).cell? ⟨w4.heap.size, 0, none⟩ = some (.int .i64 (Z : Int)) := LV.cell 0
  have v1' : (w4.alloc (.cells #[.int .i64 (Z : Int), .slice A4 n4 c4] 34)).cell? ⟨w4.heap.size, 1, none⟩ = some (.slice A4 n4 c4) := LV.cell 1
  have bV := on hb4 hb4.size (below_one w4 (.cells #[.int .i64 (Z : Int), .slice A4 n4 c4] 34))
  have H5 := Lib.hid (H3.out.ref bV (O4.kept (below_one w4 (.cells #[.int .i64 (Z : Int), .slice A4 n4 c4] 34))) hn4 off4)
  have bm4 := (H3.out.kept bV).box
  have r0 : (w4.alloc (.cells #[.int .i64 (Z : Int), .slice A4 n4 c4] 34)).cell? ⟨bm, 0, none⟩ = some (.int .i64 (Z : Int)) := bm4.cell 0
  have r1 : (w4.alloc (.cells #[.int .i64 (Z : Int), .slice A4 n4 c4] 34)).cell? ⟨bm, 1, none⟩ = some (.slice A n c) := bm4.cell 1
  have r2 := bm4.frozen 0
  have r3 := bm4.frozen 1
  have r4 := bm4.lt
  clear LV O4 off4 hb4 bV bm4 hn4 PF H3 z0 z1 z2 m0 m1
  obtain ⟨a5, ha5⟩ : ∃ a5 : Nat, (flat obs).length = a5 := ⟨_, rfl⟩
  rw [ha5]
  have HA5 := Lib.hid ha5
  clear ha5
  go_upto_region 20 with fail
  obtain ⟨w5, hw5⟩ : ∃ w5, ((w4.alloc (.cells #[.int .i64 (Z : Int), .slice A4 n4 c4] 34)).setCell ⟨bm, 0, none⟩ (.int .i64 (Z : Int))).setCell ⟨bm, 1, none⟩ (.slice A4 n4 c4) = w5 := ⟨_, rfl⟩
  rw [hw5]
  rw [hw5] at H5
  clear hw5 r0 r1 r2 r3 r4 v0' v1'
  have H6 := Lib.hid (H5.out.alloc (.cells #[.int .i64 (a5 : Int)] 3))
  have cc : (w5.alloc (.cells #[.int .i64 (a5 : Int)] 3)).cell? ⟨w5.heap.size, 0, none⟩ = some (.int .i64 (a5 : Int)) := (Lies.new w5 3 [.int .i64 (a5 : Int)]).cell 0
  have hab : ats.length = k := hk
  go_wp2_with (at_builtin; (have RV6 := H6.out.row); rw [← hab]; refine wpList_append_rv rfl (.tmp 112) (.tmp 114) rfl rfl RV6 H6.out.room (by omega) ⟨w5.heap.size, 0, none⟩ (a5 : Int) rfl cc ?_; intro B7 cap7 w7 R7 G7 M7; have H7 := Lib.hid (H6.out.append R7 G7 M7); clear R7 G7 M7 H6 H5 cc RV6)
  have FB := H7.out
  rw [← HA5.out] at FB
  have eH : packW (kd % 15) ((el : Int) + mr % 4) (el : Int) = headN ⟨kd, eds, mr⟩ := by unfold headN; rw [HEL.out]; simp only [HHel.out]
  rw [eH, ← HEL.out] at FB
  refine HK.out _ _ _ _ _ _ _ _ _ _ _ _ _ _ _ _ _ _ _ _ _ _ _ _ _ _ _ _ _ _ _ _ _ _ _ _ _ _ _ _ _ _ _ _ _ _ _ _ _ _ _ _ _ _ _ _ _ _ _ _ _ _ _ _ _ _ ?_
  exact ⟨_, _, _, _, _, _, _, by go_num, rfl, FB⟩
end Go.Proofs.YtklhdilbmpndkaaGreat

namespace Go.Proofs.YtklhdilbmpndkaaGreat
set_option maxRecDepth 20000
open Go.RowKit
set_option linter.unusedVariables false
set_option linter.unusedSimpArgs false

set_option maxRecDepth 1000000 in
set_option maxHeartbeats 4000000 in
theorem bplace_fill {K0 : Act → World → Prop} {Q0 : Exit → Act → World → Prop} (w wr : World) (g gw gb bm base Z k n c cap nn cN el ec : Nat) (ad : Addr) (obs : List Ob) (tail : List Int) (A B E : Option Addr) (xs : List Value) (ats : List Int) (d : Nd)
    (hf : d.fit) (hel : d.edges.length = el) (hel2 : el ≤ 10) (hkn : k < nn) (hnn : nn ≤ 14) (hk : ats.length = k) (hroom : (flat obs).length + szN d < Z) (hZ : Z ≤ 1000)
    (PP : Bu w wr g gw gb bm base Z obs tail obs A n c xs B cap ats)
    (c0 : wr.cell? (ad.add (k * 3)) = some (.int .u8 d.kind)) (c1 : wr.cell? ⟨(ad.add (k * 3)).block, (ad.add (k * 3)).off + 1, none⟩ = some (.slice E el ec)) (c2 : wr.cell? ⟨(ad.add (k * 3)).block, (ad.add (k * 3)).off + 2, none⟩ = some (.int .u8 d.more))
    (x0 x1 x2 x3 x4 x5 x6 x7 x8 x9 x11 x14 x15 x16 x17 x18 x19 x20 x21 x22 x23 x24 x25 x26 x27 x28 x29 x30 x31 x32 x33 x34 x35 x36 x37 x38 x39 x40 x41 x42 x43 x44 x45 x46 x47 x48 x49 x50 x51 x52 x53 x54 x55 x56 x60 x61 x62 x63 x64 x65 x66 x67 x68 x69 x70 x71 x72 x73 x74 x75 x76 x77 x78 x79 x80 x81 x82 x83 x84 x85 x86 x87 x88 x89 x90 x91 x92 x93 x94 x95 x96 x97 x98 x99 x100 x101 x102 x103 x104 x105 x106 x107 x108 x109 x110 x111 x112 x113 x114 x115 x116 x117 x118 x119 x120 x121 x122 x123 x124 x125 x126 x127 x128 x129 x130 x131 x132 x133 x134 x135 x136 x137 x138 x139 x140 x141 x142 x143 x144 x145 x146 x147 x148 x149 x150 x151 x152 x153 x154 x155 x156 x157 x158 x159 x160 x161 x162 x163 x164 x165 x166 x167 x168 x169 x170 x171 x172 x173 x174 x175 x176 x177 x178 x179 x180 x181 x182 x183 x184 x185 x186 x187 x188 x189 x190 x191 x192 x193 x194 x195 x196 x197 x198 x199 x200 x201 x202 x203 x204 x205 x206 x207 x208 x209 x210 x211 x212 x213 x214 x215 : Value)
    (hK : ∀ (v13 v14 v15 v16 v17 v18 v19 v59 v60 v61 v62 v63 v64 v65 v66 v67 v68 v69 v70 v71 v72 v73 v74 v75 v76 v77 v78 v79 v80 v81 v82 v83 v84 v85 v86 v87 v88 v89 v90 v91 v92 v93 v94 v95 v96 v97 v98 v99 v100 v101 v102 v103 v104 v105 v106 v107 v108 v109 v110 v111 v112 v113 v114 v115 v116 : Value) (w'' : World), Placed w w'' g gw gb bm base Z (k + 1) (midN k d obs ++ [(headN d, zeros (lenN d))]) (ats ++ [(((flat (midN k d obs)).length : Nat) : Int)]) v13 v59 → K0 ⟨#[x0, x1, x2, x3, x4, x5, x6, x7, x8, x9, .pointer (some ⟨g, 0, none⟩), x11, .pointer (some ⟨bm, 0, none⟩), v13, v14, v15, v16, v17, v18, v19, x20, x21, x22, x23, x24, x25, x26, x27, x28, x29, x30, x31, x32, x33, x34, x35, x36, x37, x38, x39, x40, x41, x42, x43, x44, x45, x46, x47, x48, x49, x50, x51, x52, x53, x54, x55, x56, .slice (some ad) nn cN, .int .i64 (nn : Int), v59, v60, v61, v62, v63, v64, v65, v66, v67, v68, v69, v70, v71, v72, v73, v74, v75, v76, v77, v78, v79, v80, v81, v82, v83, v84, v85, v86, v87, v88, v89, v90, v91, v92, v93, v94, v95, v96, v97, v98, v99, v100, v101, v102, v103, v104, v105, v106, v107, v108, v109, v110, v111, v112, v113, v114, v115, v116, x117, x118, x119, x120, x121, x122, x123, x124, x125, x126, x127, x128, x129, x130, x131, x132, x133, x134, x135, x136, x137, x138, x139, x140, x141, x142, x143, x144, x145, x146, x147, x148, x149, x150, x151, x152, x153, x154, x155, x156, x157, x158, x159, x160, x161, x162, x163, x164, x165, x166, x167, x168, x169, x170, x171, x172, x173, x174, x175, x176, x177, x178, x179, x180, x181, x182, x183, x184, x185, x186, x187, x188, x189, x190, x191, x192, x193, x194, x195, x196, x197, x198, x199, x200, x201, x202, x203, x204, x205, x206, x207, x208, x209, x210, x211, x212, x213, x214, x215], []⟩ w'') (hk3 : k % 3 = 2) :
    Code.wp Tryz.prog (bloop 1) (Exit.then K0 Q0) ⟨#[x0, x1, x2, x3, x4, x5, x6, x7, x8, x9, .pointer (some ⟨g, 0, none⟩), x11, .pointer (some ⟨bm, 0, none⟩), .slice B k cap, x14, x15, x16, x17, x18, x19, x20, x21, x22, x23, x24, x25, x26, x27, x28, x29, x30, x31, x32, x33, x34, x35, x36, x37, x38, x39, x40, x41, x42, x43, x44, x45, x46, x47, x48, x49, x50, x51, x52, x53, x54, x55, x56, .slice (some ad) nn cN, .int .i64 (nn : Int), .int .i64 (k : Int), x60, x61, x62, x63, x64, x65, x66, x67, x68, x69, x70, x71, x72, x73, x74, x75, x76, x77, x78, x79, x80, x81, x82, x83, x84, x85, x86, x87, x88, x89, x90, x91, x92, x93, x94, x95, x96, x97, x98, x99, x100, x101, x102, x103, x104, x105, x106, x107, x108, x109, x110, x111, x112, x113, x114, x115, x116, x117, x118, x119, x120, x121, x122, x123, x124, x125, x126, x127, x128, x129, x130, x131, x132, x133, x134, x135, x136, x137, x138, x139, x140, x141, x142, x143, x144, x145, x146, x147, x148, x149, x150, x151, x152, x153, x154, x155, x156, x157, x158, x159, x160, x161, x162, x163, x164, x165, x166, x167, x168, x169, x170, x171, x172, x173, x174, x175, x176, x177, x178, x179, x180, x181, x182, x183, x184, x185, x186, x187, x188, x189, x190, x191, x192, x193, x194, x195, x196, x197, x198, x199, x200, x201, x202, x203, x204, x205, x206, x207, x208, x209, x210, x211, x212, x213, x214, x215], []⟩ wr := by
  obtain ⟨kd, eds, mr⟩ := d
  obtain ⟨f1, f2, f3, f4, f5, f6, f7, f8⟩ := node_len hf (by rw [hel]; exact hel2)
  have gN := good_node hf (by rw [hel]; exact hel2)
  have gF := good_fill hf
  have eL : lenN ⟨kd, eds, mr⟩ = (el : Int) + mr % 4 := by unfold lenN; simp only [hel]
  obtain ⟨⟨hk0, hk1⟩, ⟨hm0, hm1⟩, -⟩ := hf
  unfold szN at hroom
  simp only [hel] at f1 f2 f3 f4 f5 f6 f7 f8 gN gF eL hk0 hk1 hm0 hm1 c0 c1 c2 hroom
  rw [eL] at f1 f2 f3 gN
  have HEL := Lib.hid eL
  have HHel := Lib.hid hel
  have HP := Lib.hid PP
  have HK := Lib.hid hK
  have hlen := PP.len
  have hrw := PP.room
  simp only [List.length_append] at hlen
  have j0 : (0 : Int) ≤ (k : Int) := by omega
  have j1 : (k : Int) < (nn : Int) := by omega
  obtain ⟨X, hX⟩ : ∃ X : Obj, X = .cells #[.int .u8 kd, .slice E el ec, .int .u8 mr] 59 := ⟨_, rfl⟩
  have LX : Lies (wr.alloc X) wr.heap.size 59 [.int .u8 kd, .slice E el ec, .int .u8 mr] := by rw [hX]; exact Lies.new wr 59 [_, _, _]
  have HX := Lib.hid (HP.out.alloc X)
  have y0 : (wr.alloc X).cell? ⟨wr.heap.size, 0, none⟩ = some (.int .u8 kd) := LX.cell 0
  have y1 : (wr.alloc X).cell? ⟨wr.heap.size, 1, none⟩ = some (.slice E el ec) := LX.cell 1
  have y2 : (wr.alloc X).cell? ⟨wr.heap.size, 2, none⟩ = some (.int .u8 mr) := LX.cell 2
  have HLX := Lib.hid LX
  have HXX := Lib.hid hX
  clear LX HP PP hK eL hX hel
  conv => arg 2; whnf
  have hk3' : ((k : Int) % 3 == 2) = true := by rw [beq_iff_eq]; omega
  have hmid : midN k ⟨kd, eds, mr⟩ obs = obs ++ [(packW 15 (kd % 2) 0, zeros (kd % 2))] := by unfold midN; rw [if_pos hk3]
  rw [hmid] at HK
  clear hk3 hmid
  have PEf := Lib.hid (place_eq (obs := obs) (tail := tail) gF (by omega))
  have PSf := Lib.hid (by have := place_st HX.out.st 15 (kd % 2) 0; rw [PEf.out] at this; exact this)
  have PFf := Lib.hid HX.out.st.fine
  go_wp2_with fail
  rw [← HXX.out]
  refine PSf.out.mono ?_
  rintro e u3 ⟨rfl, S3, E3⟩
  have C3 := clean_place (tail := tail) (k := 15) (l := kd % 2) (p := 0) HX.out.clean
  have L3 := (place_total obs tail 15 (kd % 2) 0).trans HX.out.len
  rw [PEf.out] at C3 L3
  have G3 := Lib.hid (HX.out.heap S3 E3 C3 L3)
  have hi3 := HX.out.hi
  have LX3 := E3.lies HLX.out (by omega) (by omega) (by omega)
  have hbx := HX.out.box
  have hne : wr.heap.size ≠ bm := HLX.out.apart hbx (by decide)
  have p0 : u3.cell? ⟨wr.heap.size, 0, none⟩ = some (.int .u8 kd) := LX3.cell 0
  have m0 : u3.cell? ⟨bm, 0, none⟩ = some (.int .i64 (Z : Int)) := G3.out.box.cell 0
  have m1 : u3.cell? ⟨bm, 1, none⟩ = some (.slice A n c) := G3.out.box.cell 1
  have HLenf := Lib.hid HX.out.len
  have HLX3 := Lib.hid LX3
  clear S3 E3 C3 L3 LX3 PSf HLX hi3 y0 y1 y2 hbx c0 c1 c2
  go_wp2_with fail
  refine (rplace_any Z A n c obs tail PFf.out G3.out.own G3.out.room G3.out.count HLenf.out (by omega) 15 (kd % 2) 0).mono ?_
  rintro e u4 ⟨⟨Af, nf, cf, xsf, rfl, hnf, Of, offf⟩, hbf⟩
  rw [PEf.out] at hnf Of ⊢
  have G5 := Lib.hid (G3.out.ref hbf Of hnf offf)
  have bm4 := (G3.out.kept hbf).box
  have r0 : u4.cell? ⟨bm, 0, none⟩ = some (.int .i64 (Z : Int)) := bm4.cell 0
  have r1 : u4.cell? ⟨bm, 1, none⟩ = some (.slice A n c) := bm4.cell 1
  have r2 := bm4.frozen 0
  have r3 := bm4.frozen 1
  have r4 := bm4.lt
  have LX5 := Lib.hid (((HLX3.out.below hbf HLX3.out.lt).far (p := ⟨bm, 0, none⟩) hne (.int .i64 (Z : Int))).far (p := ⟨bm, 1, none⟩) hne (.slice Af nf cf))
  clear Of offf hbf bm4 hnf PFf G3 HLX3 m0 m1 p0 HX
  go_upto_region 16 with fail
  obtain ⟨u5, hu5⟩ : ∃ u5, (u4.setCell ⟨bm, 0, none⟩ (.int .i64 (Z : Int))).setCell ⟨bm, 1, none⟩ (.slice Af nf cf) = u5 := ⟨_, rfl⟩
  rw [hu5]
  rw [hu5] at G5 LX5
  clear hu5 r0 r1 r2 r3 r4
  have y0 : u5.cell? ⟨wr.heap.size, 0, none⟩ = some (.int .u8 kd) := LX5.out.cell 0
  have y1 : u5.cell? ⟨wr.heap.size, 1, none⟩ = some (.slice E el ec) := LX5.out.cell 1
  have y2 : u5.cell? ⟨wr.heap.size, 2, none⟩ = some (.int .u8 mr) := LX5.out.cell 2
  have hlen5 := G5.out.len
  have hfo := flat_one obs (packW 15 (kd % 2) 0) (kd % 2)
  simp only [List.length_append, List.length_drop] at hlen5
  have htl : (List.drop (1 + (kd % 2).toNat) tail).length = tail.length - (1 + (kd % 2).toNat) := by simp
  obtain ⟨ob5, hob5⟩ : ∃ ob5, obs ++ [(packW 15 (kd % 2) 0, zeros (kd % 2))] = ob5 := ⟨_, rfl⟩
  obtain ⟨tl5, htl5⟩ : ∃ tl5, List.drop (1 + (kd % 2).toNat) tail = tl5 := ⟨_, rfl⟩
  rw [hob5, htl5] at G5
  rw [hob5] at HK hfo
  rw [htl5] at htl
  clear hob5 htl5 hlen5 PEf
  obtain ⟨Y, hY⟩ : ∃ Y : Obj, Y = .cells #[.int .i64 (kd % 15), .int .i64 ((el : Int) + mr % 4), .int .i64 (el : Int)] 64 := ⟨_, rfl⟩
  have LY : Lies (u5.alloc Y) (u5.heap.size) 64 [.int .i64 (kd % 15), .int .i64 ((el : Int) + mr % 4), .int .i64 (el : Int)] := by rw [hY]; have := Lies.new u5 64 [.int .i64 (kd % 15), .int .i64 ((el : Int) + mr % 4), .int .i64 (el : Int)]; (try rw [World.size_alloc] at this); exact this
  have HY := Lib.hid (G5.out.alloc Y)
  have q0 : (u5.alloc Y).cell? ⟨u5.heap.size, 0, none⟩ = some (.int .i64 (kd % 15)) := LY.cell 0
  have q1 : (u5.alloc Y).cell? ⟨u5.heap.size, 1, none⟩ = some (.int .i64 ((el : Int) + mr % 4)) := LY.cell 1
  have q2 : (u5.alloc Y).cell? ⟨u5.heap.size, 2, none⟩ = some (.int .i64 (el : Int)) := LY.cell 2
  have HLY := Lib.hid LY
  have HYY := Lib.hid hY
  have PE := Lib.hid (place_eq (obs := ob5) (tail := tl5) gN (by omega))
  have PS := Lib.hid (by have := place_st HY.out.st (kd % 15) ((el : Int) + mr % 4) (el : Int); rw [PE.out] at this; exact this)
  have PF := Lib.hid HY.out.st.fine
  clear LY hY
  go_wp2_with fail
  rw [← HYY.out]
  refine PS.out.mono ?_
  rintro e w3 ⟨rfl, S3, E3⟩
  have C3 := clean_place (tail := tl5) (k := kd % 15) (l := (el : Int) + mr % 4) (p := (el : Int)) HY.out.clean
  have L3 := (place_total ob5 tl5 (kd % 15) ((el : Int) + mr % 4) (el : Int)).trans HY.out.len
  rw [PE.out] at C3 L3
  have H3 := Lib.hid (HY.out.heap S3 E3 C3 L3)
  have hi3 := HY.out.hi
  have ro3 := G5.out.room
  (try rw [World.size_alloc] at ro3)
  have LY3 := E3.lies HLY.out (by omega) (by omega) (by omega)
  have z0 : w3.cell? ⟨u5.heap.size, 0, none⟩ = some (.int .i64 (kd % 15)) := LY3.cell 0
  have z1 : w3.cell? ⟨u5.heap.size, 1, none⟩ = some (.int .i64 ((el : Int) + mr % 4)) := LY3.cell 1
  have z2 : w3.cell? ⟨u5.heap.size, 2, none⟩ = some (.int .i64 (el : Int)) := LY3.cell 2
  have m0 : w3.cell? ⟨bm, 0, none⟩ = some (.int .i64 (Z : Int)) := H3.out.box.cell 0
  have m1 : w3.cell? ⟨bm, 1, none⟩ = some (.slice Af nf cf) := H3.out.box.cell 1
  have HLen := Lib.hid HY.out.len
  clear S3 E3 C3 L3 LY3 PS HLY hi3 ro3 q0 q1 q2
  go_wp2_with fail
  refine (rplace_any Z Af nf cf ob5 tl5 PF.out H3.out.own H3.out.room H3.out.count HLen.out (by omega) (kd % 15) ((el : Int) + mr % 4) (el : Int)).mono ?_
  rintro e w4 ⟨⟨A4, n4, c4, xs4, rfl, hn4, O4, off4⟩, hb4⟩
  rw [PE.out] at hn4 O4 ⊢
  have LV : Lies (w4.alloc (.cells #[.int .i64 (Z : Int), .slice A4 n4 c4] 34)) w4.heap.size 34 [.int .i64 (Z : Int), .slice A4 n4 c4] := Lies.new w4 34 [_, _]
  have v0' : (w4.alloc (.cells #[.int .i64 (Z : Int), .slice A4 n4 c4] 34)).cell? ⟨w4.heap.size, 0, none⟩ = some (.int .i64 (Z : Int)) := LV.cell 0
  have v1' : (w4.alloc (.cells #[.int .i64 (Z : Int), .slice A4 n4 c4] 34)).cell? ⟨w4.heap.size, 1, none⟩ = some (.slice A4 n4 c4) := LV.cell 1
  have bV := on hb4 hb4.size (below_one w4 (.cells #[.int .i64 (Z : Int), .slice A4 n4 c4] 34))
  have H5 := Lib.hid (H3.out.ref bV (O4.kept (below_one w4 (.cells #[.int .i64 (Z : Int), .slice A4 n4 c4] 34))) hn4 off4)
  have bm4 := (H3.out.kept bV).box
  have r0 : (w4.alloc (.cells #[.int .i64 (Z : Int), .slice A4 n4 c4] 34)).cell? ⟨bm, 0, none⟩ = some (.int .i64 (Z : Int)) := bm4.cell 0
  have r1 : (w4.alloc (.cells #[.int .i64 (Z : Int), .slice A4 n4 c4] 34)).cell? ⟨bm, 1, none⟩ = some (.slice Af nf cf) := bm4.cell 1
  have r2 := bm4.frozen 0
  have r3 := bm4.frozen 1
  have r4 := bm4.lt
  clear LV O4 off4 hb4 bV bm4 hn4 PF H3 z0 z1 z2 m0 m1
  obtain ⟨a5, ha5⟩ : ∃ a5 : Nat, (flat ob5).length = a5 := ⟨_, rfl⟩
  rw [ha5]
  have HA5 := Lib.hid ha5
  clear ha5
  go_upto_region 20 with fail
  obtain ⟨w5, hw5⟩ : ∃ w5, ((w4.alloc (.cells #[.int .i64 (Z : Int), .slice A4 n4 c4] 34)).setCell ⟨bm, 0, none⟩ (.int .i64 (Z : Int))).setCell ⟨bm, 1, none⟩ (.slice A4 n4 c4) = w5 := ⟨_, rfl⟩
  rw [hw5]
  rw [hw5] at H5
  clear hw5 r0 r1 r2 r3 r4 v0' v1'
  have H6 := Lib.hid (H5.out.alloc (.cells #[.int .i64 (a5 : Int)] 3))
  have cc : (w5.alloc (.cells #[.int .i64 (a5 : Int)] 3)).cell? ⟨w5.heap.size, 0, none⟩ = some (.int .i64 (a5 : Int)) := (Lies.new w5 3 [.int .i64 (a5 : Int)]).cell 0
  have hab : ats.length = k := hk
  go_wp2_with (at_builtin; (have RV6 := H6.out.row); rw [← hab]; refine wpList_append_rv rfl (.tmp 112) (.tmp 114) rfl rfl RV6 H6.out.room (by omega) ⟨w5.heap.size, 0, none⟩ (a5 : Int) rfl cc ?_; intro B7 cap7 w7 R7 G7 M7; have H7 := Lib.hid (H6.out.append R7 G7 M7); clear R7 G7 M7 H6 H5 cc RV6)
  have FB := H7.out
  rw [← HA5.out] at FB
  have eH : packW (kd % 15) ((el : Int) + mr % 4) (el : Int) = headN ⟨kd, eds, mr⟩ := by unfold headN; rw [HEL.out]; simp only [HHel.out]
  rw [eH, ← HEL.out] at FB
  refine HK.out _ _ _ _ _ _ _ _ _ _ _ _ _ _ _ _ _ _ _ _ _ _ _ _ _ _ _ _ _ _ _ _ _ _ _ _ _ _ _ _ _ _ _ _ _ _ _ _ _ _ _ _ _ _ _ _ _ _ _ _ _ _ _ _ _ _ ?_
  exact ⟨_, _, _, _, _, _, _, by go_num, rfl, FB⟩
end Go.Proofs.YtklhdilbmpndkaaGreat
