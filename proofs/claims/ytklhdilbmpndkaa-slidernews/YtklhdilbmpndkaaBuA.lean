/- A round of Build's loop that places objects. -/
import Derived.Test.YtklhdilbmpndkaaBuM
import Derived.Deep.CutRange
import Derived.Deep.CutBlock
namespace Go.Proofs.Ytklhdilbmpndkaa
set_option maxRecDepth 20000
open Go.RowKit
set_option linter.unusedVariables false
set_option linter.unusedSimpArgs false

/-- The bodies of a text's loops, in its order. -/
def loopsOf : Code → List Code
  | .loop c => c :: loopsOf c
  | .seq a b => loopsOf a ++ loopsOf b
  | .block _ c => loopsOf c
  | .scope c => loopsOf c
  | .cond _ a b => loopsOf a ++ loopsOf b
  | _ => []
noncomputable def bloop (i : Nat) : Code := ((Try.f8.body.map loopsOf).getD []).getD i .skip

/-- Behind a round of placing. -/
def Placed (w w'' : World) (g gw gb bm base Z k : Nat) (obs : List Ob) (ats : List Int) (v13 v59 : Value) : Prop :=
  ∃ (tail : List Int) (A : Option Addr) (n c : Nat) (xs : List Value) (B : Option Addr) (cap : Nat), v59 = .int .i64 (k : Int) ∧ v13 = .slice B k cap ∧ Bu w w'' g gw gb bm base Z obs tail obs A n c xs B cap ats

set_option maxRecDepth 1000000 in
set_option maxHeartbeats 4000000 in
theorem bplace_plain {K0 : Act → World → Prop} {Q0 : Exit → Act → World → Prop} (w wr : World) (g gw gb bm base Z k n c cap nn cN el ec : Nat) (ad : Addr) (obs : List Ob) (tail : List Int) (A B E : Option Addr) (xs : List Value) (ats : List Int) (d : Nd)
    (hf : d.fit) (hel : d.edges.length = el) (hel2 : el ≤ 10) (hkn : k < nn) (hnn : nn ≤ 14) (hk : ats.length = k) (hroom : (flat obs).length + szN d < Z) (hZ : Z ≤ 1000)
    (PP : Bu w wr g gw gb bm base Z obs tail obs A n c xs B cap ats)
    (c0 : wr.cell? (ad.add (k * 3)) = some (.int .u8 d.kind)) (c1 : wr.cell? ⟨(ad.add (k * 3)).block, (ad.add (k * 3)).off + 1, none⟩ = some (.slice E el ec)) (c2 : wr.cell? ⟨(ad.add (k * 3)).block, (ad.add (k * 3)).off + 2, none⟩ = some (.int .u8 d.more))
    (x0 x1 x2 x3 x4 x5 x6 x7 x8 x9 x11 x14 x15 x16 x17 x18 x19 x20 x21 x22 x23 x24 x25 x26 x27 x28 x29 x30 x31 x32 x33 x34 x35 x36 x37 x38 x39 x40 x41 x42 x43 x44 x45 x46 x47 x48 x49 x50 x51 x52 x53 x54 x55 x56 x60 x61 x62 x63 x64 x65 x66 x67 x68 x69 x70 x71 x72 x73 x74 x75 x76 x77 x78 x79 x80 x81 x82 x83 x84 x85 x86 x87 x88 x89 x90 x91 x92 x93 x94 x95 x96 x97 x98 x99 x100 x101 x102 x103 x104 x105 x106 x107 x108 x109 x110 x111 x112 x113 x114 x115 x116 x117 x118 x119 x120 x121 x122 x123 x124 x125 x126 x127 x128 x129 x130 x131 x132 x133 x134 x135 x136 x137 x138 x139 x140 x141 x142 x143 x144 x145 x146 x147 x148 x149 x150 x151 x152 x153 x154 x155 x156 x157 x158 x159 x160 x161 x162 x163 x164 x165 x166 x167 x168 x169 x170 x171 x172 x173 x174 x175 x176 x177 x178 x179 x180 x181 x182 x183 x184 x185 x186 x187 x188 x189 x190 x191 x192 x193 x194 x195 x196 x197 x198 x199 x200 x201 x202 x203 x204 x205 x206 x207 x208 x209 x210 x211 x212 x213 x214 x215 : Value)
    (hK : ∀ (v13 v14 v15 v16 v17 v18 v19 v59 v60 v61 v62 v63 v64 v65 v66 v67 v68 v69 v70 v71 v72 v73 v74 v75 v76 v77 v78 v79 v80 v81 v82 v83 v84 v85 v86 v87 v88 v89 v90 v91 v92 v93 v94 v95 v96 v97 v98 v99 v100 v101 v102 v103 v104 v105 v106 v107 v108 v109 v110 v111 v112 v113 v114 v115 v116 : Value) (w'' : World), Placed w w'' g gw gb bm base Z (k + 1) (midN k d obs ++ [(headN d, zeros (lenN d))]) (ats ++ [(((flat (midN k d obs)).length : Nat) : Int)]) v13 v59 → K0 ⟨#[x0, x1, x2, x3, x4, x5, x6, x7, x8, x9, .pointer (some ⟨g, 0, none⟩), x11, .pointer (some ⟨bm, 0, none⟩), v13, v14, v15, v16, v17, v18, v19, x20, x21, x22, x23, x24, x25, x26, x27, x28, x29, x30, x31, x32, x33, x34, x35, x36, x37, x38, x39, x40, x41, x42, x43, x44, x45, x46, x47, x48, x49, x50, x51, x52, x53, x54, x55, x56, .slice (some ad) nn cN, .int .i64 (nn : Int), v59, v60, v61, v62, v63, v64, v65, v66, v67, v68, v69, v70, v71, v72, v73, v74, v75, v76, v77, v78, v79, v80, v81, v82, v83, v84, v85, v86, v87, v88, v89, v90, v91, v92, v93, v94, v95, v96, v97, v98, v99, v100, v101, v102, v103, v104, v105, v106, v107, v108, v109, v110, v111, v112, v113, v114, v115, v116, x117, x118, x119, x120, x121, x122, x123, x124, x125, x126, x127, x128, x129, x130, x131, x132, x133, x134, x135, x136, x137, x138, x139, x140, x141, x142, x143, x144, x145, x146, x147, x148, x149, x150, x151, x152, x153, x154, x155, x156, x157, x158, x159, x160, x161, x162, x163, x164, x165, x166, x167, x168, x169, x170, x171, x172, x173, x174, x175, x176, x177, x178, x179, x180, x181, x182, x183, x184, x185, x186, x187, x188, x189, x190, x191, x192, x193, x194, x195, x196, x197, x198, x199, x200, x201, x202, x203, x204, x205, x206, x207, x208, x209, x210, x211, x212, x213, x214, x215], []⟩ w'') (hk3 : ¬ k % 3 = 2) :
    Code.wp Try.prog (bloop 1) (Exit.then K0 Q0) ⟨#[x0, x1, x2, x3, x4, x5, x6, x7, x8, x9, .pointer (some ⟨g, 0, none⟩), x11, .pointer (some ⟨bm, 0, none⟩), .slice B k cap, x14, x15, x16, x17, x18, x19, x20, x21, x22, x23, x24, x25, x26, x27, x28, x29, x30, x31, x32, x33, x34, x35, x36, x37, x38, x39, x40, x41, x42, x43, x44, x45, x46, x47, x48, x49, x50, x51, x52, x53, x54, x55, x56, .slice (some ad) nn cN, .int .i64 (nn : Int), .int .i64 (k : Int), x60, x61, x62, x63, x64, x65, x66, x67, x68, x69, x70, x71, x72, x73, x74, x75, x76, x77, x78, x79, x80, x81, x82, x83, x84, x85, x86, x87, x88, x89, x90, x91, x92, x93, x94, x95, x96, x97, x98, x99, x100, x101, x102, x103, x104, x105, x106, x107, x108, x109, x110, x111, x112, x113, x114, x115, x116, x117, x118, x119, x120, x121, x122, x123, x124, x125, x126, x127, x128, x129, x130, x131, x132, x133, x134, x135, x136, x137, x138, x139, x140, x141, x142, x143, x144, x145, x146, x147, x148, x149, x150, x151, x152, x153, x154, x155, x156, x157, x158, x159, x160, x161, x162, x163, x164, x165, x166, x167, x168, x169, x170, x171, x172, x173, x174, x175, x176, x177, x178, x179, x180, x181, x182, x183, x184, x185, x186, x187, x188, x189, x190, x191, x192, x193, x194, x195, x196, x197, x198, x199, x200, x201, x202, x203, x204, x205, x206, x207, x208, x209, x210, x211, x212, x213, x214, x215], []⟩ wr := by
  obtain ⟨kd, eds, mr⟩ := d
  obtain ⟨f1, f2, f3, f4, f5, f6, f7, f8⟩ := node_len hf (by rw [hel]; exact hel2)
  have gN := good_node hf (by rw [hel]; exact hel2)
  have gF := good_fill hf
  have eL : lenN ⟨kd, eds, mr⟩ = (el : Int) + mr % 4 := by unfold lenN; simp only [hel]
  obtain ⟨⟨hk0, hk1⟩, ⟨hm0, hm1⟩, -⟩ := hf
  unfold szN at hroom
  simp only [hel] at f1 f2 f3 f4 f5 f6 f7 f8 gN gF eL hk0 hk1 hm0 hm1 c0 c1 c2 hroom
  rw [eL] at f1 f2 f3 gN
  have HEL := Lib.hid eL
  have HHel := Lib.hid hel
  have HP := Lib.hid PP
  have HK := Lib.hid hK
  have hlen := PP.len
  have hrw := PP.room
  simp only [List.length_append] at hlen
  have j0 : (0 : Int) ≤ (k : Int) := by omega
  have j1 : (k : Int) < (nn : Int) := by omega
  obtain ⟨X, hX⟩ : ∃ X : Obj, X = .cells #[.int .u8 kd, .slice E el ec, .int .u8 mr] 74 := ⟨_, rfl⟩
  have LX : Lies (wr.alloc X) wr.heap.size 74 [.int .u8 kd, .slice E el ec, .int .u8 mr] := by rw [hX]; exact Lies.new wr 74 [_, _, _]
  have HX := Lib.hid (HP.out.alloc X)
  have y0 : (wr.alloc X).cell? ⟨wr.heap.size, 0, none⟩ = some (.int .u8 kd) := LX.cell 0
  have y1 : (wr.alloc X).cell? ⟨wr.heap.size, 1, none⟩ = some (.slice E el ec) := LX.cell 1
  have y2 : (wr.alloc X).cell? ⟨wr.heap.size, 2, none⟩ = some (.int .u8 mr) := LX.cell 2
  have HLX := Lib.hid LX
  have HXX := Lib.hid hX
  clear LX HP PP hK eL hX hel
  conv => arg 2; whnf
  have hk3' : ((k : Int) % 3 == 2) = false := by rw [beq_eq_false_iff_ne]; omega
  have hmid : midN k ⟨kd, eds, mr⟩ obs = obs := by unfold midN; rw [if_neg hk3]
  rw [hmid] at HK
  clear hk3 hmid
  obtain ⟨Y, hY⟩ : ∃ Y : Obj, Y = .cells #[.int .i64 (kd % 15), .int .i64 ((el : Int) + mr % 4), .int .i64 (el : Int)] 45 := ⟨_, rfl⟩
  have LY : Lies ((wr.alloc X).alloc Y) (wr.heap.size + 1) 45 [.int .i64 (kd % 15), .int .i64 ((el : Int) + mr % 4), .int .i64 (el : Int)] := by rw [hY]; have := Lies.new (wr.alloc X) 45 [.int .i64 (kd % 15), .int .i64 ((el : Int) + mr % 4), .int .i64 (el : Int)]; (try rw [World.size_alloc] at this); exact this
  have HY := Lib.hid (HX.out.alloc Y)
  have q0 : ((wr.alloc X).alloc Y).cell? ⟨wr.heap.size + 1, 0, none⟩ = some (.int .i64 (kd % 15)) := LY.cell 0
  have q1 : ((wr.alloc X).alloc Y).cell? ⟨wr.heap.size + 1, 1, none⟩ = some (.int .i64 ((el : Int) + mr % 4)) := LY.cell 1
  have q2 : ((wr.alloc X).alloc Y).cell? ⟨wr.heap.size + 1, 2, none⟩ = some (.int .i64 (el : Int)) := LY.cell 2
  have HLY := Lib.hid LY
  have HYY := Lib.hid hY
  have PE := Lib.hid (place_eq (obs := obs) (tail := tail) gN (by omega))
  have PS := Lib.hid (by have := place_st HY.out.st (kd % 15) ((el : Int) + mr % 4) (el : Int); rw [PE.out] at this; exact this)
  have PF := Lib.hid HY.out.st.fine
  clear LY hY
  go_wp2_with fail
  rw [← HXX.out, ← HYY.out]
  refine PS.out.mono ?_
  rintro e w3 ⟨rfl, S3, E3⟩
  have C3 := clean_place (tail := tail) (k := kd % 15) (l := (el : Int) + mr % 4) (p := (el : Int)) HY.out.clean
  have L3 := (place_total obs tail (kd % 15) ((el : Int) + mr % 4) (el : Int)).trans HY.out.len
  rw [PE.out] at C3 L3
  have H3 := Lib.hid (HY.out.heap S3 E3 C3 L3)
  have hi3 := HY.out.hi
  have ro3 := HX.out.room
  (try rw [World.size_alloc] at ro3)
  have LY3 := E3.lies HLY.out (by omega) (by omega) (by omega)
  have z0 : w3.cell? ⟨wr.heap.size + 1, 0, none⟩ = some (.int .i64 (kd % 15)) := LY3.cell 0
  have z1 : w3.cell? ⟨wr.heap.size + 1, 1, none⟩ = some (.int .i64 ((el : Int) + mr % 4)) := LY3.cell 1
  have z2 : w3.cell? ⟨wr.heap.size + 1, 2, none⟩ = some (.int .i64 (el : Int)) := LY3.cell 2
  have m0 : w3.cell? ⟨bm, 0, none⟩ = some (.int .i64 (Z : Int)) := H3.out.box.cell 0
  have m1 : w3.cell? ⟨bm, 1, none⟩ = some (.slice A n c) := H3.out.box.cell 1
  have HLen := Lib.hid HY.out.len
  clear S3 E3 C3 L3 LY3 PS HLY hi3 ro3 q0 q1 q2
  go_wp2_with fail
  refine (rplace_any Z A n c obs tail PF.out H3.out.own H3.out.room H3.out.count HLen.out (by omega) (kd % 15) ((el : Int) + mr % 4) (el : Int)).mono ?_
  rintro e w4 ⟨⟨A4, n4, c4, xs4, rfl, hn4, O4, off4⟩, hb4⟩
  rw [PE.out] at hn4 O4 ⊢
  have LV : Lies (w4.alloc (.cells #[.int .i64 (Z : Int), .slice A4 n4 c4] 33)) w4.heap.size 33 [.int .i64 (Z : Int), .slice A4 n4 c4] := Lies.new w4 33 [_, _]
  have v0' : (w4.alloc (.cells #[.int .i64 (Z : Int), .slice A4 n4 c4] 33)).cell? ⟨w4.heap.size, 0, none⟩ = some (.int .i64 (Z : Int)) := LV.cell 0
  have v1' : (w4.alloc (.cells #[.int .i64 (Z : Int), .slice A4 n4 c4] 33)).cell? ⟨w4.heap.size, 1, none⟩ = some (.slice A4 n4 c4) := LV.cell 1
  have bV := on hb4 hb4.size (below_one w4 (.cells #[.int .i64 (Z : Int), .slice A4 n4 c4] 33))
  have H5 := Lib.hid (H3.out.ref bV (O4.kept (below_one w4 (.cells #[.int .i64 (Z : Int), .slice A4 n4 c4] 33))) hn4 off4)
  have bm4 := (H3.out.kept bV).box
  have r0 : (w4.alloc (.cells #[.int .i64 (Z : Int), .slice A4 n4 c4] 33)).cell? ⟨bm, 0, none⟩ = some (.int .i64 (Z : Int)) := bm4.cell 0
  have r1 : (w4.alloc (.cells #[.int .i64 (Z : Int), .slice A4 n4 c4] 33)).cell? ⟨bm, 1, none⟩ = some (.slice A n c) := bm4.cell 1
  have r2 := bm4.frozen 0
  have r3 := bm4.frozen 1
  have r4 := bm4.lt
  clear LV O4 off4 hb4 bV bm4 hn4 PF H3 z0 z1 z2 m0 m1
  obtain ⟨a5, ha5⟩ : ∃ a5 : Nat, (flat obs).length = a5 := ⟨_, rfl⟩
  rw [ha5]
  have HA5 := Lib.hid ha5
  clear ha5
  go_upto_region 20 with fail
  obtain ⟨w5, hw5⟩ : ∃ w5, ((w4.alloc (.cells #[.int .i64 (Z : Int), .slice A4 n4 c4] 33)).setCell ⟨bm, 0, none⟩ (.int .i64 (Z : Int))).setCell ⟨bm, 1, none⟩ (.slice A4 n4 c4) = w5 := ⟨_, rfl⟩
  rw [hw5]
  rw [hw5] at H5
  clear hw5 r0 r1 r2 r3 r4 v0' v1'
  have H6 := Lib.hid (H5.out.alloc (.cells #[.int .i64 (a5 : Int)] 3))
  have cc : (w5.alloc (.cells #[.int .i64 (a5 : Int)] 3)).cell? ⟨w5.heap.size, 0, none⟩ = some (.int .i64 (a5 : Int)) := (Lies.new w5 3 [.int .i64 (a5 : Int)]).cell 0
  have hab : ats.length = k := hk
  go_wp2_with (at_builtin; (have RV6 := H6.out.row); rw [← hab]; refine wpList_append_rv rfl (.tmp 112) (.tmp 114) rfl rfl RV6 H6.out.room (by omega) ⟨w5.heap.size, 0, none⟩ (a5 : Int) rfl cc ?_; intro B7 cap7 w7 R7 G7 M7; have H7 := Lib.hid (H6.out.append R7 G7 M7); clear R7 G7 M7 H6 H5 cc RV6)
  have FB := H7.out
  rw [← HA5.out] at FB
  have eH : packW (kd % 15) ((el : Int) + mr % 4) (el : Int) = headN ⟨kd, eds, mr⟩ := by unfold headN; rw [HEL.out]; simp only [HHel.out]
  rw [eH, ← HEL.out] at FB
  refine HK.out _ _ _ _ _ _ _ _ _ _ _ _ _ _ _ _ _ _ _ _ _ _ _ _ _ _ _ _ _ _ _ _ _ _ _ _ _ _ _ _ _ _ _ _ _ _ _ _ _ _ _ _ _ _ _ _ _ _ _ _ _ _ _ _ _ _ ?_
  exact ⟨_, _, _, _, _, _, _, by go_num, rfl, FB⟩
end Go.Proofs.Ytklhdilbmpndkaa
