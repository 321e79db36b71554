/- A round of Build's loop that writes. -/
import Derived.Test.YtklhdilbmpndkaaCallSt
import Derived.Test.YtklhdilbmpndkaaBuA
namespace Go.Proofs.Ytklhdilbmpndkaa
set_option maxRecDepth 20000
open Go.RowKit
set_option linter.unusedVariables false
set_option linter.unusedSimpArgs false

set_option maxRecDepth 1000000 in
set_option maxHeartbeats 1000000 in
theorem bwrite_round {K0 : Act → World → Prop} {Q0 : Exit → Act → World → Prop} (w wz : World) (g gw gb bm base Z k cap nn cN el ec : Nat) (ad : Addr) (tail : List Int) (B E : Option Addr) (ats hd : List Int) (d : Nd)
    (hf : d.fit) (hel : d.edges.length = el) (hel2 : el ≤ 10) (hkn : k < nn) (hnn : nn ≤ 14) (hk : ats.length = nn) (hZ : Z ≤ 1000)
    (PP : Wr w wz g gw gb bm base Z tail B cap ats hd) (hE : Mk.Row .u8 w E d.edges)
    (c0 : wz.cell? (ad.add (k * 3)) = some (.int .u8 d.kind)) (c1 : wz.cell? ⟨(ad.add (k * 3)).block, (ad.add (k * 3)).off + 1, none⟩ = some (.slice E el ec)) (c2 : wz.cell? ⟨(ad.add (k * 3)).block, (ad.add (k * 3)).off + 2, none⟩ = some (.int .u8 d.more))
    (x0 x1 x2 x3 x4 x5 x6 x7 x8 x9 x11 x14 x15 x16 x17 x18 x19 x20 x21 x22 x23 x24 x25 x26 x27 x28 x29 x30 x31 x32 x33 x34 x35 x36 x37 x38 x39 x40 x41 x42 x43 x44 x45 x46 x47 x48 x49 x50 x51 x52 x53 x54 x55 x56 x57 x58 x59 x60 x61 x62 x63 x64 x65 x66 x67 x68 x69 x70 x71 x72 x73 x74 x75 x76 x77 x78 x79 x80 x81 x82 x83 x84 x85 x86 x87 x88 x89 x90 x91 x92 x93 x94 x95 x96 x97 x98 x99 x100 x101 x102 x103 x104 x105 x106 x107 x108 x109 x110 x111 x112 x113 x114 x115 x116 x117 x121 x122 x123 x124 x125 x126 x127 x128 x129 x130 x131 x132 x133 x134 x135 x136 x137 x138 x139 x140 x141 x142 x143 x144 x145 x146 x147 x148 x149 x150 x151 x152 x153 x154 x155 x156 x157 x158 x159 x160 x161 x162 x163 x164 x165 x166 x167 x168 x169 x170 x171 x172 x173 x174 x175 x176 x177 x178 x179 x180 x181 x182 x183 x184 x185 x186 x187 x188 x189 x190 x191 x192 x193 x194 x195 x196 x197 x198 x199 x200 x201 x202 x203 x204 x205 x206 x207 x208 x209 x210 x211 x212 x213 x214 x215 : Value)
    (hK : ∀ (v20 v21 v22 v23 v24 v120 v121 v122 v123 v124 v125 v126 v127 v128 v129 v130 v131 v132 v133 v134 v135 v136 v137 v138 v139 v140 v141 v142 v143 v144 v145 v146 v147 v148 v149 v150 v151 v152 v153 v154 v155 v156 v157 v158 v159 v160 v161 v162 v163 v164 v165 v166 v167 v168 v169 v170 v171 v172 v173 v174 v175 v176 v177 v178 v179 v180 v181 v182 v183 v184 v185 v186 v187 v188 v189 v190 v191 v192 v193 v194 v195 v196 v197 v198 : Value) (w'' : World), v120 = .int .i64 ((k + 1 : Nat) : Int) → Wr w w'' g gw gb bm base Z tail B cap ats hd → K0 ⟨#[x0, x1, x2, x3, x4, x5, x6, x7, x8, x9, .pointer (some ⟨g, 0, none⟩), x11, .pointer (some ⟨bm, 0, none⟩), .slice B nn cap, x14, x15, x16, x17, x18, x19, v20, v21, v22, v23, v24, x25, x26, x27, x28, x29, x30, x31, x32, x33, x34, x35, x36, x37, x38, x39, x40, x41, x42, x43, x44, x45, x46, x47, x48, x49, x50, x51, x52, x53, x54, x55, x56, x57, x58, x59, x60, x61, x62, x63, x64, x65, x66, x67, x68, x69, x70, x71, x72, x73, x74, x75, x76, x77, x78, x79, x80, x81, x82, x83, x84, x85, x86, x87, x88, x89, x90, x91, x92, x93, x94, x95, x96, x97, x98, x99, x100, x101, x102, x103, x104, x105, x106, x107, x108, x109, x110, x111, x112, x113, x114, x115, x116, x117, .slice (some ad) nn cN, .int .i64 (nn : Int), v120, v121, v122, v123, v124, v125, v126, v127, v128, v129, v130, v131, v132, v133, v134, v135, v136, v137, v138, v139, v140, v141, v142, v143, v144, v145, v146, v147, v148, v149, v150, v151, v152, v153, v154, v155, v156, v157, v158, v159, v160, v161, v162, v163, v164, v165, v166, v167, v168, v169, v170, v171, v172, v173, v174, v175, v176, v177, v178, v179, v180, v181, v182, v183, v184, v185, v186, v187, v188, v189, v190, v191, v192, v193, v194, v195, v196, v197, v198, x199, x200, x201, x202, x203, x204, x205, x206, x207, x208, x209, x210, x211, x212, x213, x214, x215], []⟩ w'') :
    Code.wp Try.prog (bloop 2) (Exit.then K0 Q0) ⟨#[x0, x1, x2, x3, x4, x5, x6, x7, x8, x9, .pointer (some ⟨g, 0, none⟩), x11, .pointer (some ⟨bm, 0, none⟩), .slice B nn cap, x14, x15, x16, x17, x18, x19, x20, x21, x22, x23, x24, x25, x26, x27, x28, x29, x30, x31, x32, x33, x34, x35, x36, x37, x38, x39, x40, x41, x42, x43, x44, x45, x46, x47, x48, x49, x50, x51, x52, x53, x54, x55, x56, x57, x58, x59, x60, x61, x62, x63, x64, x65, x66, x67, x68, x69, x70, x71, x72, x73, x74, x75, x76, x77, x78, x79, x80, x81, x82, x83, x84, x85, x86, x87, x88, x89, x90, x91, x92, x93, x94, x95, x96, x97, x98, x99, x100, x101, x102, x103, x104, x105, x106, x107, x108, x109, x110, x111, x112, x113, x114, x115, x116, x117, .slice (some ad) nn cN, .int .i64 (nn : Int), .int .i64 (k : Int), x121, x122, x123, x124, x125, x126, x127, x128, x129, x130, x131, x132, x133, x134, x135, x136, x137, x138, x139, x140, x141, x142, x143, x144, x145, x146, x147, x148, x149, x150, x151, x152, x153, x154, x155, x156, x157, x158, x159, x160, x161, x162, x163, x164, x165, x166, x167, x168, x169, x170, x171, x172, x173, x174, x175, x176, x177, x178, x179, x180, x181, x182, x183, x184, x185, x186, x187, x188, x189, x190, x191, x192, x193, x194, x195, x196, x197, x198, x199, x200, x201, x202, x203, x204, x205, x206, x207, x208, x209, x210, x211, x212, x213, x214, x215], []⟩ wz := by
  obtain ⟨kd, eds, mr⟩ := d
  obtain ⟨⟨hk0, hk1⟩, ⟨hm0, hm1⟩, hes⟩ := hf
  simp only [] at hel hE hes hk0 hk1 hm0 hm1 c0 c1 c2
  have HHel := Lib.hid hel
  have HE := Lib.hid hE
  have HES := Lib.hid hes
  have HP := Lib.hid PP
  have HK := Lib.hid hK
  have Hna := Lib.hid hk
  have j0 : (0 : Int) ≤ (k : Int) := by omega
  have j1 : (k : Int) < (nn : Int) := by omega
  have jk : k < nn := by omega
  obtain ⟨X, hX⟩ : ∃ X : Obj, X = .cells #[.int .u8 kd, .slice E el ec, .int .u8 mr] 74 := ⟨_, rfl⟩
  have LX : Lies (wz.alloc X) wz.heap.size 74 [.int .u8 kd, .slice E el ec, .int .u8 mr] := by rw [hX]; exact Lies.new wz 74 [_, _, _]
  have HX := Lib.hid (HP.out.kept (below_one wz X))
  have y1 : (wz.alloc X).cell? ⟨wz.heap.size, 1, none⟩ = some (.slice E el ec) := LX.cell 1
  have HLX := Lib.hid LX
  have HXX := Lib.hid hX
  have hbX : wz.heap.size ≠ bm := by
    obtain ⟨obs, A, n, c, xs, T, -, -⟩ := PP
    have := T.box.lt; omega
  have hgX : wz.heap.size ≠ g ∧ wz.heap.size ≠ gw ∧ wz.heap.size ≠ gb := by
    obtain ⟨obs, A, n, c, xs, T, -, -⟩ := PP
    have h1 := T.st.lies.own.lt
    have h2 := T.st.lies.words.lt
    have h3 := T.st.lies.begins.lt
    exact ⟨by omega, by omega, by omega⟩
  obtain ⟨adb, rfl⟩ : ∃ adb, B = some adb := by
    obtain ⟨obs, A, n, c, xs, T, -, -⟩ := PP
    obtain ⟨adb, e, -⟩ := T.row.row.at_ (show k < ats.length by rw [hk]; exact jk)
    exact ⟨adb, e⟩
  clear LX HP PP hK hX hel hE hes hk
  conv => arg 2; whnf
  go_wp2
  rw [← HXX.out]
  go_loopw [128] (fun i wr => ∃ j : Nat, j ≤ el ∧ i = .int .i64 j ∧ Wr w wr g gw gb bm base Z tail (some adb) cap ats hd ∧ Lies wr wz.heap.size 74 [.int .u8 kd, .slice E el ec, .int .u8 mr]) (fun i _ => el - (intOf i).toNat)
  case atStart => exact ⟨0, Nat.zero_le _, rfl, HX.out, HLX.out⟩
  case round =>
    obtain ⟨j, hj, rfl, hWr, LXj⟩ := hrel
    have i0 : (0 : Int) ≤ (j : Int) := by omega
    by_cases hlt : j < el
    · have i1 : (j : Int) < (el : Int) := by omega
      have hOld : Below w.heap.size w wr := by obtain ⟨_, _, _, _, _, T, _⟩ := hWr; exact T.old
      obtain ⟨ade, rfl, ce⟩ := (HE.out.kept hOld).at_ (show j < eds.length by rw [HHel.out]; exact hlt)
      obtain ⟨e, he⟩ : ∃ e, eds[j]'(by rw [HHel.out]; exact hlt) = e := ⟨_, rfl⟩
      have HE0 : Hid (0 ≤ e ∧ e ≤ 255) := Lib.hid (by rw [← he]; exact HES.out _ (List.getElem_mem _))
      rw [he] at ce
      clear he hOld
      obtain ⟨obs, A, n, c, xs, T, hh, hlv⟩ := hWr
      obtain ⟨adb1, e1, catk⟩ := T.row.row.at_ (show k < ats.length by rw [Hna.out]; exact jk)
      injection e1 with e1
      subst e1
      obtain ⟨ak, hak⟩ : ∃ ak, ats.getD k 0 = ak := ⟨_, rfl⟩
      rw [hak] at catk
      have HLV := Lib.hid hlv
      have HH := Lib.hid hh
      have HT := Lib.hid T
      have HIN := Lib.hid (show InR (placeV ats e) from (by have := place_fits (fun a ha => (HLV.out a ha).2) HE0.out.1; unfold InR; omega))
      obtain ⟨vv, hvv⟩ : ∃ vv, (placeV ats e) = vv := ⟨_, rfl⟩
      have HVV := Lib.hid hvv
      rw [hvv] at HIN
      have HC := Lib.hid (show Calls Try.prog 30 #[.slice (some adb) nn cap, .int .u8 e] wr.drew (fun e1 w' => e1 = .returned (.int .i64 (placeV ats e)) ∧ w' = wr.drew) from (ref_any (w := wr.drew) (some adb) nn cap ats e Hna.out (HT.out.drew.row.row) HE0.out.1 HE0.out.2 (by omega) (fun a ha => (HLV.out a ha).2)).mono fun e w' h => ⟨h.1, h.2.symm⟩)
      clear T hlv hh hak hvv
      go_upto_region 28 with fail
      skip
      go_still_tail 9, (by kernel_rfl)
      still_call HC.out
      repeat still_step
      refine wpStill_nil ?_
      change wpList _ _ _ _ _ wr.drew
      have HT2 := Lib.hid HT.out.drew
      try rw [HVV.out]
      go_wp2_with fail
      try rw [HVV.out]
      refine (write_st HT2.out.st ak ((j : Int)) vv HIN.out.1 HIN.out.2).mono ?_
      rintro e3 w3 ⟨rfl, S3, E3⟩
      have HFINE := Lib.hid HT.out.st.fine
      have hlen3 : (flat (writeF obs ak ((j : Int)) vv).2 ++ tail).length = Z := by
        have h1 := write_len (obs := obs) (a := ak) (f := ((j : Int))) (v := vv)
        have h2 := HT.out.len
        simp only [List.length_append] at h2 ⊢
        omega
      have hZ6 : (flat obs).length ≤ 65536 := by
        have h2 := HT.out.len
        simp only [List.length_append] at h2
        omega
      have H3 := Lib.hid (HT2.out.heap S3 E3 (clean_write HT2.out.clean HIN.out) hlen3)
      have LX3 := E3.lies (show Lies wr.drew wz.heap.size 74 [.int .u8 kd, .slice (some ade) el ec, .int .u8 mr] from LXj.drew) hgX.1 hgX.2.1 hgX.2.2
      have m0 : w3.cell? ⟨bm, 0, none⟩ = some (.int .i64 (Z : Int)) := H3.out.box.cell 0
      have m1 : w3.cell? ⟨bm, 1, none⟩ = some (.slice A n c) := H3.out.box.cell 1
      have y1 : w3.cell? ⟨wz.heap.size, 1, none⟩ = some (.slice (some ade) el ec) := LX3.cell 1
      have catk : w3.cell? (adb.add k) = some (.int .i64 ak) := by
        obtain ⟨adb2, e2, c2⟩ := H3.out.row.row.at_ (show k < ats.length by rw [Hna.out]; exact jk)
        injection e2 with e2
        subst e2
        have c1 : wr.cell? (adb.add k) = some (.int .i64 ak) := by assumption
        obtain ⟨adb3, e3, c3⟩ := HT.out.row.row.at_ (show k < ats.length by rw [Hna.out]; exact jk)
        injection e3 with e3
        subst e3
        rw [c1] at c3
        rw [c2, ← c3]
      have HLX3 := Lib.hid LX3
      have HC := Lib.hid (show Calls Try.prog 30 #[.slice (some adb) nn cap, .int .u8 e] w3.drew (fun e1 w' => e1 = .returned (.int .i64 (placeV ats e)) ∧ w' = w3.drew) from (ref_any (w := w3.drew) (some adb) nn cap ats e Hna.out (H3.out.drew.row.row) HE0.out.1 HE0.out.2 (by omega) (fun a ha => (HLV.out a ha).2)).mono fun e w' h => ⟨h.1, h.2.symm⟩)
      clear S3 E3 hlen3 LX3 HT2 LXj
      go_upto_region 29 with fail
      refine wp_region_call_store 9 (by kernel_rfl) (by decide +kernel) ?_
      simp only [List.take_succ_cons, List.take_zero, List.drop_succ_cons, List.drop_zero, swap34]
      repeat still_step
      still_call HC.out
      repeat still_step
      refine wpStill_nil ?_
      change wpList _ _ _ _ _ w3.drew
      try rw [HVV.out]
      have H4 := Lib.hid H3.out.drew
      have bm4 := H4.out.box
      have r0 : w3.drew.cell? ⟨bm, 0, none⟩ = some (.int .i64 (Z : Int)) := bm4.cell 0
      go_wp2_with fail
      try rw [HVV.out]
      refine (rw_any H4.out HFINE.out hZ6 ak ((j : Int)) vv HIN.out).mono ?_
      rintro e4 w4 ⟨⟨A4, n4, c4, xs4, rfl, hn4, O4⟩, hb4⟩
      have H5 := Lib.hid (H4.out.wrote hb4 O4 hn4 HH.out HLV.out)
      have LX5 := Lib.hid ((((show Lies w3.drew wz.heap.size 74 [.int .u8 kd, .slice (some ade) el ec, .int .u8 mr] from HLX3.out.drew).below hb4 HLX3.out.lt).far (p := ⟨bm, 0, none⟩) hbX (.int .i64 (Z : Int))).far (p := ⟨bm, 1, none⟩) hbX (.slice A4 n4 c4))
      have bm4 := (H4.out.kept hb4).box
      have r0 : w4.cell? ⟨bm, 0, none⟩ = some (.int .i64 (Z : Int)) := bm4.cell 0
      have r1 : w4.cell? ⟨bm, 1, none⟩ = some (.slice A n c) := bm4.cell 1
      have r2 := bm4.frozen 0
      have r3 := bm4.frozen 1
      have r4 := bm4.lt
      clear O4 hb4 bm4 hn4 H3 H4 HT HLX3 m0 m1 catk
      go_wp2
      refine Norm.normal ?_
      go_wp2
      exact ⟨⟨j + 1, by omega, by go_num, H5.out, LX5.out⟩, by simp [intOf]; omega⟩
    · obtain rfl : j = el := by omega
      have y1 : wr.cell? ⟨wz.heap.size, 1, none⟩ = some (.slice E j ec) := LXj.cell 1
      have y2 : wr.cell? ⟨wz.heap.size, 2, none⟩ = some (.int .u8 mr) := LXj.cell 2
      obtain ⟨q, hq⟩ : ∃ q : Nat, mr % 4 = (q : Int) := ⟨(mr % 4).toNat, by omega⟩
      have hq3 : q ≤ 3 := by omega
      have HWr := Lib.hid hWr
      have HLXj := Lib.hid LXj
      clear hWr LXj HX HLX
      go_wp2
      have HQ := Lib.hid hq
      clear hq
      go_loopw [161] (fun i wr => ∃ j2 : Nat, j2 ≤ q ∧ i = .int .i64 j2 ∧ Wr w wr g gw gb bm base Z tail (some adb) cap ats hd ∧ Lies wr wz.heap.size 74 [.int .u8 kd, .slice E j ec, .int .u8 mr]) (fun i _ => q - (intOf i).toNat)
      case atStart => exact ⟨0, Nat.zero_le _, rfl, HWr.out, HLXj.out⟩
      case round =>
        obtain ⟨j2, hj2, rfl, hWr, LXj⟩ := hrel
        have i0 : (0 : Int) ≤ (j2 : Int) := by omega
        by_cases hlt : j2 < q
        · have i1 : (j2 : Int) < (q : Int) := by omega
          have y1 : wr.cell? ⟨wz.heap.size, 1, none⟩ = some (.slice E j ec) := LXj.cell 1
          obtain ⟨obs, A, n, c, xs, T, hh, hlv⟩ := hWr
          obtain ⟨adb1, e1, catk⟩ := T.row.row.at_ (show k < ats.length by rw [Hna.out]; exact jk)
          injection e1 with e1
          subst e1
          obtain ⟨ak, hak⟩ : ∃ ak, ats.getD k 0 = ak := ⟨_, rfl⟩
          rw [hak] at catk
          have HLV := Lib.hid hlv
          have HH := Lib.hid hh
          have HT := Lib.hid T
          have HIN := Lib.hid (show InR (100 * (k : Int) + (j2 : Int)) from (by unfold InR; omega))
          obtain ⟨vv, hvv⟩ : ∃ vv, (100 * (k : Int) + (j2 : Int)) = vv := ⟨_, rfl⟩
          have HVV := Lib.hid hvv
          rw [hvv] at HIN
          clear T hlv hh hak hvv
          go_upto_region 34 with fail
          skip
          go_still_tail 14, (by kernel_rfl)
          change wpList _ _ _ _ _ wr.drew
          have HT2 := Lib.hid HT.out.drew
          try rw [HVV.out]
          go_wp2_with fail
          try rw [HVV.out]
          refine (write_st HT2.out.st ak ((j : Int) + (j2 : Int)) vv HIN.out.1 HIN.out.2).mono ?_
          rintro e3 w3 ⟨rfl, S3, E3⟩
          have HFINE := Lib.hid HT.out.st.fine
          have hlen3 : (flat (writeF obs ak ((j : Int) + (j2 : Int)) vv).2 ++ tail).length = Z := by
            have h1 := write_len (obs := obs) (a := ak) (f := ((j : Int) + (j2 : Int))) (v := vv)
            have h2 := HT.out.len
            simp only [List.length_append] at h2 ⊢
            omega
          have hZ6 : (flat obs).length ≤ 65536 := by
            have h2 := HT.out.len
            simp only [List.length_append] at h2
            omega
          have H3 := Lib.hid (HT2.out.heap S3 E3 (clean_write HT2.out.clean HIN.out) hlen3)
          have LX3 := E3.lies (show Lies wr.drew wz.heap.size 74 [.int .u8 kd, .slice E j ec, .int .u8 mr] from LXj.drew) hgX.1 hgX.2.1 hgX.2.2
          have m0 : w3.cell? ⟨bm, 0, none⟩ = some (.int .i64 (Z : Int)) := H3.out.box.cell 0
          have m1 : w3.cell? ⟨bm, 1, none⟩ = some (.slice A n c) := H3.out.box.cell 1
          have y1 : w3.cell? ⟨wz.heap.size, 1, none⟩ = some (.slice E j ec) := LX3.cell 1
          have catk : w3.cell? (adb.add k) = some (.int .i64 ak) := by
            obtain ⟨adb2, e2, c2⟩ := H3.out.row.row.at_ (show k < ats.length by rw [Hna.out]; exact jk)
            injection e2 with e2
            subst e2
            have c1 : wr.cell? (adb.add k) = some (.int .i64 ak) := by assumption
            obtain ⟨adb3, e3, c3⟩ := HT.out.row.row.at_ (show k < ats.length by rw [Hna.out]; exact jk)
            injection e3 with e3
            subst e3
            rw [c1] at c3
            rw [c2, ← c3]
          have HLX3 := Lib.hid LX3
          clear S3 E3 hlen3 LX3 HT2 LXj
          go_upto_region 35 with fail
          refine wp_region_call_store 14 (by kernel_rfl) (by decide +kernel) ?_
          simp only [List.take_succ_cons, List.take_zero, List.drop_succ_cons, List.drop_zero, swap34]
          repeat still_step
          refine wpStill_nil ?_
          change wpList _ _ _ _ _ w3.drew
          try rw [HVV.out]
          have H4 := Lib.hid H3.out.drew
          have bm4 := H4.out.box
          have r0 : w3.drew.cell? ⟨bm, 0, none⟩ = some (.int .i64 (Z : Int)) := bm4.cell 0
          go_wp2_with fail
          try rw [HVV.out]
          refine (rw_any H4.out HFINE.out hZ6 ak ((j : Int) + (j2 : Int)) vv HIN.out).mono ?_
          rintro e4 w4 ⟨⟨A4, n4, c4, xs4, rfl, hn4, O4⟩, hb4⟩
          have H5 := Lib.hid (H4.out.wrote hb4 O4 hn4 HH.out HLV.out)
          have LX5 := Lib.hid ((((show Lies w3.drew wz.heap.size 74 [.int .u8 kd, .slice E j ec, .int .u8 mr] from HLX3.out.drew).below hb4 HLX3.out.lt).far (p := ⟨bm, 0, none⟩) hbX (.int .i64 (Z : Int))).far (p := ⟨bm, 1, none⟩) hbX (.slice A4 n4 c4))
          have bm4 := (H4.out.kept hb4).box
          have r0 : w4.cell? ⟨bm, 0, none⟩ = some (.int .i64 (Z : Int)) := bm4.cell 0
          have r1 : w4.cell? ⟨bm, 1, none⟩ = some (.slice A n c) := bm4.cell 1
          have r2 := bm4.frozen 0
          have r3 := bm4.frozen 1
          have r4 := bm4.lt
          clear O4 hb4 bm4 hn4 H3 H4 HT HLX3 m0 m1 catk
          go_wp2
          refine Norm.normal ?_
          go_wp2
          exact ⟨⟨j2 + 1, by omega, by go_num, H5.out, LX5.out⟩, by simp [intOf]; omega⟩
        · obtain rfl : j2 = q := by omega
          have HWr2 := Lib.hid hWr
          clear hWr LXj y1 y2 HWr HLXj
          go_wp2
          refine HK.out _ _ _ _ _ _ _ _ _ _ _ _ _ _ _ _ _ _ _ _ _ _ _ _ _ _ _ _ _ _ _ _ _ _ _ _ _ _ _ _ _ _ _ _ _ _ _ _ _ _ _ _ _ _ _ _ _ _ _ _ _ _ _ _ _ _ _ _ _ _ _ _ _ _ _ _ _ _ _ _ _ _ _ _ _ ?_ HWr2.out
          go_num
end Go.Proofs.Ytklhdilbmpndkaa
