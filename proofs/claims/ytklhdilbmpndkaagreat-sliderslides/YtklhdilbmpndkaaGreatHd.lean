/- Build: the program's heap and the document's, of a graph. Marked: a graph's heap, in which some objects are marked. -/
import Derived.Test.YtklhdilbmpndkaaGreatJa
import Derived.Test.YtklhdilbmpndkaaGreatJb
namespace Go.Proofs.YtklhdilbmpndkaaGreat
set_option maxRecDepth 20000
open Go.RowKit
set_option linter.unusedVariables false
set_option linter.unusedSimpArgs false

/-- What Build leaves. -/
structure Built (w w' : World) (ds : List Nd) (rs : List Int) (Z : Nat) (g gw gb base : Nat) (obs : List Ob) (tail : List Int) (A : Option Addr) (n c : Nat) (xs : List Value) (B : Option Addr) (cap : Nat) (rts : List Int) : Prop where
  st : St w' g gw gb obs tail
  clean : Clean obs
  len : (flat obs ++ tail).length = Z
  own : Owned w' base A n c obs xs
  count : obs.length = n
  heads : obs.map Prod.fst = (laidG ds ds.length).1.map Prod.fst
  old : Below w.heap.size w w'
  room : base ≤ w'.heap.size
  lo : w.heap.size ≤ g ∧ w.heap.size ≤ gw ∧ w.heap.size ≤ gb
  hi : g < base ∧ gw < base ∧ gb < base
  rts_ : rts = rs.map (placeV (laidG ds ds.length).2)
  row : Rv w' base B cap rts
  good : ∀ r ∈ rts, astrayO obs r = false
theorem Built.kept {w w' w'' : World} {ds : List Nd} {rs : List Int} {Z g gw gb base n c cap : Nat} {obs : List Ob} {tail : List Int} {A B : Option Addr} {xs : List Value} {rts : List Int} (h : Built w w' ds rs Z g gw gb base obs tail A n c xs B cap rts) (hb : Below w'.heap.size w' w'') :
    Built w w'' ds rs Z g gw gb base obs tail A n c xs B cap rts :=
  ⟨h.st.kept hb, h.clean, h.len, h.own.kept hb, h.count, h.heads, on h.old h.old.size hb, Nat.le_trans h.room hb.size, h.lo, h.hi, h.rts_, h.row.below hb, h.good⟩

theorem Rv.wider {w : World} {base base' : Nat} {B : Option Addr} {cap : Nat} {row : List Int} (h : Rv w base B cap row) (hb : base' ≤ base) : Rv w base' B cap row := by
  rcases h with h | ⟨q, cs, h1, h2, h3⟩
  · exact Or.inl h
  · exact Or.inr ⟨q, cs, h1, Nat.le_trans hb h2, h3⟩
theorem Wr.room {w W : World} {g gw gb bm base Z cap : Nat} {tail ats hd : List Int} {B : Option Addr} (h : Wr w W g gw gb bm base Z tail B cap ats hd) : base ≤ W.heap.size := by
  obtain ⟨_, _, _, _, _, T, _⟩ := h
  exact T.room

set_option maxRecDepth 1000000 in
set_option maxHeartbeats 4000000 in
theorem build_any {w : World} (A0 B0 : Option Addr) (n cN m cR room : Nat) (ds : List Nd) (rs : List Int) (hd : CameN w A0 n ds) (hr : Mk.Came .u8 w B0 m rs) (hn : n ≤ 14) (hm : m ≤ 14) (he : ∀ d ∈ ds, d.edges.length ≤ 10) (hroom : room ≤ 100) :
    Calls Tryz.prog 23 #[.agg #[.slice A0 n cN, .slice B0 m cR], .int .i64 (room : Int)] w fun e w' => ∃ g gw gb base obs tail A n' c xs B cap rts,
      e = .returned (.tuple #[.pointer (some ⟨g, 0, none⟩), .slice B m cap, .agg #[.int .i64 (sizeG ds room n : Nat), .slice A n' c]]) ∧ Built w w' ds rs (sizeG ds room n) g gw gb base obs tail A n' c xs B cap rts := by
  obtain ⟨hdl, hN, hF, -⟩ := hd
  obtain ⟨hrl, hR, hRb⟩ := hr
  have HN := Lib.hid hN
  have HF := Lib.hid hF
  have HE := Lib.hid he
  have HL := Lib.hid hdl
  have HR := Lib.hid hR
  have HRL := Lib.hid hrl
  have HRB := Lib.hid hRb
  have hszk : ∀ k, k ≤ n → sizeG ds room k ≤ 101 + 16 * k := by
    intro k
    induction k with
    | zero => intro _; unfold sizeG; simp; omega
    | succ k ih =>
      intro hk
      obtain ⟨d, hdk⟩ : ∃ d, ds[k]? = some d := ⟨_, List.getElem?_eq_getElem (by rw [HL.out]; omega)⟩
      rw [size_succ hdk]
      have h1 := ih (by omega)
      have h2 := HE.out d (List.mem_of_getElem? hdk)
      have h3 := node_len (HF.out d (List.mem_of_getElem? hdk)) h2
      unfold szN
      omega
  have HSZ := Lib.hid hszk
  clear hdl hN hF hrl hR hRb he hszk
  go_enter Tryz.func23, Tryz.ntmps23
  go_wp2
  have hsz0 : sizeG ds room 0 = 1 + room := by unfold sizeG; simp
  go_loopw [33, 7] (fun i s wr => ∃ k : Nat, k ≤ n ∧ i = .int .i64 k ∧ s = .int .i64 (sizeG ds room k : Nat) ∧ Lies wr w.heap.size 25 [.slice A0 n cN, .slice B0 m cR] ∧ Lies wr (w.heap.size + 1) 34 [.int .i64 0, .slice none 0 0] ∧ Below w.heap.size w wr) (fun i _ _ => n - (intOf i).toNat)
  case atStart =>
    refine ⟨0, Nat.zero_le _, rfl, ?_, ?_, ?_, ?_⟩
    · rw [hsz0]; go_num
    · exact (Lies.new w 25 [.slice A0 n cN, .slice B0 m cR]).alloc _
    · have := Lies.new (w.alloc (.cells #[.slice A0 n cN, .slice B0 m cR] 25)) 34 [.int .i64 0, .slice none 0 0]
      rw [World.size_alloc] at this; exact this
    · exact ((Below.refl _ w).alloc (Nat.le_refl _) _).alloc (by simp) _
  case round =>
    obtain ⟨k, hk, rfl, rfl, LG, LM, BB⟩ := hrel
    have x0 : wr.cell? ⟨w.heap.size, 0, none⟩ = some (.slice A0 n cN) := LG.cell 0
    have x1 : wr.cell? ⟨w.heap.size, 1, none⟩ = some (.slice B0 m cR) := LG.cell 1
    have k0 : (0 : Int) ≤ (k : Int) := by omega
    by_cases hlt : k < n
    · obtain ⟨d, hdk⟩ : ∃ d, ds[k]? = some d := ⟨_, List.getElem?_eq_getElem (by rw [HL.out]; exact hlt)⟩
      obtain ⟨ad, E, ec, rfl, c0, c1, c2, -⟩ := HN.out.at_ BB hdk
      have hm1 := HE.out d (List.mem_of_getElem? hdk)
      obtain ⟨⟨hk0, hk1⟩, ⟨hm0, hm1'⟩, -⟩ := HF.out d (List.mem_of_getElem? hdk)
      have hsz := HSZ.out k hk
      have hss := Lib.hid (size_succ (room := room) hdk)
      obtain ⟨el, hel⟩ : ∃ el, d.edges.length = el := ⟨_, rfl⟩
      obtain ⟨mr, hmr⟩ : ∃ mr, d.more = mr := ⟨_, rfl⟩
      obtain ⟨S, hS⟩ : ∃ S, sizeG ds room k = S := ⟨_, rfl⟩
      have HS2 := Lib.hid hS
      rw [hel] at hm1 c1
      rw [hmr] at hm0 hm1' c2
      rw [hS] at hsz
      rw [hS]
      have HEL := Lib.hid hel
      have HMR := Lib.hid hmr
      have k1 : (k : Int) < (n : Int) := by omega
      obtain ⟨X, hX⟩ : ∃ X : Obj, X = .cells #[.int .u8 d.kind, .slice E el ec, .int .u8 mr] 59 := ⟨_, rfl⟩
      have LX : Lies (wr.alloc X) wr.heap.size 59 [.int .u8 d.kind, .slice E el ec, .int .u8 mr] := by rw [hX]; exact Lies.new wr 59 [_, _, _]
      have y1 : (wr.alloc X).cell? ⟨wr.heap.size, 1, none⟩ = some (.slice E el ec) := LX.cell 1
      have y2 : (wr.alloc X).cell? ⟨wr.heap.size, 2, none⟩ = some (.int .u8 mr) := LX.cell 2
      have LG2 := Lib.hid (LG.alloc X)
      have LM2 := Lib.hid (LM.alloc X)
      have BB2 := Lib.hid (on BB BB.size (below_one wr X))
      have HX := Lib.hid hX
      clear LX hX hel hmr hS LG LM hdk BB
      go_upto_region 5 with fail
      rw [← HX.out]
      go_wp2
      refine ⟨⟨k + 1, by omega, by go_num, ?_, LG2.out, LM2.out, BB2.out⟩, by simp [intOf]; omega⟩
      rw [hss.out, HS2.out]
      unfold szN
      rw [HEL.out, HMR.out]
      exact congrArg (Value.int .i64) (by omega)
    · obtain rfl : k = n := by omega
      obtain ⟨Z, hZ⟩ : ∃ Z, sizeG ds room k = Z := ⟨_, rfl⟩
      have hZ1 : 1 ≤ Z := by rw [← hZ]; unfold sizeG; omega
      have hZ2 : Z ≤ 1000 := by have := HSZ.out k (Nat.le_refl _); rw [hZ] at this; omega
      have hlaid := Lib.hid (fun j (hj : j ≤ k) => (show 1 + room + (flat (laidG ds j).1).length ≤ sizeG ds room j from laid_len HF.out HE.out room j))
      have HZZ := Lib.hid hZ
      rw [hZ]
      clear hZ hsz0
      have HLG := Lib.hid LG
      have HLM := Lib.hid LM
      have HBB := Lib.hid BB
      have hs1 := LG.lt
      have hs2 := LM.lt
      clear LG LM BB
      generalize wr = w1 at *
      go_wp2_with fail
      refine (new_st Z w1 hZ1 (by omega)).mono ?_
      rintro e w2 ⟨g, gw, gb, rfl, hb2, q1, q2, q3, S2⟩
      have bx := below_one w2 (.cells #[.int .i64 (Z : Int), .slice none 0 0] 34)
      have hg1 : g < w2.heap.size := S2.lies.own.lt
      have hg2 : gw < w2.heap.size := S2.lies.words.lt
      have hg3 : gb < w2.heap.size := S2.lies.begins.lt
      have T0 : Bu w1 (w2.alloc (.cells #[.int .i64 (Z : Int), .slice none 0 0] 34)) g gw gb w2.heap.size w2.heap.size Z [] (List.replicate Z 0) [] none 0 0 [] none 0 [] :=
        ⟨S2.kept bx, clean_nil, by simp [flat_nil], Lies.new w2 34 [_, _], ⟨World.ownsRow_nil _ _ _ _, rfl⟩, rfl, on hb2 hb2.size bx, by simp, Rv.nil _ _, (fun N0 e => by cases e), ⟨q1, q2, q3⟩, ⟨hg1, hg2, hg3⟩, Nat.le_refl _⟩
      have HT0 := Lib.hid T0
      have LG3 := (HLG.out.below hb2 HLG.out.lt).alloc (.cells #[.int .i64 (Z : Int), .slice none 0 0] 34)
      have x0 : (w2.alloc (.cells #[.int .i64 (Z : Int), .slice none 0 0] 34)).cell? ⟨w.heap.size, 0, none⟩ = some (.slice A0 k cN) := LG3.cell 0
      have hbsz := hb2.size
      clear T0 S2 hb2 bx LG3
      go_wp2
      obtain ⟨bz, hbz⟩ : ∃ bz, w2.heap.size = bz := ⟨_, rfl⟩
      rw [hbz] at HT0 ⊢
      have hbz1 : w1.heap.size ≤ bz := by omega
      clear x0 hbsz hbz
      go_loopw [59, 13] (fun i t wq => ∃ (j : Nat) (tail : List Int) (A : Option Addr) (n' c : Nat) (xs : List Value) (B : Option Addr) (cap : Nat), j ≤ k ∧ i = .int .i64 j ∧ t = .slice B j cap ∧ Bu w1 wq g gw gb bz bz Z (laidG ds j).1 tail (laidG ds j).1 A n' c xs B cap (laidG ds j).2) (fun i _ _ => k - (intOf i).toNat)
      case atStart => exact ⟨0, _, _, _, _, _, _, _, Nat.zero_le _, rfl, rfl, HT0.out⟩
      case round =>
        obtain ⟨j, tail, A, n', c, xs, B, cap, hj, rfl, rfl, PP⟩ := hrel
        by_cases hlt : j < k
        · obtain ⟨d, hdk⟩ : ∃ d, ds[j]? = some d := ⟨_, List.getElem?_eq_getElem (by rw [HL.out]; exact hlt)⟩
          obtain ⟨ad, E, ec, rfl, c0, c1, c2, -⟩ := HN.out.at_ (on HBB.out HBB.out.size PP.old) hdk
          have hmem := List.mem_of_getElem? hdk
          have hcount : (laidG ds j).2.length = j := laid_count j (by rw [HL.out]; omega)
          have hrm : (flat (laidG ds j).1).length + szN d < Z := by
            have h1 := hlaid.out j (by omega)
            have h2 := size_succ (room := room) hdk
            have h3 := size_le (ds := ds) (room := room) (show j + 1 ≤ k by omega)
            rw [HZZ.out] at h3
            omega
          by_cases hk3 : j % 3 = 2
          · refine bplace_fill w1 wr g gw gb bz bz Z j n' c cap k cN d.edges.length ec ad (laidG ds j).1 tail A B E xs (laidG ds j).2 d (HF.out d hmem) rfl (HE.out d hmem) hlt hn hcount hrm hZ2 PP c0 c1 c2 _ _ _ _ _ _ _ _ _ _ _ _ _ _ _ _ _ _ _ _ _ _ _ _ _ _ _ _ _ _ _ _ _ _ _ _ _ _ _ _ _ _ _ _ _ _ _ _ _ _ _ _ _ _ _ _ _ _ _ _ _ _ _ _ _ _ _ _ _ _ _ _ _ _ _ _ _ _ _ _ _ _ _ _ _ _ _ _ _ _ _ _ _ _ _ _ _ _ _ _ _ _ _ _ _ _ _ _ _ _ _ _ _ _ _ _ _ _ _ _ _ _ _ _ _ _ _ _ _ _ _ _ _ _ _ _ _ _ _ _ _ _ _ _ _ _ _ _ _ _ _ _ _ _ _ _ _ _ _ _ _ _ _ _ _ _ _ _ _ _ _ _ _ _ _ _ _ _ _ _ _ _ _ _ _ _ _ _ _ _ _ _ _ _ _ _ _ _ _ _ _ _ _ _ _ _ _ _ _ _ ?_ hk3
            exact fun v13 v14 v15 v16 v17 v18 v19 v59 v60 v61 v62 v63 v64 v65 v66 v67 v68 v69 v70 v71 v72 v73 v74 v75 v76 v77 v78 v79 v80 v81 v82 v83 v84 v85 v86 v87 v88 v89 v90 v91 v92 v93 v94 v95 v96 v97 v98 v99 v100 v101 v102 v103 v104 v105 v106 v107 v108 v109 v110 v111 v112 v113 v114 v115 v116 w'' ⟨tail2, A2, n2, c2', xs2, B2, cap2, h59, h13, P2⟩ => ⟨⟨v13, v14, v15, v16, v17, v18, v19, v59, v60, v61, v62, v63, v64, v65, v66, v67, v68, v69, v70, v71, v72, v73, v74, v75, v76, v77, v78, v79, v80, v81, v82, v83, v84, v85, v86, v87, v88, v89, v90, v91, v92, v93, v94, v95, v96, v97, v98, v99, v100, v101, v102, v103, v104, v105, v106, v107, v108, v109, v110, v111, v112, v113, v114, v115, v116, ⟨j + 1, tail2, A2, n2, c2', xs2, B2, cap2, by omega, h59, h13, by rw [laid_succ hdk]; exact P2⟩, rfl⟩, by show k - (intOf v59).toNat < k - (intOf (.int .i64 (j : Int))).toNat; rw [h59]; simp [intOf]; omega⟩
          · refine bplace_plain w1 wr g gw gb bz bz Z j n' c cap k cN d.edges.length ec ad (laidG ds j).1 tail A B E xs (laidG ds j).2 d (HF.out d hmem) rfl (HE.out d hmem) hlt hn hcount hrm hZ2 PP c0 c1 c2 _ _ _ _ _ _ _ _ _ _ _ _ _ _ _ _ _ _ _ _ _ _ _ _ _ _ _ _ _ _ _ _ _ _ _ _ _ _ _ _ _ _ _ _ _ _ _ _ _ _ _ _ _ _ _ _ _ _ _ _ _ _ _ _ _ _ _ _ _ _ _ _ _ _ _ _ _ _ _ _ _ _ _ _ _ _ _ _ _ _ _ _ _ _ _ _ _ _ _ _ _ _ _ _ _ _ _ _ _ _ _ _ _ _ _ _ _ _ _ _ _ _ _ _ _ _ _ _ _ _ _ _ _ _ _ _ _ _ _ _ _ _ _ _ _ _ _ _ _ _ _ _ _ _ _ _ _ _ _ _ _ _ _ _ _ _ _ _ _ _ _ _ _ _ _ _ _ _ _ _ _ _ _ _ _ _ _ _ _ _ _ _ _ _ _ _ _ _ _ _ _ _ _ _ _ _ _ _ _ _ ?_ hk3
            exact fun v13 v14 v15 v16 v17 v18 v19 v59 v60 v61 v62 v63 v64 v65 v66 v67 v68 v69 v70 v71 v72 v73 v74 v75 v76 v77 v78 v79 v80 v81 v82 v83 v84 v85 v86 v87 v88 v89 v90 v91 v92 v93 v94 v95 v96 v97 v98 v99 v100 v101 v102 v103 v104 v105 v106 v107 v108 v109 v110 v111 v112 v113 v114 v115 v116 w'' ⟨tail2, A2, n2, c2', xs2, B2, cap2, h59, h13, P2⟩ => ⟨⟨v13, v14, v15, v16, v17, v18, v19, v59, v60, v61, v62, v63, v64, v65, v66, v67, v68, v69, v70, v71, v72, v73, v74, v75, v76, v77, v78, v79, v80, v81, v82, v83, v84, v85, v86, v87, v88, v89, v90, v91, v92, v93, v94, v95, v96, v97, v98, v99, v100, v101, v102, v103, v104, v105, v106, v107, v108, v109, v110, v111, v112, v113, v114, v115, v116, ⟨j + 1, tail2, A2, n2, c2', xs2, B2, cap2, by omega, h59, h13, by rw [laid_succ hdk]; exact P2⟩, rfl⟩, by show k - (intOf v59).toNat < k - (intOf (.int .i64 (j : Int))).toNat; rw [h59]; simp [intOf]; omega⟩
        · obtain rfl : j = k := by omega
          have HPP := Lib.hid PP
          have LG4 := HLG.out.below PP.old hs1
          have x0 : wr.cell? ⟨w.heap.size, 0, none⟩ = some (.slice A0 j cN) := LG4.cell 0
          have hats : ∀ a ∈ (laidG ds j).2, Live (laidG ds j).1 a ∧ 0 ≤ a ∧ a ≤ 65536 := fun a ha => by
            obtain ⟨h1, h2, h3⟩ := laid_ats HF.out HE.out j a ha
            have h4 := hlaid.out j (Nat.le_refl _)
            rw [HZZ.out] at h4
            exact ⟨h1, h2, by omega⟩
          have HW := Lib.hid (show Wr w1 wr g gw gb bz bz Z tail B cap (laidG ds j).2 ((laidG ds j).1.map Prod.fst) from ⟨_, _, _, _, _, HPP.out.bw, rfl, hats⟩)
          have hcount : (laidG ds j).2.length = j := laid_count j (by rw [HL.out]; omega)
          obtain ⟨ats, hatse⟩ : ∃ ats, (laidG ds j).2 = ats := ⟨_, rfl⟩
          obtain ⟨hd, hhd⟩ : ∃ hd, (laidG ds j).1.map Prod.fst = hd := ⟨_, rfl⟩
          rw [hatse, hhd] at HW
          rw [hatse] at hcount
          have HCNT := Lib.hid hcount
          have HATS := Lib.hid hatse
          have HHD := Lib.hid hhd
          clear PP HPP LG4 hats hatse hhd hcount HT0
          go_wp2
          go_loopw [120] (fun i wr => ∃ q : Nat, q ≤ j ∧ i = .int .i64 q ∧ Wr w1 wr g gw gb bz bz Z tail B cap ats hd) (fun i _ => j - (intOf i).toNat)
          case atStart => exact ⟨0, Nat.zero_le _, rfl, HW.out⟩
          case round =>
            obtain ⟨q, hq, rfl, PP⟩ := hrel
            have hold : Below w1.heap.size w1 wr := by obtain ⟨_, _, _, _, _, T, _⟩ := PP; exact T.old
            by_cases hlt : q < j
            · obtain ⟨d, hdk⟩ : ∃ d, ds[q]? = some d := ⟨_, List.getElem?_eq_getElem (by rw [HL.out]; exact hlt)⟩
              obtain ⟨ad, E, ec, rfl, d0, d1, d2, hE⟩ := HN.out.at_ HBB.out hdk
              have hmem := List.mem_of_getElem? hdk
              have c0 := (hold.cell (World.block_lt_of_cell? _ _ d0)).trans d0
              have c1 := (hold.cell (World.block_lt_of_cell? _ _ d1)).trans d1
              have c2 := (hold.cell (World.block_lt_of_cell? _ _ d2)).trans d2
              refine bwrite_round w1 wr g gw gb bz bz Z q cap j cN d.edges.length ec ad tail B E ats hd d (HF.out d hmem) rfl (HE.out d hmem) hlt hn HCNT.out hZ2 PP hE c0 c1 c2 _ _ _ _ _ _ _ _ _ _ _ _ _ _ _ _ _ _ _ _ _ _ _ _ _ _ _ _ _ _ _ _ _ _ _ _ _ _ _ _ _ _ _ _ _ _ _ _ _ _ _ _ _ _ _ _ _ _ _ _ _ _ _ _ _ _ _ _ _ _ _ _ _ _ _ _ _ _ _ _ _ _ _ _ _ _ _ _ _ _ _ _ _ _ _ _ _ _ _ _ _ _ _ _ _ _ _ _ _ _ _ _ _ _ _ _ _ _ _ _ _ _ _ _ _ _ _ _ _ _ _ _ _ _ _ _ _ _ _ _ _ _ _ _ _ _ _ _ _ _ _ _ _ _ _ _ _ _ _ _ _ _ _ _ _ _ _ _ _ _ _ _ _ _ _ _ _ _ _ _ _ _ _ _ _ _ _ _ _ _ _ _ _ _ _ _ _ _ _ _ _ _ _ _ _ _ _ _ _ _ ?_
              exact fun v20 v21 v22 v23 v24 v120 v121 v122 v123 v124 v125 v126 v127 v128 v129 v130 v131 v132 v133 v134 v135 v136 v137 v138 v139 v140 v141 v142 v143 v144 v145 v146 v147 v148 v149 v150 v151 v152 v153 v154 v155 v156 v157 v158 v159 v160 v161 v162 v163 v164 v165 v166 v167 v168 v169 v170 v171 v172 v173 v174 v175 v176 v177 v178 v179 v180 v181 v182 v183 v184 v185 v186 v187 v188 v189 v190 v191 v192 v193 v194 v195 v196 v197 v198 w'' h120 P2 => ⟨⟨v20, v21, v22, v23, v24, v120, v121, v122, v123, v124, v125, v126, v127, v128, v129, v130, v131, v132, v133, v134, v135, v136, v137, v138, v139, v140, v141, v142, v143, v144, v145, v146, v147, v148, v149, v150, v151, v152, v153, v154, v155, v156, v157, v158, v159, v160, v161, v162, v163, v164, v165, v166, v167, v168, v169, v170, v171, v172, v173, v174, v175, v176, v177, v178, v179, v180, v181, v182, v183, v184, v185, v186, v187, v188, v189, v190, v191, v192, v193, v194, v195, v196, v197, v198, ⟨q + 1, by omega, h120, P2⟩, rfl⟩, by show j - (intOf v120).toNat < j - (intOf (.int .i64 (q : Int))).toNat; rw [h120]; simp [intOf]; omega⟩
            · obtain rfl : q = j := by omega
              generalize wr = w3 at *
              have HW3 := Lib.hid PP
              have HO3 := Lib.hid hold
              have LG4 := HLG.out.below hold hs1
              have HLG4 := Lib.hid LG4
              have hs3 := hold.size
              have x1 : w3.cell? ⟨w.heap.size, 1, none⟩ = some (.slice B0 m cR) := LG4.cell 1
              clear PP hold LG4 HW
              go_wp2
              go_loopw [202, 25] (fun i t wr => ∃ (p : Nat) (B2 : Option Addr) (cap2 : Nat), p ≤ m ∧ i = .int .i64 p ∧ t = .slice B2 p cap2 ∧ Rv wr w3.heap.size B2 cap2 ((rs.take p).map (placeV ats)) ∧ Below w3.heap.size w3 wr) (fun i _ _ => m - (intOf i).toNat)
              case atStart => exact ⟨0, none, 0, Nat.zero_le _, rfl, rfl, by simpa using Rv.nil _ _, Below.refl _ _⟩
              case round =>
                obtain ⟨p, B2, cap2, hp, rfl, rfl, RV, B3⟩ := hrel
                by_cases hlt : p < m
                · have p0 : (0 : Int) ≤ (p : Int) := by omega
                  have p1 : (p : Int) < (m : Int) := by omega
                  obtain ⟨adr, rfl, cr⟩ := (HR.out.kept (on (on HBB.out HBB.out.size HO3.out) (on HBB.out HBB.out.size HO3.out).size B3)).at_ (show p < rs.length by rw [HRL.out]; exact hlt)
                  obtain ⟨r, hr⟩ : ∃ r, rs[p]'(by rw [HRL.out]; exact hlt) = r := ⟨_, rfl⟩
                  have HR0 : Hid (0 ≤ r ∧ r ≤ 255) := Lib.hid (by rw [← hr]; exact u8_all (HRB.out _ (List.getElem_mem _)))
                  have htk : (rs.take (p + 1)).map (placeV ats) = (rs.take p).map (placeV ats) ++ [placeV ats r] := by
                    have hlt2 : p < rs.length := by rw [HRL.out]; exact hlt
                    rw [← List.take_append_getElem hlt2, List.map_append, hr]; rfl
                  rw [hr] at cr
                  have HTK := Lib.hid htk
                  have hlen : ((rs.take p).map (placeV ats)).length = p := by simp [HRL.out]; omega
                  have HLEN := Lib.hid hlen
                  have HRV := Lib.hid RV
                  have HB3 := Lib.hid B3
                  have hcall : Calls Tryz.prog 43 #[.slice B q cap, .int .u8 r] wr (fun e w' => e = .returned (.int .i64 (placeV ats r)) ∧ wr = w') := by
                    obtain ⟨_, _, _, _, _, T, _, hl⟩ := HW3.out.kept B3
                    exact ref_any B q cap ats r HCNT.out T.row.row HR0.out.1 HR0.out.2 (by omega) (fun a ha => (hl a ha).2)
                  have HC := Lib.hid hcall
                  clear hr htk hlen RV B3 hcall
                  go_wp2_with fail
                  refine HC.out.mono ?_
                  rintro e w5 ⟨rfl, rfl⟩
                  obtain ⟨y, hy⟩ : ∃ y, placeV ats r = y := ⟨_, rfl⟩
                  rw [hy] at HTK ⊢
                  clear hy HC cr
                  have RV6 := Lib.hid (HRV.out.below (below_one wr (.cells #[.int .i64 y] 3)))
                  have cc : (wr.alloc (.cells #[.int .i64 y] 3)).cell? ⟨wr.heap.size, 0, none⟩ = some (.int .i64 y) := (Lies.new wr 3 [.int .i64 y]).cell 0
                  have B6 := Lib.hid (on HB3.out HB3.out.size (below_one wr (.cells #[.int .i64 y] 3)))
                  go_wp2_with (at_builtin; (have RV7 := RV6.out); refine wpList_append_rv (row := (rs.take p).map (placeV ats)) rfl (.tmp 206) (.tmp 210) rfl (by rw [HLEN.out]; rfl) RV7 B6.out.size (by rw [HLEN.out]; omega) ⟨wr.heap.size, 0, none⟩ y rfl cc ?_; intro B7 cap7 w7 R7 G7 M7; have HR7 := Lib.hid R7; have HB7 := Lib.hid (B6.out.grown G7 B6.out.size (fun k e => (RV6.out.blk_lt e).1)); rw [HLEN.out]; clear R7 G7 M7 RV6 B6 cc RV7)
                  exact ⟨⟨p + 1, _, _, by omega, by go_num, rfl, by rw [HTK.out]; exact HR7.out, HB7.out⟩, by simp [intOf]; omega⟩
                · obtain rfl : p = m := by omega
                  obtain ⟨obs, A, n', c, xs, T, hh, hl⟩ := HW3.out.kept B3
                  have hall : rs.take p = rs := by rw [← HRL.out, List.take_length]
                  rw [hall] at RV
                  have LM4 := (HLM.out.below HO3.out hs2).below B3 (by omega)
                  have m0 : wr.cell? ⟨bz, 0, none⟩ = some (.int .i64 (Z : Int)) := T.box.cell 0
                  have m1 : wr.cell? ⟨bz, 1, none⟩ = some (.slice A n' c) := T.box.cell 1
                  have r0 : wr.cell? ⟨w.heap.size + 1, 0, none⟩ = some (.int .i64 0) := LM4.cell 0
                  have r1 : wr.cell? ⟨w.heap.size + 1, 1, none⟩ = some (.slice none 0 0) := LM4.cell 1
                  have r2 := LM4.frozen 0
                  have r3 := LM4.frozen 1
                  have r4 := LM4.lt
                  have hne : bz ≠ w.heap.size + 1 := by omega
                  have BF := on (on HBB.out HBB.out.size HO3.out) (on HBB.out HBB.out.size HO3.out).size B3
                  have hlo := T.lo
                  have hhi := T.hi
                  have LMd : Lies wr.drew (w.heap.size + 1) 34 [.int .i64 0, .slice none 0 0] := LM4
                  have F : Built w ((wr.drew.setCell ⟨w.heap.size + 1, 0, none⟩ (.int .i64 (Z : Int))).setCell ⟨w.heap.size + 1, 1, none⟩ (.slice A n' c)) ds rs Z g gw gb bz obs tail A n' c xs B2 cap2 (rs.map (placeV ats)) := by
                    refine ⟨T.drew.st.put2 (by omega) (by omega) (by omega) _ _, T.clean, T.len, T.drew.own.put2 LMd _ _, T.count, by rw [hh, HL.out]; exact HHD.out.symm, ((BF.drew).setCell (p := ⟨w.heap.size + 1, 0, none⟩) (by simp) _).setCell (p := ⟨w.heap.size + 1, 1, none⟩) (by simp) _, by simpa using T.room, ⟨by omega, by omega, by omega⟩, hhi, by rw [HL.out, HATS.out], ?_, ?_⟩
                    · have RV2 := (RV.wider (show bz ≤ w3.heap.size by have := (HW3.out).room; omega)).off (w' := wr.drew) fun b _ _ => rfl
                      refine RV2.kept fun b cs hb hl2 => ?_
                      have hne2 : b ≠ w.heap.size + 1 := hl2.apart LMd (by decide)
                      exact (hl2.far (p := ⟨w.heap.size + 1, 0, none⟩) hne2 _).far (p := ⟨w.heap.size + 1, 1, none⟩) hne2 _
                    · intro x hx
                      obtain ⟨r, hr, rfl⟩ := List.mem_map.1 hx
                      exact place_live (fun a ha => (hl a ha).1) (u8_all (HRB.out r hr)).1
                  have HFF := Lib.hid F
                  clear F T RV LM4 LMd BF hlo hhi hh hl hall B3
                  go_wp2
                  go_region
                  go_wp2
                  have lt2 : w.heap.size + 1 < wr.drew.heap.size := r4
                  refine bodyPost_ret (v := .tuple #[.pointer (some ⟨g, 0, none⟩), .slice B2 p cap2, .agg #[.int .i64 (Z : Int), .slice A n' c]]) (by simp [results, Tryz.results23, go_sem, r0, r1, r2, r3, r4, lt2]) rfl ?_
                  exact ⟨g, gw, gb, bz, obs, tail, A, n', c, xs, B2, cap2, _, by rw [HZZ.out], by rw [HZZ.out]; exact HFF.out⟩
end Go.Proofs.YtklhdilbmpndkaaGreat

namespace Go.Proofs.YtklhdilbmpndkaaGreat
set_option maxRecDepth 20000
open Go.RowKit
set_option linter.unusedVariables false
set_option linter.unusedSimpArgs false

/-- Which places are marked: those of the objects of these numbers. -/
def markB (obs : List Ob) (zs : List Int) (p : Nat) : Bool := zs.any fun z => decide (obs ≠ []) && decide (p = atI obs (z % (obs.length : Int)).toNat)
theorem mark_more (obs : List Ob) (zs : List Int) (z : Int) (p : Nat) : markB obs (zs ++ [z]) p = (markB obs zs p || (decide (obs ≠ []) && decide (p = atI obs (z % (obs.length : Int)).toNat))) := by
  unfold markB; simp

/-- The program's heap and the document's, and a map of their places. -/
structure Mkd (w w' : World) (ds : List Nd) (rs zs : List Int) (Z : Nat) (g gw gb base : Nat) (obs : List Ob) (tail : List Int) (A : Option Addr) (n c : Nat) (xs : List Value) (mg mw : Nat) (ws : List Nat) : Prop where
  heap : ∃ B cap rts, Built w w' ds rs Z g gw gb base obs tail A n c xs B cap rts
  map : Mk.At w' mg mw Z ws
  bits : ∀ p, Mk.bit ws p = markB obs zs p
  lo : w.heap.size ≤ mg ∧ w.heap.size ≤ mw
  hi : (g < mg ∧ gw < mg ∧ gb < mg) ∧ (g < mw ∧ gw < mw ∧ gb < mw)
theorem Mkd.kept {w w' w'' : World} {ds : List Nd} {rs zs : List Int} {Z g gw gb base n c mg mw : Nat} {obs : List Ob} {tail : List Int} {A : Option Addr} {xs : List Value} {ws : List Nat} (h : Mkd w w' ds rs zs Z g gw gb base obs tail A n c xs mg mw ws) (hb : Below w'.heap.size w' w'') :
    Mkd w w'' ds rs zs Z g gw gb base obs tail A n c xs mg mw ws := by
  obtain ⟨B, cap, rts, hB⟩ := h.heap
  exact ⟨⟨B, cap, rts, hB.kept hb⟩, h.map.kept hb, h.bits, h.lo, h.hi⟩
theorem Mkd.old {w w' : World} {ds : List Nd} {rs zs : List Int} {Z g gw gb base n c mg mw : Nat} {obs : List Ob} {tail : List Int} {A : Option Addr} {xs : List Value} {ws : List Nat} (h : Mkd w w' ds rs zs Z g gw gb base obs tail A n c xs mg mw ws) : Below w.heap.size w w' := by
  obtain ⟨B, cap, rts, hB⟩ := h.heap
  exact hB.old

theorem at_lt {obs : List Ob} {i : Nat} {o : Ob} (h : obs[i]? = some o) : atI obs i < (flat obs).length := by
  have h1 := atI_succ h
  have h2 := atI_le obs (i + 1)
  omega

end Go.Proofs.YtklhdilbmpndkaaGreat
