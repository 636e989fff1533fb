/- RollAgain walked: from the middle of a log on. -/
import Derived.Test.YtaiebhkjkeadoaaRollTorn
import Derived.Test.YtaiebhkjkeadoaaRollEmpty
import Derived.Test.YtaiebhkjkeadoaaRollAgainR
import Derived.Test.YtaiebhkjkeadoaaRollAgainC
import Derived.Test.YtaiebhkjkeadoaaHeadSame
namespace Go.Proofs.Ytaiebhkjkeadoaa
open Go.RowKit Lo Hdp Chk Rec Rol


set_option maxRecDepth 20000 in
set_option maxHeartbeats 16000000 in
theorem rollAgain_few (v : Value) (l : List Int) (from_ : Int) (w : World) (hI : Ints w v l) (hl : l.length ≤ 40) :
    Calls Try.prog 4 #[v, .int .i64 from_] w fun e w' => e = .returned (.bool true) ∧ Below w.heap.size w w' := by
  have NW := rfhid (new_t304 w)
  have GE := rfhid geom_t304
  have SG := rfhid segs8_t
  have SL := rfhid (fun (w1 : World) => slot0_t 2 w1)
  have AW := rfhid awake_t15
  have FL := rfhid (fun (b gd : Nat) (V : Nat → Value) (u : World) (hD : Disk u b (St.new 304) gd V) (hb : Below w.heap.size w u) (hf : ∀ k, foot b gd V k → w.heap.size ≤ k) => fill_t b gd V v l u hD (hI.on hb) (away_in hI (Nat.le_refl _) hf) (by omega))
  have hd1 : decide ((40 : Int) < (l.length : Int)) = false := decide_eq_false (by omega)
  obtain ⟨vad, vcap, rfl, -⟩ := hI
  go_enter Try.func4, Try.ntmps4
  go_wp2_with fail
  refine NW.out.mono ?_
  rintro e w1 ⟨b, gd, V, rfl, hD1, hb1, hf1⟩
  have HB1 := rfhid hb1
  have HF1 := rfhid hf1
  have FL1 := rfhid (FL.out b gd V w1 hD1 hb1 hf1)
  clear hD1 hb1 hf1 NW FL
  go_wp2_with fail
  refine FL1.out.mono ?_
  rintro e w2 ⟨mv, cs, S, V2, L, rfl, hmo, -, hD2, hfil, hst, hcl, -, -⟩
  obtain ⟨mad, mcap, rfl⟩ := hmo.slice
  have hlen : (lens cs).length = cs.length := by simp [lens]
  rw [hlen]
  have HD2 := rfhid hD2
  have HB2 : Hid (Below w.heap.size w w2) := hst.under HB1.out HF1.out (Nat.le_refl _)
  have HFil := rfhid hfil
  have HSN := rfhid hfil.n
  have HSD := rfhid hfil.down
  have hclen : cs.length ≤ 40 := by omega
  clear hmo hD2 hfil hst FL1 HB1 HF1 hcl hlen
  go_wp2_with fail
  refine (GE.out _).mono ?_
  rintro e w3 ⟨rfl, hb⟩
  have HB3 : Hid (Below w2.heap.size w2 w3) := hb
  clear hb
  go_wp2_with fail
  refine (SG.out _).mono ?_
  rintro e w4 ⟨sad, rfl, hI4, hb⟩
  have HI4 := rfhid hI4
  have HB4 : Hid (Below w2.heap.size w2 w4) := HB3.out.trans (hb.mono HB3.out.size)
  clear hb hI4 HB3
  go_wp2_with fail
  refine (SL.out _).mono ?_
  rintro e w5 ⟨rfl, hb⟩
  have HI5 := rfhid (HI4.out.on hb)
  have HB5 : Hid (Below w2.heap.size w2 w5) := HB4.out.trans (hb.mono HB4.out.size)
  clear hb HI4 HB4
  go_wp2_with fail
  refine (fw_t b gd S V2 lgB (bare L) _ (seqL 0 8) cs w5 HI5.out (by decide) (HD2.out.below HB5.out) HSN.out HSD.out HFil.out.rolls (by omega)).mono ?_
  rintro e w6 ⟨lad, lcap, Lv, rfl, hO, hm, hb⟩
  have HB6 : Hid (Below w2.heap.size w2 w6) := HB5.out.trans (hb.mono HB5.out.size)
  have HO := rfhid hO
  have HM := rfhid hm
  clear hb HB5 HI5 hO hm
  obtain ⟨B, hB⟩ : ∃ B, bare L = B := ⟨_, rfl⟩
  rw [hB]
  have HBL := rfhid hB
  clear hB
  obtain ⟨bhouse, bgen, bnum, blife, bclock, bseg, bpos, bnext, bseq, b0, b1, b2, b3, b4, b5, bfl⟩ := B
  obtain ⟨m, hm⟩ : ∃ m, cs.length = m := ⟨_, rfl⟩
  have HCL := rfhid hm
  rw [hm] at hclen ⊢
  clear hm
  have hmm : ((m : Int) != (m : Int)) = false := by simp
  rcases Nat.eq_zero_or_pos m with h0 | hc0
  · have hz0 : ((m : Int) == 0) = true := by rw [h0]; rfl
    clear h0
    go_wp2_with fail
    generalize hX : World.alloc w6 _ = X
    have HBX : Hid (Below w.heap.size w X) := by
      rw [← hX]
      exact HB2.out.trans ((HB6.out.alloc HB6.out.size _).mono HB2.out.size)
    clear hX
    refine (AW.out _).mono ?_
    rintro e w13 ⟨rfl, hb⟩
    have HZ : Hid (Below w.heap.size w w13) := HBX.out.trans (hb.mono HBX.out.size)
    clear hb HBX
    go_wp2_with fail
    go_ret
    exact ⟨rfl, HZ.out⟩
  have hz0 : ((m : Int) == 0) = false := by rw [beq_eq_false_iff_ne]; omega
  obtain ⟨k, hk, hkm⟩ : ∃ k : Nat, from_ % (m : Int) = (k : Int) ∧ k < m := ⟨(from_ % (m : Int)).toNat, by have := Int.emod_nonneg from_ (by omega : (m : Int) ≠ 0); omega, by have := Int.emod_nonneg from_ (by omega : (m : Int) ≠ 0); have := Int.emod_lt_of_pos from_ (by omega : (0 : Int) < (m : Int)); omega⟩
  have PLa := rfhid (fun (w1 : World) => gplace_t from_ m w1 (by omega) (by omega))
  rw [hk] at PLa
  clear hk
  have hkc : k < cs.length := by rw [HCL.out]; exact hkm
  have hag := HFil.out.again k hkc
  obtain ⟨f, hf⟩ : ∃ f, cs[k] = f := ⟨_, rfl⟩
  have HF := rfhid hf
  obtain ⟨-, -, -, -, hnx, hlies⟩ := HFil.out.head k hkc
  rw [hf] at hlies hnx hag
  rw [HBL.out, hnx] at hag
  have hs0 := hlies.seg0
  have hs1 : f.seg < 8 := hlies.seg1
  have hp0 := hlies.pos0
  have hp1 := hlies.pos1
  have HAG := rfhid hag
  clear hlies hf hag
  go_wp2_with fail
  generalize hX : World.alloc w6 _ = X
  have hr8 : X.heap[w6.heap.size]? = some (.cells #[.int .i64 bnum, .int .i64 blife, .int .i64 bclock, .int .i64 bseg, .int .i64 bpos, .int .i64 bnext, .int .i64 bseq, .int .i64 b0, .int .i64 b1, .int .i64 b2, .int .i64 b3, .int .i64 b4, .int .i64 b5] 29 (0, 0)) := by rw [← hX]; exact heap_alloc_new _ _
  have hb : Below w6.heap.size w6 X := by rw [← hX]; exact (Below.refl _ _).alloc (Nat.le_refl _) _
  have HBX : Hid (Below w2.heap.size w2 X) := HB6.out.trans (hb.mono HB6.out.size)
  have HOX := rfhid (HO.out.on hb)
  have HR8 := rfhid hr8
  have hs6 : w2.heap.size ≤ w6.heap.size := HB6.out.size
  clear hX hb HO HB6 hr8
  refine (PLa.out _).mono ?_
  rintro e wq ⟨rfl, rfl⟩
  clear PLa
  go_wp2_with fail
  refine (SL.out _).mono ?_
  rintro e y1 ⟨rfl, hb⟩
  have HBy : Hid (Below w2.heap.size w2 y1) := HBX.out.trans (hb.mono HBX.out.size)
  have HOy := rfhid (HOX.out.on hb)
  have HR8y := rfhid (row_on HR8.out hb)
  clear hb HBX HOX HR8 SL
  go_wp2_with fail
  generalize hW : World.alloc y1 _ = W
  have hr10 : W.heap[y1.heap.size]? = some (.cells #[.int .i64 1, .int .i64 2, .int .i64 0, .int .i64 0, .int .i64 0, .int .i64 1, .int .i64 5, .int .i64 0, .int .i64 0, .int .i64 0, .int .i64 0, .int .i64 0, .int .i64 0] 29 (0, 0)) := by rw [← hW]; exact heap_alloc_new _ _
  have hb : Below y1.heap.size y1 W := by rw [← hW]; exact (Below.refl _ _).alloc (Nat.le_refl _) _
  have HBW := rfhid hb
  have hs7 : w2.heap.size ≤ y1.heap.size := HBy.out.size
  have hs8 : y1.heap.size < W.heap.size := (Array.getElem?_eq_some_iff.1 hr10).1
  clear hW
  obtain ⟨g, had, hcap, bad, bcap, rfl, q0, q1, -, -, -, -, q6, -, -, -, -, q11, -, -⟩ := fnd_cells (HOy.out.on hb) HM.out k hkc
  have HFe := HF.out
  rw [HFe] at q0 q1 q6 q11
  clear HFe hb
  have hki : (k : Int) < (m : Int) := by omega
  obtain ⟨p0, p1, p2, p3, p4, p5, p6, p7, p8, p9, p10, p11, p12⟩ := cells13 hr10
  obtain ⟨f0, f1, f2, f3, f4, f5, f6, f7, f8, f9, f10, f11, f12⟩ := frozen13 hr10
  have HR10 := rfhid hr10
  clear hr10
  go_region
  generalize hY : World.drew _ = Y
  have hrY : Y.heap[y1.heap.size]? = some (.cells #[.int .i64 1, .int .i64 2, .int .i64 (k : Int), .int .i64 f.seg, .int .i64 (f.pos + 1 + (f.bl.length : Int)), .int .i64 (f.seg + 1), .int .i64 (6 + (k : Int)), .int .i64 0, .int .i64 0, .int .i64 0, .int .i64 0, .int .i64 0, .int .i64 0] 29 (0, 0)) := by
    rw [← hY]
    show (World.setCell _ _ _).heap[y1.heap.size]? = _
    exact heap_setCell_same _ y1.heap.size 2 _ _ _ (heap_setCell_same _ y1.heap.size 6 _ _ _ (heap_setCell_same _ y1.heap.size 5 _ _ _ (heap_setCell_same _ y1.heap.size 4 _ _ _ (heap_setCell_same W y1.heap.size 3 _ _ _ HR10.out))))
  have hbY : Below y1.heap.size y1 Y := by
    rw [← hY]
    exact ro_drew (((((HBW.out.setCell (p := ⟨y1.heap.size, 3, none⟩) (Nat.le_refl _) _).setCell (p := ⟨y1.heap.size, 4, none⟩) (Nat.le_refl _) _).setCell (p := ⟨y1.heap.size, 5, none⟩) (Nat.le_refl _) _).setCell (p := ⟨y1.heap.size, 6, none⟩) (Nat.le_refl _) _).setCell (p := ⟨y1.heap.size, 2, none⟩) (Nat.le_refl _) _)
  clear hY
  have HBY : Hid (Below w2.heap.size w2 Y) := HBy.out.trans (hbY.mono hs7)
  have HOY := rfhid (HOy.out.on hbY)
  have HR8Y := rfhid (row_on HR8y.out hbY)
  have hsY : y1.heap.size < Y.heap.size := (Array.getElem?_eq_some_iff.1 hrY).1
  have HR9 := rfhid hrY
  obtain ⟨n, hn⟩ : ∃ n, (cs.drop (k + 1)).length = n := ⟨_, rfl⟩
  have HN := rfhid hn
  have HNM : Hid (n = m - (k + 1)) := by show n = _; rw [← hn, List.length_drop, HCL.out]
  clear hbY hrY HBW HBy HOy HR8y HR10 hn hs8 q0 q1 q6 q11 p0 p1 p2 p3 p4 p5 p6 p7 p8 p9 p10 p11 p12 f0 f1 f2 f3 f4 f5 f6 f7 f8 f9 f10 f11 f12
  have FW := rfhid (fun (w8 : World) (v8 : Value) (hI : Ints w8 v8 (seqL 0 8)) (hb : Below Y.heap.size Y w8) => (fw_t b gd S V2 ⟨3, 7, 1, 2, k, f.seg, f.pos + 1 + (f.bl.length : Int), f.seg + 1, 6 + (k : Int), 0, 0, 0, 0, 0, 0, []⟩ ⟨bhouse, bgen, bnum, blife, bclock, bseg, bpos, bnext, bseq, b0, b1, b2, b3, b4, b5, bfl⟩ v8 (seqL 0 8) (cs.drop (k + 1)) w8 hI (by decide) (HD2.out.below (HBY.out.trans (hb.mono HBY.out.size))) HSN.out HSD.out HAG.out (by have := HNM.out; rw [HN.out]; omega)).mono fun e w' ⟨ad, cap, Lv, he, hO, hm, hb2⟩ => fw_gotL he hb hO hm hb2)
  rw [HN.out] at FW
  clear HF hs0 hs1 hp0 hp1 hnx HAG HD2 HSN HSD
  go_wp2_with fail
  go_cut [11, 12] (fun l t wc => ∃ lad lcap G Lv2, l = .slice lad n lcap ∧ t = .pointer (some ⟨G, 0, none⟩) ∧ Hid (Rg Y y1.heap.size (.cells #[.int .i64 1, .int .i64 2, .int .i64 (k : Int), .int .i64 f.seg, .int .i64 (f.pos + 1 + (f.bl.length : Int)), .int .i64 (f.seg + 1), .int .i64 (6 + (k : Int)), .int .i64 0, .int .i64 0, .int .i64 0, .int .i64 0, .int .i64 0, .int .i64 0] 29 (0, 0)) G ⟨bhouse, bgen, bnum, blife, bclock, bseg, bpos, bnext, bseq, b0, b1, b2, b3, b4, b5, bfl⟩ wc) ∧ Hid (FOwn wc Y.heap.size (.slice lad n lcap) Lv2) ∧ Hid (Lv2.map (·.f) = cs.drop (k + 1)))
  case first =>
    refine again_call hsY HR9 FW (rfhid ?_)
    intro u78 u79 u80 u81 u82 u83 u84 u85 lad2 lcap2 G Lv2 w9 hG hO hM
    go_wp2_with fail
    go_meet
    case rel => exact ⟨_, _, _, _, rfl, rfl, hG, hO, hM⟩
  case rest =>
    obtain ⟨lad2, lcap2, G, Lv2, rfl, rfl, HG, HO2, HM2⟩ := hcut
    clear FW HR9 GE SG
    have hr8 := row_on HR8Y.out HG.out.below
    have hr12 := HG.out.row
    have HOc := rfhid (HOY.out.on HG.out.below)
    have HBc : Hid (Below w2.heap.size w2 wc) := HBY.out.trans (HG.out.below.mono HBY.out.size)
    obtain ⟨p0, p1, p2, p3, p4, p5, p6, p7, p8, p9, p10, p11, p12⟩ := cells13 hr8
    obtain ⟨z0, z1, z2, z3, z4, z5, z6, z7, z8, z9, z10, z11, z12⟩ := cells13 hr12
    have hnn : ((n : Int) != (m : Int) - 1 - (k : Int)) = false := by
      rw [bne_eq_false_iff_eq]
      have := HNM.out
      omega
    have PS := rfhid (fun (w1 : World) => psame_t ⟨bhouse, bgen, bnum, blife, bclock, bseg, bpos, bnext, bseq, b0, b1, b2, b3, b4, b5, bfl⟩ w1)
    clear hr8 hr12 HG HOY HR8Y HBY
    go_wp2_with fail
    refine (PS.out _).mono ?_
    rintro e y2 ⟨rfl, hb⟩
    have HOd := rfhid (HOc.out.on hb)
    have HO3 := rfhid (HO2.out.on hb)
    have HBd : Hid (Below w2.heap.size w2 y2) := HBc.out.trans (hb.mono HBc.out.size)
    clear hb HOc HO2 HBc PS p0 p1 p2 p3 p4 p5 p6 p7 p8 p9 p10 p11 p12 z0 z1 z2 z3 z4 z5 z6 z7 z8 z9 z10 z11 z12
    go_wp2_with fail
    go_loopw [13] (fun c wr => ∃ i : Nat, i ≤ n ∧ c = .int .i64 i ∧ Hid (Below y2.heap.size y2 wr)) (fun c _ => n - (intOf c).toNat)
    case atStart => exact ⟨0, by omega, rfl, Below.refl _ _⟩
    case round =>
      obtain ⟨i, hin, rfl, HBR⟩ := hrel
      rcases Nat.lt_or_ge i n with hlt | hge
      · have hi1 : (i : Int) < (n : Int) := by omega
        have hic : i < (cs.drop (k + 1)).length := by rw [HN.out]; exact hlt
        obtain ⟨j, hj, hji⟩ : ∃ j : Nat, j = k + 1 + i ∧ (k : Int) + 1 + (i : Int) = (j : Int) := ⟨k + 1 + i, rfl, by omega⟩
        have hjc : j < cs.length := by have := HNM.out; rw [HCL.out]; omega
        obtain ⟨g2, had2, hcap2, bad2, bcap2, rfl, r0, r1, r2, r3, r4, r5, r6, r7, r8, r9, r10, -, hE2, -⟩ := fnd_cells (HO3.out.on HBR.out) HM2.out i hic
        obtain ⟨g', had, hcap, bad, bcap, hgg, q0, q1, q2, q3, q4, q5, q6, q7, q8, q9, q10, -, hE, -⟩ := fnd_cells (HOd.out.on HBR.out) HM.out j hjc
        have hge : g = g' := by injection hgg with h; injection h with h
        subst hge
        have hcd : (cs.drop (k + 1))[i] = cs[j] := by rw [List.getElem_drop]; simp only [hj]
        rw [hcd] at r0 r1 r2 r3 r4 r5 r6 r7 r8 r9 r10 hE2
        obtain ⟨-, -, -, -, -, hlies⟩ := HFil.out.head j hjc
        have hhl : cs[j].head.list.length ≤ 1000 := by
          have := okB_len (makeB_parts hlies.made).2.2.1
          omega
        clear hlies hcd hgg
        obtain ⟨h, hh⟩ : ∃ h, cs[j] = h := ⟨_, rfl⟩
        rw [hh] at r0 r1 r2 r3 r4 r5 r6 r7 r8 r9 r10 q0 q1 q2 q3 q4 q5 q6 q7 q8 q9 q10 hE hE2 hhl
        clear hh
        have SAM : Hid (∀ w1 : World, Below wr.heap.size wr w1 → Calls Try.prog 16 #[.agg #[.int .i64 h.head.house, .int .i64 h.head.gen, .int .i64 h.head.life, .int .i64 h.head.seq, .int .i64 h.head.next, .int .i64 h.head.clock, .int .i64 h.head.sb, .int .i64 h.head.sn, .slice had2 h.head.list.length hcap2], .agg #[.int .i64 h.head.house, .int .i64 h.head.gen, .int .i64 h.head.life, .int .i64 h.head.seq, .int .i64 h.head.next, .int .i64 h.head.clock, .int .i64 h.head.sb, .int .i64 h.head.sn, .slice had h.head.list.length hcap]] w1 fun e w' => e = .returned (.bool true) ∧ Below w1.heap.size w1 w') := fun w1 hb => same_t h.head _ _ w1 (hE2.on hb) (hE.on hb) hhl
        have hji1 : (j : Int) < (m : Int) := by have := HNM.out; omega
        have hw1 : IntKind.i64.wrap ((k : Int) + 1) = (k : Int) + 1 := lgwrap _ (by omega) (by omega)
        have hw2 : IntKind.i64.wrap ((k : Int) + 1 + (i : Int)) = (j : Int) := by rw [hji]; exact lgwrap _ (by omega) (by omega)
        have hi0 : (0 : Int) ≤ (i : Int) := by omega
        have hj0 : (0 : Int) ≤ (j : Int) := by omega
        have hi40 : i ≤ 40 := by have := HNM.out; omega
        clear hji
        clear hE hE2 hhl hj hic hjc
        refine again_round (h := h) hi1 hji1 hi0 hj0 hi40 hw1 hw2 r0 r1 r2 r3 r4 r5 r6 r7 r8 r9 r10 q0 q1 q2 q3 q4 q5 q6 q7 q8 q9 q10 SAM (rfhid ?_)
        intro u100 u101 u102 u103 u104 u105 u106 u107 u108 u109 u110 u111 u112 u113 u114 u115 u116 u117 u118 u119 u120 u121 u122 u123 u124 u125 u126 u127 u128 u129 u130 u131 u132 u133 u134 u135 u136 u137 u138 u139 u140 u141 u142 u143 u144 u145 u146 u147 u148 u149 u150 u151 u152 w9 hb9
        have HB9 := rfhid hb9
        clear hb9 r0 r1 r2 r3 r4 r5 r6 r7 r8 r9 r10 q0 q1 q2 q3 q4 q5 q6 q7 q8 q9 q10 SAM
        go_wp2_with fail
        refine ⟨⟨i + 1, by omega, by go_num, HBR.out.trans (HB9.out.mono HBR.out.size)⟩, by simp [intOf]; omega⟩
      · have e : i = n := by omega
        subst e
        have HBw := rfhid (HB2.out.trans ((HBd.out.trans (HBR.out.mono HBd.out.size)).mono HB2.out.size))
        go_wp2_with fail
        refine (AW.out _).mono ?_
        rintro e wz ⟨rfl, hb⟩
        have HZ : Hid (Below w.heap.size w wz) := HBw.out.trans (hb.mono HBw.out.size)
        clear hb HBw
        go_wp2_with fail
        go_ret
        exact ⟨rfl, HZ.out⟩
theorem rollAgain_many (v : Value) (l : List Int) (from_ : Int) (w : World) (hI : Ints w v l) (hl : 40 < l.length) (hl2 : l.length ≤ 9223372036854775807) :
    Calls Try.prog 4 #[v, .int .i64 from_] w fun e w' => e = .returned (.bool true) ∧ Below w.heap.size w w' := by
  have AW := rfhid awake_t15
  obtain ⟨vad, vcap, rfl, -⟩ := hI
  go_enter Try.func4, Try.ntmps4
  go_wp2_with fail
  refine (AW.out _).mono ?_
  rintro e w1 ⟨rfl, hb⟩
  have HB := rfhid hb
  clear hb AW
  go_wp2_with fail
  go_ret
  exact ⟨rfl, HB.out⟩
theorem rollAgain_t (v : Value) (l : List Int) (from_ : Int) (w : World) (hI : Ints w v l) (hl2 : l.length ≤ 9223372036854775807) :
    Calls Try.prog 4 #[v, .int .i64 from_] w fun e w' => e = .returned (.bool true) ∧ Below w.heap.size w w' := by
  rcases Nat.lt_or_ge 40 l.length with h | h
  · exact rollAgain_many v l from_ w hI h hl2
  · exact rollAgain_few v l from_ w hI h
end Go.Proofs.Ytaiebhkjkeadoaa
