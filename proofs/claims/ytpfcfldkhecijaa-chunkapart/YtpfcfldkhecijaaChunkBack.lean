/- ChunkBack walked: what is made is parsed, whatever stands behind; with a bit turned, or a block of it lost, it is none. -/
import Derived.Test.YtpfcfldkhecijaaChunkMade
import Derived.Test.YtpfcfldkhecijaaChunkSame
import Derived.Test.YtpfcfldkhecijaaHeadSame
import Derived.Test.YtpfcfldkhecijaaTurned
import Derived.Test.YtpfcfldkhecijaaPlace
namespace Go.Proofs.Ytpfcfldkhecijaa
open Go.RowKit Rec Hdp Chk

/-- What is walked of a head by numbers. -/
theorem made_agg (l : List Int) (v : Value) (w : World) (hI : Ints w v l) (hl : l.length ≤ 9223372036854775807) :
    Calls Try.prog 15 #[v] w fun e w' => ∃ ad cap bad bcap, e = .returned (.tuple #[.agg #[.int .i64 1, .int .i64 2, .int .i64 3, .int .i64 4, .int .i64 5, .int .i64 6, .int .i64 0, .int .i64 0, .slice ad (l.take 24).length cap], .slice bad (l.take 24).length bcap]) ∧ Ents w' (.slice ad (l.take 24).length cap) (madeE (l.take 24)) ∧ TOwn w' w.heap.size (.slice bad (l.take 24).length bcap) (madeK (l.take 24)) ∧ Below w.heap.size w w' := made_t l v w hI hl
theorem make_agg (L : List Int) (ad : Option Addr) (n cap : Nat) (bv : Value) (w : World) (h : L.length ≤ 24) (hE : Ents w (.slice ad n cap) (madeE L)) (hT : Txts w bv (madeK L)) :
    Calls Try.prog 9 #[.agg #[.int .i64 1, .int .i64 2, .int .i64 3, .int .i64 4, .int .i64 5, .int .i64 6, .int .i64 0, .int .i64 0, .slice ad n cap], bv] w fun e w' => e = .returned (.tuple #[.string (makeS (madeX L) (madeK L)), .bool true]) ∧ Below w.heap.size w w' := by
  have := make_t (madeX L) (.slice ad n cap) bv (madeK L) w hE hT (by rw [madeK_length]; omega)
  rw [made_yes h] at this
  exact this
theorem parsed_agg (L : List Int) (more : ByteArray) (w : World) (h : L.length ≤ 24) (hl : more.size ≤ 50000) :
    Calls Try.prog 11 #[.string (makeS (madeX L) (madeK L) ++ more)] w fun e w' => ∃ ad cap bad bcap, e = .returned (.tuple #[.agg #[.int .i64 1, .int .i64 2, .int .i64 3, .int .i64 4, .int .i64 5, .int .i64 6, .int .i64 0, .int .i64 0, .slice ad L.length cap], .slice bad L.length bcap, .bool true]) ∧ Ents w' (.slice ad L.length cap) (madeE L) ∧ TOwn w' w.heap.size (.slice bad L.length bcap) (madeK L) ∧ Below w.heap.size w w' := by
  have := parsed_t (madeX L) (madeK L) more w (made_yes h) (by rw [ByteArray.size_append, makeS_size (made_yes h), madeK_length]; omega)
  rw [madeK_length] at this
  have e : (madeX L).list.length = L.length := madeE_length L
  rw [e] at this
  exact this
theorem none_agg (s : ByteArray) (w : World) (h : parB s = false) (hl : s.size ≤ 100000) :
    Calls Try.prog 11 #[.string s] w fun e w' => ∃ ad cap bad bcap, e = .returned (.tuple #[.agg #[.int .i64 0, .int .i64 0, .int .i64 0, .int .i64 0, .int .i64 0, .int .i64 0, .int .i64 0, .int .i64 0, .slice ad 0 cap], .slice bad 0 bcap, .bool false]) ∧ Below w.heap.size w w' := parsed_no s w h hl
theorem same_agg (L : List Int) (v v' : Value) (w : World) (h : L.length ≤ 24) (hE : Ents w v (madeE L)) (hE' : Ents w v' (madeE L)) :
    Calls Try.prog 13 #[.agg #[.int .i64 1, .int .i64 2, .int .i64 3, .int .i64 4, .int .i64 5, .int .i64 6, .int .i64 0, .int .i64 0, v], .agg #[.int .i64 1, .int .i64 2, .int .i64 3, .int .i64 4, .int .i64 5, .int .i64 6, .int .i64 0, .int .i64 0, v']] w fun e w' => e = .returned (.bool true) ∧ Below w.heap.size w w' :=
  same_t (madeX L) v v' w hE hE' (by show (madeE L).length ≤ 1000; rw [madeE_length]; omega)

set_option maxRecDepth 20000 in
set_option maxHeartbeats 8000000 in
theorem chunkBack_t (l : List Int) (v : Value) (more : ByteArray) (bit lost : Int) (w : World) (hI : Ints w v l) (hl : l.length ≤ 9223372036854775807) (hm9 : more.size ≤ 9223372036854775807) :
    Calls Try.prog 4 #[v, .string more, .int .i64 bit, .int .i64 lost] w fun e w' => e = .returned (.bool true) ∧ Below w.heap.size w w' := by
  have AW := hdhid awake_t
  have MD := hdhid (fun w1 (h : Ints w1 v l) => made_agg l v w1 h hl)
  have HI := hdhid hI
  by_cases h2000 : (2000 : Int) < (more.size : Int)
  · have hd : decide ((2000 : Int) < (more.size : Int)) = true := decide_eq_true h2000
    clear MD HI
    go_enter Try.func4, Try.ntmps4
    go_wp2_with fail
    refine (AW.out _).mono ?_
    rintro e w1 ⟨rfl, hb⟩
    have HB := hdhid hb
    clear hb AW
    go_wp2_with fail
    go_ret
    exact ⟨rfl, HB.out⟩
  · have hd : decide ((2000 : Int) < (more.size : Int)) = false := decide_eq_false h2000
    have hms : more.size ≤ 2000 := by omega
    clear h2000
    have hL24 : (l.take 24).length ≤ 24 := by rw [List.length_take]; omega
    obtain ⟨L, hL⟩ : ∃ L, l.take 24 = L := ⟨_, rfl⟩
    rw [hL] at MD hL24
    clear hL
    have MK := hdhid (fun ad n cap bv w1 hE hT => make_agg L ad n cap bv w1 hL24 hE hT)
    have PA := hdhid (fun w1 => parsed_agg L more w1 hL24 (by omega))
    have SA := hdhid (fun v v' w1 hE hE' => same_agg L v v' w1 hL24 hE hE')
    have SS := hdhid (fun v u w1 hE hE' => sameTxts_yes v u (madeK L) w1 (by rw [madeK_length]; omega) hE hE')
    have NT := hdhid (fun s w1 h hl => none_agg s w1 h hl)
    have HTU : Hid (∀ i (hi : i < (makeS (madeX L) (madeK L)).data.toList.length) y s, y ≠ (makeS (madeX L) (madeK L)).data.toList[i] → s.data.toList = (makeS (madeX L) (madeK L)).data.toList.set i y → parB s = false) := fun i hi y s hy hs => par_turned (made_yes hL24) hi hy hs
    have HLO : Hid (∀ k, k ≤ L.length → parB ((makeS (madeX L) (madeK L)).extract 0 (256 * k)) = false) := fun k hk => par_lost (made_yes hL24) k (by rw [madeK_length]; exact hk)
    have hM0 : (makeS (madeX L) (madeK L)).size = 256 * (1 + L.length) := by rw [makeS_size (made_yes hL24), madeK_length]
    generalize makeS (madeX L) (madeK L) = S at *
    have hML : Hid (S.data.toList.length = S.size) := (size_list S).symm
    obtain ⟨M, hM⟩ : ∃ M, S.size = M := ⟨_, rfl⟩
    rw [hM] at hM0
    have HM0 := hdhid hM0
    obtain ⟨n, hn⟩ : ∃ n, L.length = n := ⟨_, rfl⟩
    rw [hn] at MD PA HLO hL24 hM0 HM0
    clear hn
    have hne : ((M : Int) != 256 * (1 + (n : Int))) = false := by rw [bne_eq_false_iff_eq]; omega
    have hSm : S.size + more.size ≤ 9223372036854775806 := by omega
    have hM1 : M ≤ 6400 := by omega
    have hM2 : 256 ≤ M := by omega
    have p0 := Int.emod_nonneg bit (show (8 * (M : Int)) ≠ 0 by omega)
    have p1 := Int.emod_lt_of_pos bit (show (0 : Int) < 8 * (M : Int) by omega)
    have PLq := hdhid (fun w => gplace_t bit (8 * (M : Int)) w (by omega) (by omega))
    obtain ⟨q, hq⟩ : ∃ q : Nat, bit % (8 * (M : Int)) = (q : Int) := ⟨(bit % (8 * (M : Int))).toNat, by omega⟩
    rw [hq] at PLq p0 p1
    have hqM : q < 8 * M := by omega
    clear hq p0 p1
    have r0 := Int.emod_nonneg lost (show (1 + (n : Int)) ≠ 0 by omega)
    have r1 := Int.emod_lt_of_pos lost (show (0 : Int) < 1 + (n : Int) by omega)
    have PLk := hdhid (fun w => gplace_t lost (1 + (n : Int)) w (by omega) (by omega))
    obtain ⟨k, hk⟩ : ∃ k : Nat, lost % (1 + (n : Int)) = (k : Int) := ⟨(lost % (1 + (n : Int))).toNat, by omega⟩
    rw [hk] at PLk r0 r1
    have hkn : k ≤ n := by omega
    have HLO2 := hdhid (HLO.out k hkn)
    obtain ⟨E, hE⟩ : ∃ E, 256 * k = E := ⟨_, rfl⟩
    rw [hE] at HLO2
    have hEk : (k : Int) * 256 = (E : Int) := by omega
    have hEM : E ≤ M := by omega
    clear hk r0 r1 HLO hE hM0 hkn
    go_enter Try.func4, Try.ntmps4
    go_wp2_with fail
    refine (MD.out _ HI.out).mono ?_
    rintro e w1 ⟨ad, cap, bad, bcap, rfl, hE1, hT1, hb1⟩
    have HE1 := hdhid hE1
    have HT1 := hdhid hT1.txts
    have HB1 := hdhid hb1
    clear hE1 hT1 hb1 MD HI
    go_wp2_with fail
    generalize hV : World.alloc w1 _ = V1
    have HH1 : Hid (V1.heap[w1.heap.size]? = some (.cells (headC ⟨1, 2, 3, 4, 5, 6, 0, 0, []⟩ (.slice ad n cap)) 24 (0, 0))) := by rw [← hV]; exact heap_alloc_new _ _
    have HV1 : Below w1.heap.size w1 V1 := by rw [← hV]; exact (Below.refl _ w1).alloc (Nat.le_refl _) _
    have hv1 : w1.heap.size < V1.heap.size := by rw [← hV]; simp
    have HE2 := hdhid (HE1.out.on HV1)
    have HT2 := hdhid (HT1.out.on HV1)
    have HB2 : Hid (Below w.heap.size w V1) := HB1.out.trans (HV1.mono HB1.out.size)
    clear hV HV1 HE1 HT1 HB1
    refine (MK.out _ _ _ _ _ HE2.out HT2.out).mono ?_
    rintro e w2 ⟨rfl, hb⟩
    have HH3 : Hid (w2.heap[w1.heap.size]? = some (.cells (headC ⟨1, 2, 3, 4, 5, 6, 0, 0, []⟩ (.slice ad n cap)) 24 (0, 0))) := (hb.block _ hv1).trans HH1.out
    have HE3 := hdhid (HE2.out.on hb)
    have HT3 := hdhid (HT2.out.on hb)
    have HB3 : Hid (Below w.heap.size w w2) := HB2.out.trans (hb.mono HB2.out.size)
    have hv3 : w1.heap.size < w2.heap.size := by have := hb.size; omega
    clear hb HH1 HE2 HT2 HB2 MK hv1
    go_wp2_with fail
    refine (PA.out _).mono ?_
    rintro e w3 ⟨adp, capp, badp, bcapp, rfl, hE4, hT4, hb⟩
    have HP4 := hdhid hE4
    have HQ4 := hdhid hT4.txts
    have HH4 : Hid (w3.heap[w1.heap.size]? = some (.cells (headC ⟨1, 2, 3, 4, 5, 6, 0, 0, []⟩ (.slice ad n cap)) 24 (0, 0))) := (hb.block _ hv3).trans HH3.out
    have HE4 := hdhid (HE3.out.on hb)
    have HT4 := hdhid (HT3.out.on hb)
    have HB4 : Hid (Below w.heap.size w w3) := HB3.out.trans (hb.mono HB3.out.size)
    have hv4 : w1.heap.size < w3.heap.size := by have := hb.size; omega
    clear hE4 hT4 hb HH3 HE3 HT3 HB3 PA hv3
    have HZ : Hid (∀ V5, V5 = w3.alloc (.cells (headC ⟨1, 2, 3, 4, 5, 6, 0, 0, []⟩ (.slice adp n capp)) 24) → V5.heap[w3.heap.size]? = some (.cells (headC ⟨1, 2, 3, 4, 5, 6, 0, 0, []⟩ (.slice adp n capp)) 24 (0, 0)) ∧ V5.heap[w1.heap.size]? = some (.cells (headC ⟨1, 2, 3, 4, 5, 6, 0, 0, []⟩ (.slice ad n cap)) 24 (0, 0))) := fun V5 h => by
      rw [h]
      exact ⟨heap_alloc_new _ _, (heap_alloc_old _ _ hv4).trans HH4.out⟩
    obtain ⟨hz1, hz2⟩ := HZ.out _ rfl
    obtain ⟨x0, x1, x2, x3, x4, x5, x6, x7, x8⟩ := cells9 hz1
    obtain ⟨y0, y1, y2, y3, y4, y5, y6, y7, y8⟩ := cells9 hz2
    have HV5 : Hid (Below w3.heap.size w3 (w3.alloc (.cells (headC ⟨1, 2, 3, 4, 5, 6, 0, 0, []⟩ (.slice adp n capp)) 24))) := (Below.refl _ w3).alloc (Nat.le_refl _) _
    clear hz1 hz2 HZ HH4
    go_wp2_with fail
    refine (SA.out _ _ _ (HP4.out.on HV5.out) (HE4.out.on HV5.out)).mono ?_
    rintro e w5 ⟨rfl, hb⟩
    have HB5 : Hid (Below w3.heap.size w3 w5) := HV5.out.trans (hb.mono HV5.out.size)
    clear hb HV5 x0 x1 x2 x3 x4 x5 x6 x7 x8 y0 y1 y2 y3 y4 y5 y6 y7 y8 SA
    go_wp2_with fail
    refine (SS.out _ _ _ (HT4.out.on HB5.out) (HQ4.out.on HB5.out)).mono ?_
    rintro e wb ⟨rfl, hb⟩
    have HBb : Hid (Below w.heap.size w wb) := HB4.out.trans ((HB5.out.trans (hb.mono HB5.out.size)).mono HB4.out.size)
    clear hb HB5 HB4 HE4 HT4 HP4 HQ4 SS hv4
    have hcv := run_bytes_of_string (P := Try.prog) wb 9 38 5 S Try.underlying9 Try.underlying38 Try.underlying5
    have hgc := grownCap_ge wb S.size 0 5
    have hgm := grownCap_le_maxLen wb S.size 0 5 (by rw [hM]; unfold maxLen; omega)
    unfold maxLen at hgm
    generalize grownCap wb S.size 0 5 = gc at *
    obtain ⟨D, hD⟩ : ∃ D, D = wb.drew.alloc (.cells (bytesRow S gc) 5 ((bytesRow S gc).size, (bytesRow S gc).size + 1)) := ⟨_, rfl⟩
    rw [← hD] at hcv
    have HDB : Hid (Below wb.heap.size wb D) := by rw [hD]; exact ((Below.refl _ wb).drew).alloc (Nat.le_refl _) _
    have HDR : Hid (D.heap[wb.heap.size]? = some (.cells (bytesRow S gc) 5 ((bytesRow S gc).size, (bytesRow S gc).size + 1))) := by
      rw [hD]
      exact heap_alloc_new _ _
    clear hD
    have hql : q / 8 < S.data.toList.length := by
      have := hML.out
      omega
    have hx := brow_cell HDR.out (q / 8) hql
    have hxf := brow_frozen HDR.out (q / 8) (by omega)
    obtain ⟨x, hxx⟩ : ∃ x : UInt8, x = S.data.toList[q / 8] := ⟨_, rfl⟩
    rw [← hxx] at hx
    have HXE := hdhid hxx
    rw [hM] at hcv hgc
    have hq8 : q / 8 < M := by omega
    clear hxx
    go_wp2_with fail
    refine (PLq.out _).mono ?_
    rintro e wc ⟨rfl, rfl⟩
    clear PLq
    go_wp2_with fail
    rw [turn_bit]
    obtain ⟨y, hy⟩ : ∃ y : UInt8, y = x ^^^ UInt8.ofNat (2 ^ (q % 8) % 256) := ⟨_, rfl⟩
    rw [← hy]
    have hyx : y ≠ x := by rw [hy]; exact turn_other x _ (Nat.mod_lt _ (by decide))
    clear hy
    generalize hEE : World.setCell _ _ _ = EW
    have HEB : Hid (Below wb.heap.size wb EW) := by rw [← hEE]; exact HDB.out.setCell (Nat.le_refl _) _
    have HBE : Hid (Below w.heap.size w EW) := HBb.out.trans (HEB.out.mono HBb.out.size)
    obtain ⟨TL, hTL⟩ : ∃ TL, TL = S.data.toList.set (q / 8) y := ⟨_, rfl⟩
    have hTLl : TL.length = M := by
      rw [hTL, List.length_set, ← size_list, hM]
    have hcell : ∀ j (hj : j < TL.length), EW.cell? ⟨wb.heap.size, j, none⟩ = some (.int .u8 (TL[j].toNat : Int)) := by
      intro j hj
      have hj2 : j < S.data.toList.length := by rw [hTL, List.length_set] at hj; exact hj
      have e : TL[j] = if q / 8 = j then y else S.data.toList[j] := by
        simp only [hTL, List.getElem_set]
      rw [e, ← hEE]
      by_cases hjq : q / 8 = j
      · subst hjq
        rw [if_pos rfl]
        exact World.cell?_setCell_same' _ _ _ (by rw [hx]; rfl)
      · rw [if_neg hjq]
        exact (World.cell?_setCell_other _ _ _ _ (by intro h; cases h; exact hjq rfl)).trans (brow_cell HDR.out j hj2)
    have CV : (convert 38 9 (.slice (some ⟨wb.heap.size, 0, none⟩) M gc)).run Try.prog EW = .ok (.string ⟨TL.toArray⟩) EW := by
      have := part_conv EW wb.heap.size 0 gc TL (fun j hj => by rw [Nat.zero_add]; exact hcell j hj)
      rw [hTLl] at this
      exact this
    have NT1 := hdhid (fun w1 => NT.out ⟨TL.toArray⟩ w1 (HTU.out (q / 8) hql y ⟨TL.toArray⟩ (by rw [← HXE.out]; exact hyx) (by rw [← hTL])) (by show TL.toArray.size ≤ _; rw [List.size_toArray, hTLl]; omega))
    have NT2 := hdhid (fun w1 => NT.out (S.extract 0 E) w1 HLO2.out (by rw [ByteArray.size_extract]; omega))
    clear hcell hTLl hEE hx hxf hyx HXE HDR HDB HEB hql hcv HBb hgc hgm HTU NT HLO2 HM0
    generalize (⟨TL.toArray⟩ : ByteArray) = TS at *
    clear hTL
    rw [CV]
    simp only [Result.andThen]
    rw [Oper.upon_value]
    go_wp2_with fail
    refine (NT1.out _).mono ?_
    rintro e w6 ⟨ad6, cap6, bad6, bcap6, rfl, hb⟩
    have HB6 : Hid (Below w.heap.size w w6) := HBE.out.trans (hb.mono HBE.out.size)
    clear hb HBE CV NT1
    go_wp2_with fail
    refine (PLk.out _).mono ?_
    rintro e w7 ⟨rfl, rfl⟩
    clear PLk
    have HB7 : Hid (∀ o, Below w.heap.size w (w6.alloc o)) := fun o => HB6.out.alloc HB6.out.size _
    go_wp2_with fail
    refine (NT2.out _).mono ?_
    rintro e w8 ⟨ad8, cap8, bad8, bcap8, rfl, hb⟩
    have HB8 : Hid (Below w.heap.size w w8) := (HB7.out _).trans (hb.mono (HB7.out _).size)
    clear hb HB7 HB6 NT2
    go_wp2_with fail
    refine (AW.out _).mono ?_
    rintro e w9 ⟨rfl, hb⟩
    have HB9 : Hid (Below w.heap.size w w9) := (HB8.out.alloc HB8.out.size _).trans (hb.mono (HB8.out.alloc HB8.out.size _).size)
    clear hb HB8 AW
    go_wp2_with fail
    go_ret
    exact ⟨rfl, HB9.out⟩
end Go.Proofs.Ytpfcfldkhecijaa
