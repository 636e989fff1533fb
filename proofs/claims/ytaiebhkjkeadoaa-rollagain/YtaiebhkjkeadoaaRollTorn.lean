/- RollTorn walked: a bit of a chunk's sector turned. -/
import Derived.Test.YtaiebhkjkeadoaaRollOthers
import Derived.Test.YtaiebhkjkeadoaaRollTear
import Derived.Test.YtaiebhkjkeadoaaRollCells
import Derived.Test.YtaiebhkjkeadoaaTurned
namespace Go.Proofs.Ytaiebhkjkeadoaa
open Go.RowKit Lo Hdp Chk Rec Rol

set_option maxRecDepth 20000 in
set_option maxHeartbeats 8000000 in
theorem rollTorn_few (v : Value) (l : List Int) (at_ bit : Int) (w : World) (hI : Ints w v l) (hl : l.length ≤ 30) (hl0 : 0 < l.length) :
    Calls Try.prog 5 #[v, .int .i64 at_, .int .i64 bit] w fun e w' => e = .returned (.bool true) ∧ Below w.heap.size w w' := by
  have NW := rfhid (new_t304 w)
  have GE := rfhid geom_t304
  have SG := rfhid segs8_t
  have SL := rfhid (fun (w1 : World) => slot0_t 2 w1)
  have AW := rfhid awake_t15
  have FL := rfhid (fun (b gd : Nat) (V : Nat → Value) (u : World) (hD : Disk u b (St.new 304) gd V) (hb : Below w.heap.size w u) (hf : ∀ k, foot b gd V k → w.heap.size ≤ k) => fill_t b gd V v l u hD (hI.on hb) (away_in hI (Nat.le_refl _) hf) (by omega))
  have hd1 : decide ((30 : Int) < (l.length : Int)) = false := decide_eq_false (by omega)
  have hd2 : ((l.length : Int) == 0) = false := by rw [beq_eq_false_iff_ne]; omega
  obtain ⟨vad, vcap, rfl, -⟩ := hI
  go_enter Try.func5, Try.ntmps5
  go_wp2_with fail
  refine NW.out.mono ?_
  rintro e w1 ⟨b, gd, V, rfl, hD1, hb1, hf1⟩
  have HB1 := rfhid hb1
  have HF1 := rfhid hf1
  have FL1 := rfhid (FL.out b gd V w1 hD1 hb1 hf1)
  clear hD1 hb1 hf1 NW FL
  go_wp2_with fail
  refine FL1.out.mono ?_
  rintro e w2 ⟨mv, cs, S, V2, L, rfl, hmo, -, hD2, hfil, hst, hcl, hc0, -⟩
  obtain ⟨mad, mcap, rfl⟩ := hmo.slice
  have hc0 := hc0 hl0
  have HD2 := rfhid hD2
  have HB2 : Hid (Below w.heap.size w w2) := hst.under HB1.out HF1.out (Nat.le_refl _)
  have HFo : Hid (∀ k, foot b gd V2 k → w.heap.size ≤ k) := hst.foots HF1.out HB1.out.size
  have HFil := rfhid hfil
  have HSN := rfhid hfil.n
  have HSD := rfhid hfil.down
  have hclen : cs.length ≤ 30 := by omega
  clear hmo hD2 hfil hst FL1 HB1 HF1 hcl hl0
  go_wp2_with fail
  refine (GE.out _).mono ?_
  rintro e w3 ⟨rfl, hb⟩
  have HB3 : Hid (Below w2.heap.size w2 w3) := hb
  clear hb
  go_wp2_with fail
  refine (SG.out _).mono ?_
  rintro e w4 ⟨sad, rfl, hI4, hb⟩
  have HI4 := rfhid hI4
  have HB4 : Hid (Below w2.heap.size w2 w4) := HB3.out.trans (hb.mono HB3.out.size)
  clear hb hI4 HB3
  go_wp2_with fail
  refine (SL.out _).mono ?_
  rintro e w5 ⟨rfl, hb⟩
  have HI5 := rfhid (HI4.out.on hb)
  have HB5 : Hid (Below w2.heap.size w2 w5) := HB4.out.trans (hb.mono HB4.out.size)
  clear hb HI4 HB4
  go_wp2_with fail
  refine (fw_t b gd S V2 lgB (bare L) _ (seqL 0 8) cs w5 HI5.out (by decide) (HD2.out.below HB5.out) HSN.out HSD.out HFil.out.rolls (by omega)).mono ?_
  rintro e w6 ⟨lad, lcap, Lv, rfl, hO, hm, hb⟩
  have HB6 : Hid (Below w2.heap.size w2 w6) := HB5.out.trans (hb.mono HB5.out.size)
  have HO := rfhid hO
  have HM := rfhid hm
  clear hb HB5 HI5 hO hm
  obtain ⟨m, hm⟩ : ∃ m, cs.length = m := ⟨_, rfl⟩
  have HCL := rfhid hm
  rw [hm] at hclen hc0 ⊢
  clear hm
  obtain ⟨k, hk, hkm⟩ : ∃ k : Nat, at_ % (m : Int) = (k : Int) ∧ k < m := ⟨(at_ % (m : Int)).toNat, by have := Int.emod_nonneg at_ (by omega : (m : Int) ≠ 0); omega, by have := Int.emod_nonneg at_ (by omega : (m : Int) ≠ 0); have := Int.emod_lt_of_pos at_ (by omega : (0 : Int) < (m : Int)); omega⟩
  have PLa := rfhid (fun (w1 : World) => gplace_t at_ m w1 (by omega) (by omega))
  rw [hk] at PLa
  clear hk
  have hkc : k < cs.length := by rw [HCL.out]; exact hkm
  obtain ⟨f, hf⟩ : ∃ f, cs[k] = f := ⟨_, rfl⟩
  have HF := rfhid hf
  obtain ⟨-, -, -, -, -, hlies⟩ := HFil.out.head k hkc
  rw [hf] at hlies
  have hs0 := hlies.seg0
  have hs1 : f.seg < 8 := hlies.seg1
  have hp0 := hlies.pos0
  have hp1 := hlies.pos1
  clear hlies hf
  -- behind the place's block
  go_wp2_with fail
  generalize hX : World.alloc w6 _ = X
  have hb : Below w6.heap.size w6 X := by rw [← hX]; exact (Below.refl _ _).alloc (Nat.le_refl _) _
  have HBX : Hid (Below w2.heap.size w2 X) := HB6.out.trans (hb.mono HB6.out.size)
  obtain ⟨g, had, hcap, bad, bcap, rfl, q0, q1, -, -, -, -, -, -, -, -, -, q11, -, -⟩ := fnd_cells (HO.out.on hb) HM.out k hkc
  have HFe := HF.out
  rw [HFe] at q0 q1 q11
  clear hX hb HO HM HB6 HFe
  have PL := rfhid (fun (v : Int) (w1 : World) => gplace_t v (1 + (f.bl.length : Int)) w1 (by omega) (by omega))
  refine (PLa.out _).mono ?_
  rintro e wq ⟨rfl, rfl⟩
  clear PLa
  have hki : (k : Int) < (m : Int) := by omega
  go_wp2_with fail
  go_quiet ((go_at_call 12; exact Calls.quiet_of_same ((PL.out _ _).mono fun _ _ h => ⟨h.1, h.2.symm⟩)))
  go_wp2_with fail
  obtain ⟨j, hj, hjl⟩ : ∃ j : Nat, wrap64 (bit.tdiv 3000) % (1 + (f.bl.length : Int)) = (j : Int) ∧ j ≤ f.bl.length := by
    have h1 := Int.emod_nonneg (wrap64 (bit.tdiv 3000)) (by omega : (1 + (f.bl.length : Int)) ≠ 0)
    have h2 := Int.emod_lt_of_pos (wrap64 (bit.tdiv 3000)) (by omega : (0 : Int) < 1 + (f.bl.length : Int))
    exact ⟨(wrap64 (bit.tdiv 3000) % (1 + (f.bl.length : Int))).toNat, by omega, by omega⟩
  rw [hj]
  clear hj
  obtain ⟨p, hp, hpn⟩ : ∃ p : Nat, sec f + j = p ∧ p < 304 := ⟨sec f + j, rfl, by unfold sec; omega⟩
  have hpi : wrap64 (48 + 32 * f.seg + f.pos + (j : Int)) = (p : Int) := by
    rw [sec_of hs0 hp0, hp]
    unfold wrap64
    omega
  rw [hpi]
  have hpk : sec cs[k] + j = p := by rw [HF.out]; exact hp
  have hjl2 : j ≤ cs[k].bl.length := by rw [HF.out]; exact hjl
  have hTs : (S.read p).size = 256 := by
    have h := HFil.out.size k hkc j hjl2
    rw [hpk] at h
    exact h
  have hlen : (cs.take k).length = k := by rw [List.length_take]; omega
  obtain ⟨T, hT⟩ : ∃ T, S.read p = T := ⟨_, rfl⟩
  have HTO : Hid (∀ (i : Nat) (hi : i < T.data.toList.length) (y : UInt8) (TS : ByteArray), y ≠ T.data.toList[i] → TS.data.toList = T.data.toList.set i y → ∃ A, Rolls (S.write 3 p TS).read 8 (seqL 0 8) lgB (cs.take k) A ∧ A.seq = 5 + (k : Int)) := fun i hi y TS hy hs => by
    have h := HFil.out.torn k hkc j i y hjl2
    rw [hpk, hT] at h
    have hok := fun x hx => (HD2.out.ok.each 3 (by decide) x hx).2.2.2
    exact @h hi hy (S.write 3 p TS).read (fun q hq => by rw [read_more HFil.out.others HFil.out.mine hok, if_neg hq]) (by rw [read_more HFil.out.others HFil.out.mine hok, if_pos rfl]; exact hs)
  have HDN : Hid (∀ TS, (S.write 3 p TS).down = false) := fun TS => by
    show (if S.left = 0 then S.down else _) = false
    rw [if_pos HFil.out.left, HSD.out]
  have HWR : Hid (S.writes < 1000000) := by
    have h1 := HFil.out.writes
    rw [HCL.out] at h1
    show _ < _
    omega
  have HHL := rfhid hlen
  rw [hT] at hTs
  clear hpi hpk hjl2 hp hjl hlen HF HFil hkc hs0 hs1 hp0 hp1 q0 q1 q11 PL hki HCL
  have HBY : Hid (Below w2.heap.size w2 (X.drewN nq)) := HBX.out.trans ⟨rfl, rfl, rfl, Nat.le_refl _, fun _ _ => rfl⟩
  clear HBX
  refine (disk_read (HD2.out.below HBY.out) p (by rw [HSN.out]; exact hpn) HSD.out).mono ?_
  rintro e wb ⟨rfl, hb⟩
  rw [hT]
  have HBb : Hid (Below w2.heap.size w2 wb) := HBY.out.trans (hb.mono HBY.out.size)
  clear hb HBY hT
  obtain ⟨M, hM⟩ : ∃ M, T.size = M := ⟨_, rfl⟩
  have hMM : M = 256 := by omega
  have hML := rfhid hTs
  have hd3 : ((M : Int) != 256) = false := by rw [hMM]; rfl
  clear hTs
  have hcv := run_bytes_of_string (P := Try.prog) wb 9 50 5 T Try.underlying9 Try.underlying50 Try.underlying5
  have hgc := grownCap_ge wb T.size 0 5
  have hgm := grownCap_le_maxLen wb T.size 0 5 (by rw [hM]; unfold maxLen; omega)
  unfold maxLen at hgm
  generalize grownCap wb T.size 0 5 = gc at *
  obtain ⟨D, hD⟩ : ∃ D, D = wb.drew.alloc (.cells (bytesRow T gc) 5 ((bytesRow T gc).size, (bytesRow T gc).size + 1)) := ⟨_, rfl⟩
  rw [← hD] at hcv
  have HDB : Hid (Below wb.heap.size wb D) := by rw [hD]; exact ((Below.refl _ wb).drew).alloc (Nat.le_refl _) _
  have HDR : Hid (D.heap[wb.heap.size]? = some (.cells (bytesRow T gc) 5 ((bytesRow T gc).size, (bytesRow T gc).size + 1))) := by
    rw [hD]
    exact heap_alloc_new _ _
  clear hD
  obtain ⟨q, hq, hq2⟩ : ∃ q : Nat, bit % 2048 = (q : Int) ∧ q < 2048 := ⟨(bit % 2048).toNat, by omega, by omega⟩
  have PLq := rfhid (fun (w1 : World) => gplace_t bit 2048 w1 (by decide) (by decide))
  rw [hq] at PLq
  clear hq
  have hql : q / 8 < T.data.toList.length := by
    have : T.data.toList.length = T.size := rfl
    omega
  have hx := brow_cell HDR.out (q / 8) hql
  have hxf := brow_frozen HDR.out (q / 8) (by omega)
  obtain ⟨x, hxx⟩ : ∃ x : UInt8, x = T.data.toList[q / 8] := ⟨_, rfl⟩
  rw [← hxx] at hx
  have HXE := rfhid hxx
  rw [hM] at hcv hgc
  have hq8 : q / 8 < M := by omega
  clear hxx
  go_wp2_with fail
  refine (PLq.out _).mono ?_
  rintro e wc ⟨rfl, rfl⟩
  clear PLq
  go_wp2_with fail
  rw [turn_bit]
  obtain ⟨y, hy⟩ : ∃ y : UInt8, y = x ^^^ UInt8.ofNat (2 ^ (q % 8) % 256) := ⟨_, rfl⟩
  rw [← hy]
  have hyx : y ≠ x := by rw [hy]; exact turn_other x _ (Nat.mod_lt _ (by decide))
  clear hy
  generalize hEE : World.setCell _ _ _ = EW
  have HEB : Hid (Below wb.heap.size wb EW) := by rw [← hEE]; exact HDB.out.setCell (Nat.le_refl _) _
  have HBE : Hid (Below w2.heap.size w2 EW) := HBb.out.trans (HEB.out.mono HBb.out.size)
  obtain ⟨TL, hTL⟩ : ∃ TL, TL = T.data.toList.set (q / 8) y := ⟨_, rfl⟩
  have hTLl : TL.length = 256 := by
    rw [hTL, List.length_set]
    have : T.data.toList.length = T.size := rfl
    omega
  have hcell : ∀ j (hj : j < TL.length), EW.cell? ⟨wb.heap.size, j, none⟩ = some (.int .u8 (TL[j].toNat : Int)) := by
    intro j hj
    have hj2 : j < T.data.toList.length := by rw [hTL, List.length_set] at hj; exact hj
    have e : TL[j] = if q / 8 = j then y else T.data.toList[j] := by
      simp only [hTL, List.getElem_set]
    rw [e, ← hEE]
    by_cases hjq : q / 8 = j
    · subst hjq
      rw [if_pos rfl]
      exact World.cell?_setCell_same' _ _ _ (by rw [hx]; rfl)
    · rw [if_neg hjq]
      exact (World.cell?_setCell_other _ _ _ _ (by intro h; cases h; exact hjq rfl)).trans (brow_cell HDR.out j hj2)
  have CV : (convert 50 9 (.slice (some ⟨wb.heap.size, 0, none⟩) 256 gc)).run Try.prog EW = .ok (.string ⟨TL.toArray⟩) EW := by
    have := part_conv EW wb.heap.size 0 gc TL (fun j hj => by rw [Nat.zero_add]; exact hcell j hj)
    rw [hTLl] at this
    exact this
  obtain ⟨A, hA1, hA2⟩ := HTO.out (q / 8) hql y ⟨TL.toArray⟩ (by rw [← HXE.out]; exact hyx) (by rw [← hTL])
  have hTSs : (⟨TL.toArray⟩ : ByteArray).size = 256 := by show TL.toArray.size = _; rw [List.size_toArray, hTLl]
  clear hcell hTLl hEE hx hxf hyx HXE HDR HDB HEB hql hcv HBb hgc hgm HTO
  generalize (⟨TL.toArray⟩ : ByteArray) = TS at *
  clear hTL
  have HA1 := rfhid hA1
  have HTS := rfhid hTSs
  obtain ⟨ahouse, agen, anum, alife, aclock, aseg, apos, anext, aseq, am0, am1, am2, am3, asb, asn, afl⟩ := A
  dsimp only at hA2
  subst hA2
  clear hA1 hTSs
  rw [CV]
  simp only [Result.andThen]
  rw [Oper.upon_value]
  go_wp2_with fail
  refine (disk_write (HD2.out.below HBE.out) 3 p TS (by decide) (by rw [HSN.out]; exact hpn) HTS.out HSD.out HWR.out).mono ?_
  rintro e w8 ⟨rfl, V3, hD8, hst8⟩
  have HD8 := rfhid hD8
  have HB8 : Hid (Below w.heap.size w w8) := hst8.under (HB2.out.trans (HBE.out.mono HB2.out.size)) HFo.out (Nat.le_refl _)
  clear hD8 hst8 HBE HFo HB2 HD2 HTS HWR CV
  go_wp2_with fail
  refine (GE.out _).mono ?_
  rintro e w9 ⟨rfl, hb⟩
  have HB9 : Hid (Below w8.heap.size w8 w9) := hb
  clear hb
  go_wp2_with fail
  refine (SG.out _).mono ?_
  rintro e w10 ⟨sad, rfl, hI4, hb⟩
  have HI10 := rfhid hI4
  have HB10 : Hid (Below w8.heap.size w8 w10) := HB9.out.trans (hb.mono HB9.out.size)
  clear hb hI4 HB9
  go_wp2_with fail
  refine (SL.out _).mono ?_
  rintro e w11 ⟨rfl, hb⟩
  have HI11 := rfhid (HI10.out.on hb)
  have HB11 : Hid (Below w8.heap.size w8 w11) := HB10.out.trans (hb.mono HB10.out.size)
  clear hb HI10 HB10
  go_wp2_with fail
  refine (fw_t b gd (S.write 3 p TS) V3 lgB _ _ (seqL 0 8) (cs.take k) w11 HI11.out (by decide) (HD8.out.below HB11.out) HSN.out (HDN.out _) HA1.out (by rw [HHL.out]; omega)).mono ?_
  rintro e w12 ⟨lad, lcap, Lv, rfl, -, -, hb⟩
  rw [HHL.out]
  have HB12 : Hid (Below w.heap.size w w12) := HB8.out.trans ((HB11.out.trans (hb.mono HB11.out.size)).mono HB8.out.size)
  clear hb HB11 HI11 HB8
  have hkk : ((k : Int) == (k : Int)) = true := by simp
  go_wp2_with fail
  generalize hQ : World.alloc w12 _ = Q
  have HBQ : Hid (Below w.heap.size w Q) := by
    rw [← hQ]
    exact HB12.out.alloc HB12.out.size _
  clear hQ
  refine (AW.out _).mono ?_
  rintro e w13 ⟨rfl, hb⟩
  have HZ : Hid (Below w.heap.size w w13) := HBQ.out.trans (hb.mono HBQ.out.size)
  clear hb HBQ
  go_wp2_with fail
  go_ret
  exact ⟨rfl, HZ.out⟩

set_option maxRecDepth 20000 in
set_option maxHeartbeats 4000000 in
theorem rollTorn_many (v : Value) (l : List Int) (at_ bit : Int) (w : World) (hI : Ints w v l) (hl : 30 < l.length ∨ l.length = 0) (hl2 : l.length ≤ 9223372036854775807) :
    Calls Try.prog 5 #[v, .int .i64 at_, .int .i64 bit] w fun e w' => e = .returned (.bool true) ∧ Below w.heap.size w w' := by
  have AW := rfhid awake_t15
  have hd : (decide ((30 : Int) < (l.length : Int)) = true) ∨ (decide ((30 : Int) < (l.length : Int)) = false ∧ l.length = 0) := by
    rcases hl with h | h
    · exact .inl (decide_eq_true (by omega))
    · exact .inr ⟨decide_eq_false (by omega), h⟩
  obtain ⟨vad, vcap, rfl, -⟩ := hI
  clear hl
  rcases hd with hd | ⟨hd, h0⟩
  · go_enter Try.func5, Try.ntmps5
    go_wp2_with fail
    refine (AW.out _).mono ?_
    rintro e w1 ⟨rfl, hb⟩
    have HB := rfhid hb
    clear hb AW
    go_wp2_with fail
    go_ret
    exact ⟨rfl, HB.out⟩
  · have h00 : ((l.length : Int) == 0) = true := by rw [h0]; rfl
    clear h0
    go_enter Try.func5, Try.ntmps5
    go_wp2_with fail
    refine (AW.out _).mono ?_
    rintro e w1 ⟨rfl, hb⟩
    have HB := rfhid hb
    clear hb AW
    go_wp2_with fail
    go_ret
    exact ⟨rfl, HB.out⟩
theorem rollTorn_t (v : Value) (l : List Int) (at_ bit : Int) (w : World) (hI : Ints w v l) (hl2 : l.length ≤ 9223372036854775807) :
    Calls Try.prog 5 #[v, .int .i64 at_, .int .i64 bit] w fun e w' => e = .returned (.bool true) ∧ Below w.heap.size w w' := by
  rcases Nat.lt_or_ge 30 l.length with h | h
  · exact rollTorn_many v l at_ bit w hI (.inl h) hl2
  · rcases Nat.eq_zero_or_pos l.length with h0 | h0
    · exact rollTorn_many v l at_ bit w hI (.inr h0) hl2
    · exact rollTorn_few v l at_ bit w hI h h0
end Go.Proofs.Ytaiebhkjkeadoaa
