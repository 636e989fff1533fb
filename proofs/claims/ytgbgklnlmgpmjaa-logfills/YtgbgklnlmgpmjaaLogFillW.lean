/- LogFills walked. -/
import Derived.Test.YtgbgklnlmgpmjaaLogFill
import Derived.Lib.MinMax
namespace Go.Proofs.Ytgbgklnlmgpmjaa
open Go.RowKit Lo Hdp Chk Rec

/-- Behind so many chunks. -/
structure FillAt (n k E lb b gd sb cnt : Nat) (w wr : World) (S : St) (V : Nat → Value) (L : Lg) (vv : Value) (f : Nat → Bool) : Prop where
  inv : FillInv n k E L cnt
  at_ : LogAt wr lb b gd S V 32 L vv
  n : S.n = 48 + 32 * n
  left : S.left = 0
  down : S.down = false
  writes : S.writes = cnt * (1 + k)
  waits : (S.waits 3).length = min cnt 1
  row : wr.heap[sb]? = some (.cells (seenC f) 55 (0, 0))
  off : ¬ foot b gd V sb
  ne : sb ≠ lb
  seen : ∀ x, f x = true → (x : Int) < L.seg * 32 + L.pos + 48
  below : Below w.heap.size w wr
  foots : ∀ q, foot b gd V q → w.heap.size ≤ q

/-- A step that touches a block apart alone. -/
theorem LogAt.keep {w w' : World} {lb b gd sb : Nat} {S : St} {V : Nat → Value} {G : Int} {L : Lg} {vv : Value} {c : Array Value} {t : TypeId} {fr : Nat × Nat} (h : LogAt w lb b gd S V G L vv) (hs : w.heap[sb]? = some (.cells c t fr)) (ht : t ≠ 3) (hf : ¬ foot b gd V sb) (hl : sb ≠ lb) (k : Keep (fun q => q = sb) w w') : LogAt w' lb b gd S V G L vv :=
  ⟨(k.block lb h.lt (fun e => hl e.symm)).trans h.row, h.disk.apart k (fun i hi e => hf (by rw [← e]; exact hi)), (h.free.other hs ht).keep k (fun _ hb e => hb.2 e) (fun _ _ hb => hb.1), h.off⟩

set_option maxRecDepth 20000 in
set_option maxHeartbeats 4000000 in
theorem logFills_t (segs size : Int) (w : World) :
    Calls Try.prog 5 #[.int .i64 segs, .int .i64 size] w fun e w' => e = .returned (.bool true) ∧ Below w.heap.size w w' := by
  have PLs := lohid (fun w => gplace_t segs 6 w (by decide) (by decide))
  have PLk := lohid (fun w => gplace_t size 25 w (by decide) (by decide))
  obtain ⟨p, hp, hp2⟩ : ∃ p : Nat, segs % 6 = (p : Int) ∧ p < 6 := ⟨(segs % 6).toNat, by omega, by omega⟩
  obtain ⟨k, hk, hk2⟩ : ∃ k : Nat, size % 25 = (k : Int) ∧ k < 25 := ⟨(size % 25).toNat, by omega, by omega⟩
  rw [hp] at PLs
  rw [hk] at PLk
  clear hp hk
  obtain ⟨n, hn, hn8, hn13⟩ : ∃ n : Nat, 8 + (p : Int) = (n : Int) ∧ 8 ≤ n ∧ n ≤ 13 := ⟨8 + p, by omega, by omega, by omega⟩
  obtain ⟨E, hE, hE1, hE32, hE2, hE3⟩ := each_is k (by omega)
  have hdv : Int.tdiv 32 (1 + (k : Int)) = (E : Int) := by
    rw [← hE, Int.tdiv_eq_ediv_of_nonneg (by omega), show (1 : Int) + (k : Int) = ((1 + k : Nat) : Int) by omega]
    rfl
  have hk0 : (1 + (k : Int) == 0) = false := by simp; omega
  have NW := lohid (fun w1 => disk_new (48 + 32 * n) w1 (by omega) (by omega))
  rw [show ((48 + 32 * n : Nat) : Int) = 48 + 32 * (n : Int) by omega] at NW
  have MK := lohid (fun (b gd : Nat) (V : Nat → Value) (w1 : World) (h : Disk w1 b (St.new (48 + 32 * n)) gd V) => make1_t n b gd (St.new (48 + 32 * n)) V w1 h (by omega) (by omega) rfl)
  have BL := lohid (fun (cnt : Nat) (w1 : World) (h : cnt ≤ 1000) => blocks_t cnt k w1 (by omega) (by omega))
  have AW := lohid awake_t
  have HZ := seenZero
  obtain ⟨Z, hZ⟩ : ∃ Z, seenC (fun _ => false) = Z := ⟨_, rfl⟩
  rw [hZ] at HZ
  have HZZ := lohid hZ
  have HEE := lohid (And.intro hE2 hE3)
  clear hE hZ hE2 hE3
  go_enter Try.func5, Try.ntmps5
  go_wp2_with fail
  refine (PLs.out _).mono ?_
  rintro e wp ⟨rfl, rfl⟩
  go_wp2_with fail
  refine (PLk.out _).mono ?_
  rintro e wp ⟨rfl, rfl⟩
  go_wp2_with fail
  refine (NW.out _).mono ?_
  rintro e w1 ⟨b, gd, V, rfl, hD1, hb1, hf1⟩
  have HD1 := lohid hD1
  have HB1 := lohid hb1
  have HF1 := lohid hf1
  clear hD1 hb1 hf1 NW PLs PLk
  go_wp2_with fail
  refine (MK.out b gd V w1 HD1.out).mono ?_
  rintro e w2 ⟨lb, vv, rfl, hL2, hlb, hb2⟩
  have HL2 := lohid hL2
  have HB2 : Hid (Below w.heap.size w w2) := HB1.out.trans (hb2.mono HB1.out.size)
  have hlb2 : w.heap.size ≤ lb := Nat.le_trans HB1.out.size hlb
  clear hL2 hb2 MK HB1 HD1 hlb
  go_wp2_with fail
  have HL3 : Hid (LogAt (w2.alloc (.cells Z 55)) lb b gd (St.new (48 + 32 * n)) V 32 (lg1 n) vv) := HL2.out.on ((Below.refl _ _).alloc (Nat.le_refl _) _)
  have HF0 : Hid (FillAt n k E lb b gd w2.heap.size 0 w (w2.alloc (.cells Z 55)) (St.new (48 + 32 * n)) V (lg1 n) vv (fun _ => false)) := by
    refine ⟨fill_zero hn8 (by omega), HL3.out, rfl, rfl, rfl, (by show 0 = 0 * (1 + k); omega), rfl, ?_, fun hf => ?_, ?_, (fun x hx => by cases hx), HB2.out.alloc HB2.out.size _, HF1.out⟩
    · rw [← HZZ.out]
      exact heap_alloc_new _ _
    · have := HL2.out.disk.lt hf
      omega
    · have := HL2.out.lt
      omega
  go_loopw [11] (fun q wr => ∃ cnt : Nat, q = .int .i64 cnt ∧ ∃ S V1 L v1 f, Hid (FillAt n k E lb b gd w2.heap.size cnt w wr S V1 L v1 f)) (fun q _ => 1000 - (intOf q).toNat)
  case atStart => exact ⟨0, rfl, _, _, _, _, _, HF0⟩
  case round =>
    obtain ⟨cnt, rfl, S, V1, L, v1, f, HF⟩ := hrel
    have hm := fill_most HF.out.inv hE32 hn13
    have hm2 : (cnt : Int) ≤ 600 := by omega
    go_wp2_with fail
    refine (BL.out cnt wr (by omega)).mono ?_
    rintro e w4 ⟨ad, cap, bad, bcap, rfl, hE, hT, hb4⟩
    have HL4 := lohid (HF.out.at_.on hb4)
    have HB4 : Hid (Below w.heap.size w w4) := HF.out.below.trans (hb4.mono HF.out.below.size)
    have HR4 := lohid (row_on HF.out.row hb4)
    have HEn := lohid hE.ents
    have HTx := lohid hT.txts
    clear hE hT hb4
    go_wp2_with fail
    cases hc : L.canB 32 k
    · obtain ⟨hce, hfe⟩ := fill_end HF.out.inv HEE.out.1 hc
      have hp1 : (E : Int) * ((n : Int) - 1) = (cnt : Int) := by
        rw [hce, show (n : Int) - 1 = ((n - 1 : Nat) : Int) by omega]
        rfl
      obtain ⟨W, hW⟩ : ∃ W : Nat, cnt * (1 + k) = W := ⟨_, rfl⟩
      have hWb : W ≤ 384 * 25 := by
        rw [← hW]
        exact Nat.mul_le_mul hm (by omega)
      have hp2 : (cnt : Int) * (1 + (k : Int)) = (W : Int) := by
        rw [← hW, show (1 : Int) + (k : Int) = ((1 + k : Nat) : Int) by omega]
        rfl
      obtain ⟨M, hM⟩ : ∃ M : Nat, min cnt 1 = M := ⟨_, rfl⟩
      have hmn : min (cnt : Int) 1 = (M : Int) := by omega
      have FU := lohid (law_full HL4.out cnt 0 cnt k (by omega) ad bad cap bcap HTx.out hc)
      have WR := lohid (fun (w7 : World) (h : Disk w7 b S gd V1) => kWrites (lohid h) (W : Int) (by rw [HF.out.writes, hW]))
      have WA := lohid (fun (w7 : World) (h : Disk w7 b S gd V1) => kWaits (lohid h) 3 (by decide) (by decide) (M : Int) (by show (((S.waits 3).length : Nat) : Int) = _; rw [HF.out.waits, hM]))
      have FR := lohid (fun (w7 : World) (h : LogAt w7 lb b gd S V1 32 L v1) => free_t14 lb b S.n 32 L v1 _ w7 h.row h.free.nums (by rw [hfe]; exact Nat.zero_le _))
      rw [hfe] at FR
      clear hce hfe hW hM HF
      refine FU.out.mono ?_
      rintro e w5 ⟨rfl, hb5⟩
      have HL5 := lohid (HL4.out.on hb5)
      have HB5 : Hid (Below w.heap.size w w5) := HB4.out.trans (hb5.mono HB4.out.size)
      clear hb5 HL4 HB4 FU HR4 HEn HTx
      go_wp2_with fail
      refine (FR.out w5 HL5.out).mono ?_
      rintro e w6 ⟨v6, rfl, hO6, hb6⟩
      obtain ⟨ad6, cap6, rfl⟩ := hO6.slice
      have HD6 := lohid (HL5.out.disk.below hb6)
      have HB6 : Hid (Below w.heap.size w w6) := HB5.out.trans (hb6.mono HB5.out.size)
      clear hO6 hb6 HL5 HB5 FR
      go_wp2_with fail
      refine (WR.out w6 HD6.out).mono ?_
      rintro e wq ⟨rfl, rfl⟩
      go_wp2_with fail
      refine (WA.out w6 HD6.out).mono ?_
      rintro e wq ⟨rfl, rfl⟩
      go_wp2_with fail
      refine (AW.out w6).mono ?_
      rintro e w7 ⟨rfl, hb7⟩
      have HB7 : Hid (Below w.heap.size w w7) := HB6.out.trans (hb7.mono HB6.out.size)
      clear hb7 HB6 HD6 WR WA
      go_wp2_with fail
      go_ret
      exact ⟨rfl, HB7.out⟩
    · obtain ⟨hi2, hF1, hF2, hF3, hF4⟩ := fill_more HF.out.inv (by omega) HEE.out.1 HEE.out.2 hE1 hc (by omega) (bkX cnt 0 cnt k)
      have hwk : cnt * (1 + k) ≤ 384 * 25 := Nat.mul_le_mul hm (by omega)
      have htk : took S k = true := took_up HF.out.down HF.out.left k
      have AP := lohid (law_append HL4.out HF.out.inv.1 HF.out.n hn8 (by omega) cnt 0 cnt k (by omega) (by decide) (by omega) ad bad cap bcap HEn.out HTx.out hc (by rw [HF.out.writes]; omega) htk)
      obtain ⟨F, hF⟩ : ∃ F, (L.move 32 k).sec 32 = F := ⟨_, rfl⟩
      rw [hF] at AP hF1 hF2 hF3 hF4
      obtain ⟨L5, hL5⟩ : ∃ L5, (L.move 32 k).after k (bkX cnt 0 cnt k) = L5 := ⟨_, rfl⟩
      rw [hL5] at AP hi2 hF2
      obtain ⟨T, hT⟩ : ∃ T, makeS ((L.move 32 k).head (bkX cnt 0 cnt k)) (bkT cnt k) = T := ⟨_, rfl⟩
      rw [hT] at AP
      have hsn : (chunk S 3 F T k).n = 48 + 32 * n := chunk_n.trans HF.out.n
      have hsl : (chunk S 3 F T k).left = 0 := by rw [chunk_left htk, HF.out.left]; omega
      have hsd : (chunk S 3 F T k).down = false := chunk_up htk HF.out.left
      have hsw : (chunk S 3 F T k).writes = (cnt + 1) * (1 + k) := by rw [chunk_writes htk, HF.out.writes, Nat.add_mul, Nat.one_mul]
      have hsa : ((chunk S 3 F T k).waits 3).length = min (cnt + 1) 1 := by rw [chunk_waits htk, Nat.min_eq_right (by omega)]; rfl
      generalize chunk S 3 F T k = S5 at *
      have HS5 := lohid (And.intro hi2 (And.intro hsn (And.intro hsl (And.intro hsd (And.intro hsw hsa)))))
      have HF2 := lohid hF2
      have hsb4 : w2.heap.size < w4.heap.size := (Array.getElem?_eq_some_iff.1 HR4.out).1
      have hsbne := HF.out.ne
      have HOF := lohid HF.out.off
      have HFT := lohid HF.out.foots
      have HSE := lohid (fun x (hx : f x = true) => (by have := HF.out.seen x hx; omega : x < F))
      have hb2s := HB2.out.size
      clear hi2 hF1 hF2 hsn hsl hsd hsw hsa hF hL5 hT hwk htk HF
      refine AP.out.mono ?_
      rintro e w5 ⟨a, V5, v5, rfl, hrow, ha, hfa, hL5, hs5⟩
      have HR5 := lohid (hs5.row HR4.out HOF.out hsbne)
      have HB5 : Hid (Below w.heap.size w w5) := hs5.under HB4.out HFT.out hlb2 (Nat.le_refl _)
      have HFT5 := lohid (hs5.foots HFT.out HB4.out.size)
      have HOF5 := lohid (hs5.off hsb4 HOF.out)
      have HL5 := lohid hL5
      have HRW := lohid hrow
      have halt : a < w5.heap.size := (Array.getElem?_eq_some_iff.1 hrow).1
      have hane : a ≠ w2.heap.size := by omega
      clear hL5 hs5 hrow hfa AP HR4 HL4 HB4 HEn HTx HOF HFT
      go_wp2_with fail
      go_loopw [16] (fun q wr2 => ∃ j : Nat, j ≤ k ∧ q = .int .i64 j ∧ ∃ f2, Hid (wr2.heap[w2.heap.size]? = some (.cells (seenC f2) 55 (0, 0)) ∧ Keep (fun q => q = w2.heap.size) w5 wr2 ∧ ∀ x, f2 x = true → x < F + 1 + j)) (fun q _ => k - (intOf q).toNat)
      case atStart => exact ⟨0, Nat.zero_le _, rfl, f, HR5.out, Keep.refl _ _, fun x hx => by have := HSE.out x hx; omega⟩
      case round =>
        obtain ⟨j, hj, rfl, f2, HJ⟩ := hrel
        rcases Nat.lt_or_ge j k with hjk | hjk
        · have hra := (HJ.out.2.1.block a halt hane).trans HRW.out
          obtain ⟨Q, hQ⟩ : ∃ Q, F + 1 + j = Q := ⟨_, rfl⟩
          have hQ1 : 48 ≤ Q := by omega
          have hQ2 : Q < 48 + 32 * n := by omega
          have hQ3 : Q < 700 := by omega
          have ca : wr.cell? ⟨a, j, none⟩ = some (.int .i64 (Q : Int)) := by
            rw [cell_of_row _ _ _ _ _ _ hra, List.getElem?_toArray, icells_get _ _ (by rw [posL_length]; exact hjk)]
            simp [posL]
            omega
          have cs : wr.cell? ⟨w2.heap.size, Q, none⟩ = some (.bool false) := by
            rw [cell_of_row _ _ _ _ _ _ HJ.out.1, seenC_get _ _ hQ3]
            cases hf2 : f2 Q
            · rfl
            · have := HJ.out.2.2 Q hf2
              omega
          have fs : wr.frozen? ⟨w2.heap.size, Q, none⟩ = false := frozen_of_row _ _ _ _ _ HJ.out.1
          have HNX : Hid (∀ N, ((wr.drewN N).setCell ⟨w2.heap.size, Q, none⟩ (.bool true)).heap[w2.heap.size]? = some (.cells (seenC (upd f2 Q true)) 55 (0, 0)) ∧ Keep (fun q => q = w2.heap.size) w5 ((wr.drewN N).setCell ⟨w2.heap.size, Q, none⟩ (.bool true)) ∧ ∀ x, upd f2 Q true x = true → x < F + 1 + (j + 1)) := fun N => by
            have K := HJ.out.2.1
            have hN : (wr.drewN N).heap[w2.heap.size]? = some (.cells (seenC f2) 55 (0, 0)) := HJ.out.1
            have K2 : Keep (fun q => q = w2.heap.size) w5 (wr.drewN N) := ⟨K.os, K.tape, K.output, K.size, K.block⟩
            refine ⟨?_, K2.setCell (p := ⟨w2.heap.size, Q, none⟩) (fun _ => rfl) _, fun x hx => ?_⟩
            · rw [← seenC_set f2 Q hQ3]
              exact heap_setCell_same _ _ Q _ _ _ hN
            · by_cases e : x = Q
              · omega
              · rw [upd_other _ _ e] at hx
                have := HJ.out.2.2 x hx
                omega
          clear HJ
          rcases Nat.eq_zero_or_pos j with rfl | hj0
          · clear hQ hra
            have hd1 : decide ((Q : Int) < 48) = false := decide_eq_false (by omega)
            have hd2 : decide (48 + 32 * (n : Int) ≤ (Q : Int)) = false := decide_eq_false (by omega)
            have e0 : ((0 : Nat) : Int) = 0 := rfl
            have hjk0 : (0 : Int) < (k : Int) := by omega
            rw [e0]
            clear e0
            go_wp2_with fail
            go_quiet (fail)
            go_wp2_with fail
            exact ⟨⟨1, by omega, rfl, _, HNX.out _⟩, by simp [intOf]; omega⟩
          · obtain ⟨i, rfl⟩ : ∃ i, j = i + 1 := ⟨j - 1, by omega⟩
            obtain ⟨P, rfl⟩ : ∃ P, Q = P + 1 := ⟨Q - 1, by omega⟩
            have hci : wr.cell? ⟨a, i, none⟩ = some (.int .i64 (P : Int)) := by
              rw [cell_of_row _ _ _ _ _ _ hra, List.getElem?_toArray, icells_get _ _ (by rw [posL_length]; omega)]
              simp [posL]
              omega
            clear hra hQ
            have hd1 : decide ((P : Int) + 1 < 48) = false := decide_eq_false (by omega)
            have hd2 : decide (48 + 32 * (n : Int) ≤ (P : Int) + 1) = false := decide_eq_false (by omega)
            have e0 : ((i + 1 : Nat) : Int) = (i : Int) + 1 := rfl
            have e1 : ((P + 1 : Nat) : Int) = (P : Int) + 1 := rfl
            rw [e1] at ca
            rw [e0]
            clear e0 e1
            go_wp2_with fail
            go_quiet (fail)
            go_wp2_with fail
            exact ⟨⟨i + 1 + 1, by omega, rfl, _, HNX.out _⟩, by simp [intOf]; omega⟩
        · have hjk2 : j = k := by omega
          subst hjk2
          have hHS := HS5.out
          have hbel : Below w.heap.size w wr := HB5.out.trans (HJ.out.2.1.below HB5.out.size (fun q e => by rw [e]; exact hb2s))
          have HNX : Hid (FillAt n j E lb b gd w2.heap.size (cnt + 1) w wr S5 V5 L5 v5 f2) :=
            ⟨hHS.1, HL5.out.keep HR5.out (by decide) HOF5.out hsbne HJ.out.2.1, hHS.2.1, hHS.2.2.1, hHS.2.2.2.1, hHS.2.2.2.2.1, hHS.2.2.2.2.2, HJ.out.1, HOF5.out, hsbne, fun x hx => by have := HJ.out.2.2 x hx; have := HF2.out; omega, hbel, HFT5.out⟩
          clear hHS hbel HJ HS5 HL5 HR5 HRW HOF5 HFT5 HF2 HSE HB5
          go_wp2_with fail
          exact ⟨⟨cnt + 1, by go_num, _, _, _, _, _, HNX⟩, by simp [intOf]; omega⟩
end Go.Proofs.Ytgbgklnlmgpmjaa
