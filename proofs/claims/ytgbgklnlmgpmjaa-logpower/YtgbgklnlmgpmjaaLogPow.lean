/- LogPower walked. -/
import Derived.Test.YtgbgklnlmgpmjaaLogPower
namespace Go.Proofs.Ytgbgklnlmgpmjaa
open Go.RowKit Lo Hdp Chk Rec

/-- The second Append of the law, its two ways in one. -/
def PowSaid (w : World) (lb b gd : Nat) (V : Nat → Value) (S' : St) (tk : Bool) (k : Nat) (e : Ending) (w' : World) : Prop :=
  ∃ ad len cap V', e = .returned (.tuple #[.slice ad len cap, .bool tk]) ∧ len = (if tk = true then k else 0) ∧ Disk w' b S' gd V' ∧ LStep lb b gd w V w' V'

theorem pow_append {lb b gd : Nat} {S : St} {V : Nat → Value} {L : Lg} {vv : Value} {w : World} (H : LogAt w lb b gd S V 32 L vv) (hok : LawOk 8 L) (hS : S.n = 48 + 32 * 8) (v k : Nat) (hk : k ≤ 24) (ad bad : Option Addr) (cap bcap : Nat) (hE : Ents w (.slice ad k cap) (bkE v k)) (hT : Txts w (.slice bad k bcap) (bkT v k))
    (hc : L.canB 32 k = true) (hw : S.writes + 1 + k ≤ 1000000) :
    Calls Try.prog 13 #[.pointer (some ⟨lb, 0, none⟩), headV (bkX 0 0 v k) (.slice ad k cap), .slice bad k bcap] w fun e w' =>
      PowSaid w lb b gd V (chunk S 3 ((L.move 32 k).sec 32) (makeS ((L.move 32 k).head (bkX 0 0 v k)) (bkT v k)) k) (took S k) k e w' := by
  cases ht : took S k
  · refine (law_lost H hok hS (by decide) (by decide) 0 0 v k (by decide) (by decide) hk ad bad cap bcap hE hT hc hw ht).mono ?_
    rintro e w' ⟨rfl, V', h1, h2⟩
    exact ⟨none, 0, 0, V', rfl, rfl, h1.disk, h2⟩
  · refine (law_append H hok hS (by decide) (by decide) 0 0 v k (by decide) (by decide) hk ad bad cap bcap hE hT hc hw ht).mono ?_
    rintro e w' ⟨a, V', v', rfl, _, _, _, h1, h2⟩
    exact ⟨_, k, k, V', rfl, rfl, h1.disk, h2⟩

set_option maxRecDepth 20000 in
set_option maxHeartbeats 4000000 in
theorem logPower_t (cut size : Int) (w : World) :
    Calls Try.prog 6 #[.int .i64 cut, .int .i64 size] w fun e w' => e = .returned (.bool true) ∧ Below w.heap.size w w' := by
  have PLc := lohid (fun w => gplace_t cut 25 w (by decide) (by decide))
  have PLs := lohid (fun w => gplace_t size 20 w (by decide) (by decide))
  obtain ⟨c, hc, hc2⟩ : ∃ c : Nat, cut % 25 = (c : Int) ∧ c < 25 := ⟨(cut % 25).toNat, by omega, by omega⟩
  obtain ⟨k, hk, hk2⟩ : ∃ k : Nat, size % 20 = (k : Int) ∧ k < 20 := ⟨(size % 20).toNat, by omega, by omega⟩
  rw [hc] at PLc
  rw [hk] at PLs
  clear hc hk
  -- the states, plainly
  have hok : LawOk 8 (lg1 8) := LawOk.one (by decide) (by decide)
  have hm := law_made (hok.move (k := 3) (by decide)) (by decide) (bkX 0 0 1 3) 1 3 (by decide) rfl (by decide) (by decide) (by decide) (by decide) (by decide) (by decide)
  have hP := pow_one hm
  have hok2 : LawOk 8 (((lg1 8).move 32 3).after 3 (bkX 0 0 1 3)) := (hok.move (by decide)).after _ (by decide) (by decide)
  have hmv : (((lg1 8).move 32 3).after 3 (bkX 0 0 1 3)).move 32 k = ((lg1 8).move 32 3).after 3 (bkX 0 0 1 3) := if_pos (by show (0 : Int) + (1 + 3) ≤ 32 - 1 - k; omega)
  have hcb : (((lg1 8).move 32 3).after 3 (bkX 0 0 1 3)).canB 32 k = true := by
    unfold Lg.canB
    rw [decide_eq_true (by show (0 : Int) + (1 + 3) ≤ 32 - 1 - k; omega)]
    rfl
  have hup : (chunk (St.new 304) 3 48 (makeS (((lg1 8).move 32 3).head (bkX 0 0 1 3)) (bkT 1 3)) 3).down = false := chunk_up (took_up rfl rfl _) rfl
  have NW := lohid (fun w1 => disk_new 304 w1 (by decide) (by decide))
  have MK := lohid (fun (b gd : Nat) (V : Nat → Value) (w1 : World) (h : Disk w1 b (St.new 304) gd V) => make1_t 8 b gd (St.new 304) V w1 h (by decide) (by decide) rfl)
  have AP := lohid (fun (lb b gd : Nat) (V : Nat → Value) (v : Value) (ad bad : Option Addr) (cap bcap : Nat) (w1 : World) (h : LogAt w1 lb b gd (St.new 304) V 32 (lg1 8) v) hE hT => law_append h hok rfl (by decide) (by decide) 0 0 1 3 (by decide) (by decide) (by decide) ad bad cap bcap hE hT (by decide) (by decide) (took_up rfl rfl _))
  have e48 : ((lg1 8).move 32 3).sec 32 = 48 := rfl
  rw [e48] at AP
  obtain ⟨S0, hS0⟩ : ∃ S0, St.new 304 = S0 := ⟨_, rfl⟩
  obtain ⟨L0, hL0⟩ : ∃ L0, lg1 8 = L0 := ⟨_, rfl⟩
  rw [hS0] at NW MK AP hP hup
  rw [hL0] at MK AP hP hup hok2 hmv hcb
  obtain ⟨L1, hL1⟩ : ∃ L1, (L0.move 32 3).after 3 (bkX 0 0 1 3) = L1 := ⟨_, rfl⟩
  have h52 : L1.sec 32 = 52 := by rw [← hL1, ← hL0]; rfl
  rw [hL1] at AP hok2 hmv hcb
  obtain ⟨S1, hS1⟩ : ∃ S1, chunk S0 3 48 (makeS ((L0.move 32 3).head (bkX 0 0 1 3)) (bkT 1 3)) 3 = S1 := ⟨_, rfl⟩
  rw [hS1] at AP hP hup
  have FL := lohid (fun (b gd : Nat) (V : Nat → Value) (w1 : World) (h : Disk w1 b S1 gd V) => disk_flush h 3 (by decide) hup)
  obtain ⟨S2, hS2⟩ : ∃ S2, S1.flush 3 = S2 := ⟨_, rfl⟩
  have hup2 : S2.down = false := by rw [← hS2]; exact hup
  have hS21 : S2.n = S1.n := by rw [← hS2]; rfl
  rw [hS2] at FL hP
  have CU := lohid (fun (b gd : Nat) (V : Nat → Value) (w1 : World) (h : Disk w1 b S2 gd V) => disk_cut h c (by omega))
  obtain ⟨S3, hS3⟩ : ∃ S3, S2.cut c = S3 := ⟨_, rfl⟩
  have hS32 : S3.n = S2.n := by rw [← hS3]; rfl
  have hn3 : S3.n = 304 := hS32.trans hP.n
  have hw3 : S3.writes = 4 := by rw [← hS3]; exact hP.writes
  have BL1 := lohid (fun w1 => blocks_t 1 3 w1 (by decide) (by decide))
  have BL2 := lohid (fun w1 => blocks_t 50 k w1 (by decide) (by omega))
  have AP2 := lohid (fun (lb b gd : Nat) (V : Nat → Value) (v : Value) (ad bad : Option Addr) (cap bcap : Nat) (w1 : World) (h : LogAt w1 lb b gd S3 V 32 L1 v) hE hT => pow_append h hok2 (by rw [hn3]) 50 k (by omega) ad bad cap bcap hE hT hcb (by omega))
  rw [hmv, h52] at AP2
  obtain ⟨T, hT⟩ : ∃ T, makeS (L1.head (bkX 0 0 50 k)) (bkT 50 k) = T := ⟨_, rfl⟩
  have hW4 := pow_writes hP c k hup2 T
  have hE4 := pow_end hP c k T
  have hTK := pow_took hup2 c k
  rw [hT] at AP2
  rw [hS3] at CU hW4 hE4 hTK
  rw [hTK] at AP2
  obtain ⟨tk, htk⟩ : ∃ tk, decide (1 + k ≤ c) = tk := ⟨_, rfl⟩
  rw [htk] at AP2
  have HTK := lohid htk
  obtain ⟨S4, hS4⟩ : ∃ S4, chunk S3 3 52 T k = S4 := ⟨_, rfl⟩
  rw [hS4] at AP2 hW4 hE4
  obtain ⟨S5, hS5⟩ : ∃ S5, S4.lose = S5 := ⟨_, rfl⟩
  have LO := lohid (fun (b gd : Nat) (V : Nat → Value) (w1 : World) (h : Disk w1 b S4 gd V) => disk_lose h)
  rw [hS5] at LO hE4
  have RDI : Hid (∀ (b gd : Nat) (V : Nat → Value) (w1 : World) (J : Nat) (_ : J < 3) (_ : Disk w1 b S5 gd V), Calls Try.prog 14 #[.pointer (some ⟨b, 0, none⟩), .int .i64 (49 + (J : Int))] w1 fun e w' => e = .returned (.tuple #[.string (Fill (1 + J)), .bool true]) ∧ Below w1.heap.size w1 w') := fun b gd V w1 J hJ h => by
    have h2 := disk_read h (49 + J) (by rw [hE4.n]; omega) hE4.down
    rw [hE4.read J hJ, show ((49 + J : Nat) : Int) = 49 + (J : Int) by omega] at h2
    exact h2
  have RDZ : Hid (∀ (b gd : Nat) (V : Nat → Value) (w1 : World) (_ : Disk w1 b S5 gd V), Calls Try.prog 14 #[.pointer (some ⟨b, 0, none⟩), .int .i64 52] w1 fun e w' => e = .returned (.tuple #[.string (zbytes 256), .bool true]) ∧ Below w1.heap.size w1 w') := fun b gd V w1 h => by
    have h2 := disk_read h 52 (by rw [hE4.n]; omega) hE4.down
    rw [hE4.zero] at h2
    exact h2
  have ZE := lohid zero_t
  obtain ⟨Z0, hZ0⟩ : ∃ Z, zbytes 256 = Z := ⟨_, rfl⟩
  rw [hZ0] at RDZ ZE
  have WR := lohid (fun (b gd : Nat) (V : Nat → Value) (w1 : World) (h : Disk w1 b S4 gd V) => kWrites (lohid h) (4 + min (c : Int) (1 + (k : Int))) (by rw [hW4]; omega))
  have FI := lohid (fun v w (h : v ≤ 100000) => filled_t v w h)
  have AW := lohid awake_t
  clear hok hm hP hok2 hmv hcb hup hup2 e48 hS0 hL0 hL1 h52 hS1 hS2 hn3 hw3 hT hW4 hE4 hTK hS3 hS4 hS5 hZ0 htk
  go_enter Try.func6, Try.ntmps6
  go_wp2_with fail
  refine (NW.out w).mono ?_
  rintro e w1 ⟨b, gd, V, rfl, hD1, hb1, hf1⟩
  have HD1 := lohid hD1
  have HB1 := lohid hb1
  have HF1 := lohid hf1
  clear hD1 hb1 hf1 NW
  go_wp2_with fail
  refine (MK.out b gd V w1 HD1.out).mono ?_
  rintro e w2 ⟨lb, v, rfl, hL2, hlb, hb2⟩
  have HL2 := lohid hL2
  have HB2 : Hid (Below w.heap.size w w2) := HB1.out.trans (hb2.mono HB1.out.size)
  have hlb2 : w.heap.size ≤ lb := Nat.le_trans HB1.out.size hlb
  clear hL2 hb2 MK HB1 HD1 hlb
  go_wp2_with fail
  refine (BL1.out _).mono ?_
  rintro e w4 ⟨ad, cap, bad, bcap, rfl, hE, hT, hb4⟩
  have HL4 := lohid (HL2.out.on hb4)
  have HB4 : Hid (Below w.heap.size w w4) := HB2.out.trans (hb4.mono HB2.out.size)
  have HE := lohid hE.ents
  have HT := lohid hT.txts
  clear HL2 HB2 hb4 BL1 hE hT
  go_wp2_with fail
  refine (AP.out lb b gd V v ad bad cap bcap w4 HL4.out HE.out HT.out).mono ?_
  rintro e w5 ⟨a, V5, v5, rfl, -, -, -, hL5, hs5⟩
  have HB5 : Hid (Below w.heap.size w w5) := hs5.under HB4.out HF1.out hlb2 (Nat.le_refl _)
  have HF5 := lohid (hs5.foots HF1.out HB4.out.size)
  have HL5 := lohid hL5
  clear AP HE HT HL4 HB4 hL5 hs5 HF1
  go_wp2_with fail
  refine (FL.out b gd V5 w5 HL5.out.disk).mono ?_
  rintro e w6 ⟨rfl, V6, hD6, hs6⟩
  have HL6 := lohid (HL5.out.step hD6 hs6 hS21)
  have HB6 : Hid (Below w.heap.size w w6) := hs6.under HB5.out HF5.out (Nat.le_refl _)
  have HF6 := lohid (hs6.foots HF5.out HB5.out.size)
  clear FL HL5 HB5 HF5 hD6 hs6 hS21
  go_wp2_with fail
  refine (PLs.out _).mono ?_
  rintro e wp ⟨rfl, rfl⟩
  go_wp2_with fail
  refine (PLc.out _).mono ?_
  rintro e wp ⟨rfl, rfl⟩
  go_wp2_with fail
  refine (CU.out b gd V6 _ HL6.out.disk).mono ?_
  rintro e w7 ⟨rfl, hD7, hs7⟩
  have HL7 := lohid (HL6.out.step hD7 hs7 hS32)
  have HB7 : Hid (Below w.heap.size w w7) := hs7.under HB6.out HF6.out (Nat.le_refl _)
  have HF7 := lohid (hs7.foots HF6.out HB6.out.size)
  clear CU HL6 HB6 HF6 hD7 hs7 hS32 PLs PLc
  go_wp2_with fail
  refine (BL2.out _).mono ?_
  rintro e w8 ⟨ad2, cap2, bad2, bcap2, rfl, hE, hT, hb8⟩
  have HL8 := lohid (HL7.out.on hb8)
  have HB8 : Hid (Below w.heap.size w w8) := HB7.out.trans (hb8.mono HB7.out.size)
  have HE := lohid hE.ents
  have HT := lohid hT.txts
  clear HL7 HB7 hb8 BL2 hE hT
  go_wp2_with fail
  refine (AP2.out lb b gd V6 v5 ad2 bad2 cap2 bcap2 w8 HL8.out HE.out HT.out).mono ?_
  rintro e w9 ⟨ad9, len, cap9, V9, rfl, hlen, hD9, hs9⟩
  have HD9 := lohid hD9
  have HB9 : Hid (Below w.heap.size w w9) := hs9.under HB8.out HF7.out hlb2 (Nat.le_refl _)
  have HF9 := lohid (hs9.foots HF7.out HB8.out.size)
  clear AP2 HE HT HL8 HB8 HF7 hD9 hs9
  have hmn : (tk = true ∧ len = k ∧ min (c : Int) (1 + (k : Int)) = 1 + (k : Int) ∧ 1 + (k : Int) ≤ (c : Int)) ∨ (tk = false ∧ len = 0 ∧ min (c : Int) (1 + (k : Int)) = (c : Int) ∧ ¬ 1 + (k : Int) ≤ (c : Int)) := by
    cases tk
    · have h2 : ¬ 1 + k ≤ c := of_decide_eq_false HTK.out
      exact .inr ⟨rfl, hlen, by omega, by omega⟩
    · have h2 : 1 + k ≤ c := of_decide_eq_true HTK.out
      exact .inl ⟨rfl, hlen, by omega, by omega⟩
  clear hlen HTK
  rcases hmn with ⟨rfl, rfl, hmn, hck⟩ | ⟨rfl, rfl, hmn, hck⟩
  all_goals
    go_wp2_with (first
      | (go_at_call 22; refine (WR.out b gd V9 _ HD9.out).mono ?_; rintro e wq ⟨rfl, rfl⟩)
      | (go_at_call 25; refine (LO.out b gd V9 _ HD9.out).mono ?_; rintro e w10 ⟨rfl, V10, hD10, hs10⟩)
      | fail)
    have HD10 := lohid hD10
    have HB10 : Hid (Below w.heap.size w w10) := hs10.under HB9.out HF9.out (Nat.le_refl _)
    clear hD10 hs10 HB9 HF9 HD9 WR LO hmn hck
    go_loopw [15] (fun q wr => ∃ J : Nat, J ≤ 3 ∧ q = .int .i64 J ∧ Hid (Disk wr b S5 gd V10 ∧ Below w.heap.size w wr)) (fun q _ => 3 - (intOf q).toNat)
    case atStart => exact ⟨0, by decide, rfl, HD10.out, HB10.out⟩
    case round =>
      obtain ⟨J, hJ, rfl, HI⟩ := hrel
      rcases Nat.lt_or_ge J 3 with hJ3 | hJ3
      · obtain ⟨Z, hZ⟩ : ∃ Z, Fill (1 + J) = Z := ⟨_, rfl⟩
        have RDJ := lohid (RDI.out b gd V10 wr J hJ3 HI.out.1)
        have FIJ := lohid (fun w1 => FI.out (1 + J) w1 (by omega))
        rw [hZ] at RDJ FIJ
        rw [show ((1 + J : Nat) : Int) = 1 + (J : Int) by omega] at FIJ
        clear hZ
        go_wp2_with fail
        refine RDJ.out.mono ?_
        rintro e w11 ⟨rfl, hb11⟩
        have HB11 := lohid hb11
        clear hb11 RDJ
        go_wp2_with fail
        refine (FIJ.out w11).mono ?_
        rintro e w12 ⟨rfl, hb12⟩
        have HI2 : Hid (Disk w12 b S5 gd V10 ∧ Below w.heap.size w w12) :=
          ⟨(HI.out.1.below HB11.out).below hb12, (HI.out.2.trans (HB11.out.mono HI.out.2.size)).trans (hb12.mono (Nat.le_trans HI.out.2.size HB11.out.size))⟩
        clear hb12 HB11 FIJ HI
        go_wp2_with fail
        exact ⟨⟨J + 1, by omega, by go_num, HI2⟩, by simp [intOf]; omega⟩
      · have hJ4 : J = 3 := by omega
        subst hJ4
        go_wp2_with fail
        refine (RDZ.out b gd V10 wr HI.out.1).mono ?_
        rintro e w11 ⟨rfl, hb11⟩
        have HB11 : Hid (Below w.heap.size w w11) := HI.out.2.trans (hb11.mono HI.out.2.size)
        clear hb11 HI RDZ
        go_wp2_with fail
        refine (ZE.out w11).mono ?_
        rintro e w12 ⟨rfl, hb12⟩
        have HB12 : Hid (Below w.heap.size w w12) := HB11.out.trans (hb12.mono HB11.out.size)
        clear hb12 HB11 ZE
        go_wp2_with fail
        refine (AW.out w12).mono ?_
        rintro e w13 ⟨rfl, hb13⟩
        have HB13 : Hid (Below w.heap.size w w13) := HB12.out.trans (hb13.mono HB12.out.size)
        clear hb13 HB12 AW
        go_wp2_with fail
        go_ret
        exact ⟨rfl, HB13.out⟩
end Go.Proofs.Ytgbgklnlmgpmjaa
