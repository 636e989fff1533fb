/- awake walked. -/
import Derived.Test.YtgbgklnlmgpmjaaLogLaw
namespace Go.Proofs.Ytgbgklnlmgpmjaa
open Go.RowKit Lo Hdp Chk Rec

theorem slotField4 (L : Lg) (w : World) : (Instr.field 45 (plV L) 4).run Try.prog w = .ok (.int .i64 L.pos) w := by kernel_rfl
theorem slotField6 (L : Lg) (w : World) : (Instr.field 45 (plV L) 6).run Try.prog w = .ok (.int .i64 L.seq) w := by kernel_rfl

set_option maxRecDepth 20000 in
set_option maxHeartbeats 4000000 in
theorem awake_t (w : World) : Calls Try.prog 10 #[] w fun e w' => e = .returned (.bool true) ∧ Below w.heap.size w w' := by
  obtain ⟨S, hS⟩ : ∃ S, S = St.new 304 := ⟨_, rfl⟩
  obtain ⟨L, hL⟩ : ∃ L, L = lg1 8 := ⟨_, rfl⟩
  have hn : S.n = 48 + 32 * 8 := by rw [hS]; rfl
  have hok : LawOk 8 L := by rw [hL]; exact LawOk.one (by decide) (by decide)
  have hc24 : L.canB 32 24 = true := by rw [hL]; decide
  have hc2 : L.canB 32 2 = true := by rw [hL]; decide
  have NW := lohid (fun w1 => disk_new 304 w1 (by decide) (by decide))
  have MK := lohid (fun (b gd : Nat) (V : Nat → Value) (w1 : World) (h : Disk w1 b S gd V) => make1_t 8 b gd S V w1 h (by decide) (by decide) hn)
  rw [← hS] at NW
  rw [← hL] at MK
  have FY := lohid (fun (lb b gd : Nat) (V : Nat → Value) (v : Value) (w1 : World) (h : LogAt w1 lb b gd S V 32 L v) => law_fits h hok hn (by decide) (by decide) 24 (by decide) (by rw [hS]; rfl))
  rw [hc24] at FY
  have BL := lohid (fun w1 => blocks_t 7 2 w1 (by decide) (by decide))
  have AP := lohid (fun (lb b gd : Nat) (V : Nat → Value) (v : Value) (ad bad : Option Addr) (cap bcap : Nat) (w1 : World) (h : LogAt w1 lb b gd S V 32 L v) hE hT => law_append h hok hn (by decide) (by decide) 0 0 7 2 (by decide) (by decide) (by decide) ad bad cap bcap hE hT hc2 (by rw [hS]; decide) (took_up (by rw [hS]; rfl) (by rw [hS]; rfl) _))
  obtain ⟨L1, hL1⟩ : ∃ L1, (L.move 32 2).after 2 (bkX 0 0 7 2) = L1 := ⟨_, rfl⟩
  have h1 : L1.pos = 3 := by rw [← hL1, hL]; rfl
  have h2 : L1.seq = 6 := by rw [← hL1, hL]; rfl
  have h3 : (L.move 32 2).sec 32 = 48 := by rw [hL]; rfl
  rw [hL1, h3] at AP
  obtain ⟨S1, hS1⟩ : ∃ S1, chunk S 3 48 (makeS ((L.move 32 2).head (bkX 0 0 7 2)) (bkT 7 2)) 2 = S1 := ⟨_, rfl⟩
  rw [hS1] at AP
  clear hS hL hn hok hc24 hc2 hL1 h3 hS1
  obtain ⟨house, gen, num, life, clock, seg, pos, next, seq, m0, m1, m2, m3, sb, sn, fl⟩ := L1
  dsimp only at h1 h2
  subst h1 h2
  go_enter Try.func10, Try.ntmps10
  go_wp2_with fail
  refine (NW.out w).mono ?_
  rintro e w1 ⟨b, gd, V, rfl, hD1, hb1, hf1⟩
  have HD1 := lohid hD1
  have HB1 := lohid hb1
  have HF1 := lohid hf1
  clear hD1 hb1 hf1 NW
  go_wp2_with fail
  refine (MK.out b gd V w1 HD1.out).mono ?_
  rintro e w2 ⟨lb, v, rfl, hL2, hlb, hb2⟩
  have HL2 := lohid hL2
  have HB2 : Hid (Below w.heap.size w w2) := HB1.out.trans (hb2.mono HB1.out.size)
  have hlb2 : w.heap.size ≤ lb := Nat.le_trans HB1.out.size hlb
  clear hL2 hb2 MK HB1 HD1 hlb
  go_wp2_with fail
  refine (FY.out lb b gd V v _ HL2.out).mono ?_
  rintro e w3 ⟨rfl, hb3⟩
  have HL3 := lohid (HL2.out.on hb3)
  have HB3 : Hid (Below w.heap.size w w3) := HB2.out.trans (hb3.mono HB2.out.size)
  clear HL2 HB2 hb3 FY
  go_wp2_with (first | (go_at_call 12; refine (fits_out _ 25 _ (by decide)).mono ?_; rintro e w4 ⟨rfl, rfl⟩) | fail)
  refine (BL.out _).mono ?_
  rintro e w4 ⟨ad, cap, bad, bcap, rfl, hE, hT, hb4⟩
  have HL4 := lohid (HL3.out.on hb4)
  have HB4 : Hid (Below w.heap.size w w4) := HB3.out.trans (hb4.mono HB3.out.size)
  have HE := lohid hE.ents
  have HT := lohid hT.txts
  clear HL3 HB3 hb4 BL hE hT
  go_wp2_with fail
  refine (AP.out lb b gd V v ad bad cap bcap w4 HL4.out HE.out HT.out).mono ?_
  rintro e w5 ⟨a, V5, v5, rfl, hrow, ha, hfa, hL5, hs5⟩
  have HB5 : Hid (Below w.heap.size w w5) := hs5.under HB4.out HF1.out hlb2 (Nat.le_refl _)
  have c0 : w5.cell? ⟨a, 0, none⟩ = some (.int .i64 49) := (cell_of_row _ _ _ _ _ _ hrow).trans rfl
  have c1 : w5.cell? ⟨a, 1, none⟩ = some (.int .i64 50) := (cell_of_row _ _ _ _ _ _ hrow).trans rfl
  have PL := lohid (fun (w6 : World) (hb : Below w5.heap.size w5 w6) => place_t lb b _ 32 _ v5 _ w6 (row_on hL5.row hb))
  clear AP HE HT HL4 HB4 hrow hs5 hfa ha hL5 HF1
  have F4 := fun w => slotField4 ⟨house, gen, num, life, clock, seg, 3, next, 6, m0, m1, m2, m3, sb, sn, fl⟩ w
  have F6 := fun w => slotField6 ⟨house, gen, num, life, clock, seg, 3, next, 6, m0, m1, m2, m3, sb, sn, fl⟩ w
  go_wp2_with (first
    | (go_at_call 17; refine (PL.out _ (by first | exact Below.refl _ _ | assumption)).mono ?_; rintro e w6 ⟨rfl, hb6⟩; have HB5 : Hid (Below w.heap.size w w6) := HB5.out.trans (hb6.mono HB5.out.size))
    | fail)
  go_ret
  exact ⟨rfl, HB5.out⟩
end Go.Proofs.Ytgbgklnlmgpmjaa
