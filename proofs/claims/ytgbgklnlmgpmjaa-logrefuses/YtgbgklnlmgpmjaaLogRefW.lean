/- LogRefuses walked, to its end. -/
import Derived.Test.YtgbgklnlmgpmjaaLogRef
namespace Go.Proofs.Ytgbgklnlmgpmjaa
open Go.RowKit Lo Hdp Chk Rec

set_option maxRecDepth 20000 in
set_option maxHeartbeats 4000000 in
theorem logRefuses_t (how n : Int) (w : World) :
    Calls Try.prog 4 #[.int .i64 how, .int .i64 n] w fun e w' => e = .returned (.bool true) ∧ Below w.heap.size w w' := by
  have PLh := lohid (fun w => gplace_t how 5 w (by decide) (by decide))
  have PLn := lohid (fun w => gplace_t n 20 w (by decide) (by decide))
  obtain ⟨u, hu, hu2⟩ : ∃ u : Nat, how % 5 = (u : Int) ∧ u < 5 := ⟨(how % 5).toNat, by omega, by omega⟩
  obtain ⟨k, hk, hk2⟩ : ∃ k : Nat, 1 + n % 20 = (k : Int) + 1 ∧ k < 20 := ⟨(n % 20).toNat, by omega, by omega⟩
  have hk3 : n % 20 = (k : Int) := by omega
  obtain ⟨v, hv, hv2⟩ := and_low n
  rw [hu] at PLh
  rw [hk3] at PLn
  have HV := lohid hv2
  clear hu hk hk3 hv2
  obtain ⟨S, hS⟩ : ∃ S, St.new 304 = S := ⟨_, rfl⟩
  obtain ⟨L, hL⟩ : ∃ L, lg1 8 = L := ⟨_, rfl⟩
  have hn : S.n = 48 + 32 * 8 := by rw [← hS]; rfl
  have hok : LawOk 8 L := by rw [← hL]; exact LawOk.one (by decide) (by decide)
  have hcb : L.canB 32 (k + 1) = true := by
    rw [← hL]
    unfold Lg.canB
    rw [decide_eq_true (by show (0 : Int) ≤ 32 - 1 - ((k + 1 : Nat) : Int); omega)]
    rfl
  have NW := lohid (fun w1 => disk_new 304 w1 (by decide) (by decide))
  have MK := lohid (fun (b gd : Nat) (V : Nat → Value) (w1 : World) (h : Disk w1 b S gd V) => make1_t 8 b gd S V w1 h (by decide) (by decide) hn)
  rw [hS] at NW
  rw [hL] at MK
  have BL := lohid (fun w1 => blocks_t v (k + 1) w1 (by omega) (by omega))
  rw [show ((k + 1 : Nat) : Int) = 1 + (k : Int) by omega, ← HV.out] at BL
  have hwr : S.writes = 0 := by rw [← hS]; rfl
  have UM := lohid (fun (lb b gd : Nat) (V : Nat → Value) (vv : Value) (x : Hd) (ad : Option Addr) (cap m : Nat) (hm : x.list.length = m) (bv : Value) (l : List ByteArray) (w1 : World) (h : LogAt w1 lb b gd S V 32 L vv) (hE : Ents w1 (.slice ad m cap) x.list) (hT : Txts w1 bv l) (hl : l.length = k + 1) (hm2 : makeB ((L.move 32 (k + 1)).head x) l = false) =>
    ref_unmade h hok hn x ad m cap hm bv l hE hT (by omega) (by rw [hl]; exact hcb) (by rw [hl]; exact hm2))
  have CU := lohid (fun (b gd : Nat) (V : Nat → Value) (w1 : World) (h : Disk w1 b S gd V) => disk_cut h 0 (by omega))
  obtain ⟨S2, hS2⟩ : ∃ S2, S.cut 0 = S2 := ⟨_, rfl⟩
  have hn2 : S2.n = S.n := by rw [← hS2]; rfl
  have hw2 : S2.writes = 0 := by rw [← hS2]; exact hwr
  have hd2 : S2.down = true := by rw [← hS2]; rfl
  rw [hS2] at CU
  have DN := lohid (fun (lb b gd : Nat) (V : Nat → Value) (vv : Value) (ad bad : Option Addr) (cap bcap : Nat) (w1 : World) (h : LogAt w1 lb b gd S2 V 32 L vv) hE hT => ref_down h hok (hn2.trans hn) v (k + 1) (by omega) ad bad cap bcap hE hT hcb (by omega) hd2)
  have WR := lohid (fun (S' : St) (b gd : Nat) (V : Nat → Value) (w1 : World) (h : Disk w1 b S' gd V) (h0 : S'.writes = 0) => kWrites (lohid h) 0 (by rw [h0]; rfl))
  have AW := lohid awake_t
  have hseg : L.seg = 0 := by rw [← hL]; rfl
  have hpos : L.pos = 0 := by rw [← hL]; rfl
  have hseq : L.seq = 5 := by rw [← hL]; rfl
  clear hS hL hok hS2 hd2
  go_enter Try.func4, Try.ntmps4
  go_wp2_with fail
  refine (NW.out w).mono ?_
  rintro e w1 ⟨b, gd, V, rfl, hD1, hb1, hf1⟩
  have HD1 := lohid hD1
  have HB1 := lohid hb1
  have HF1 := lohid hf1
  clear hD1 hb1 hf1 NW
  go_wp2_with fail
  refine (MK.out b gd V w1 HD1.out).mono ?_
  rintro e w2 ⟨lb, vv, rfl, hL2, hlb, hb2⟩
  have HL2 := lohid hL2
  have HB2 : Hid (Below w.heap.size w w2) := HB1.out.trans (hb2.mono HB1.out.size)
  have hlb2 : w.heap.size ≤ lb := Nat.le_trans HB1.out.size hlb
  clear hL2 hb2 MK HB1 HD1 hlb
  go_wp2_with fail
  refine (PLn.out _).mono ?_
  rintro e wp ⟨rfl, rfl⟩
  go_wp2_with fail
  refine (BL.out _).mono ?_
  rintro e w4 ⟨ad, cap, bad, bcap, rfl, hE, hT, hb4⟩
  have HB24 := lohid hb4
  have HE := lohid hE
  have HT := lohid hT
  have hcap : k + 1 ≤ cap := by
    rcases hE.2 with ⟨h0, h1⟩ | ⟨g, cp, cur, h0, _, _, h1, _⟩
    · rw [bkE_length] at h1; omega
    · injection h0 with h2 h3 h4
      rw [bkE_length] at h1
      omega
  clear hb4 BL hE hT
  go_wp2_with fail
  generalize hW5 : World.alloc w4 _ = W5
  have HX5 : Hid (W5.heap[w4.heap.size]? = some (.cells (headC (bkX 0 0 v (k + 1)) (.slice ad (k + 1) cap)) 37 (0, 0))) := by rw [← hW5]; exact heap_alloc_new _ _
  have HB45 : Hid (Below w4.heap.size w4 W5) := by rw [← hW5]; exact (Below.refl _ _).alloc (Nat.le_refl _) _
  have HB25 : Hid (Below w2.heap.size w2 W5) := HB24.out.trans (HB45.out.mono HB24.out.size)
  have hs24 : w2.heap.size ≤ w4.heap.size := HB24.out.size
  have HE5 := lohid (HE.out.on HB45.out)
  have HT5 := lohid (HT.out.on HB45.out)
  have HEl := lohid (fun g hg => (HE.out.lt g hg).2)
  have HTl := lohid (fun g hg => (HT.out.lt g hg).2)
  clear hW5 HB24 HB45 HE HT
  have hfx : ∀ j, W5.frozen? ⟨w4.heap.size, j, none⟩ = false := fun j => frozen_of_row W5 _ j _ _ HX5.out
  have hx5 : W5.cell? ⟨w4.heap.size, 5, none⟩ = some (.int .i64 0) := (cell_of_row _ _ _ _ _ _ HX5.out).trans rfl
  have hx8 : W5.cell? ⟨w4.heap.size, 8, none⟩ = some (.slice ad (k + 1) cap) := (cell_of_row _ _ _ _ _ _ HX5.out).trans rfl
  refine (PLh.out _).mono ?_
  rintro e wp ⟨rfl, rfl⟩
  rcases (show u = 0 ∨ u = 1 ∨ u = 2 ∨ u = 3 ∨ u = 4 by omega) with rfl | rfl | rfl | rfl | rfl
  · clear hx8
    go_wp2_with fail
    generalize hW6 : World.setCell _ _ _ = W6
    have HX6 : Hid (W6.heap[w4.heap.size]? = some (.cells (headC ⟨0, 0, 0, 0, 0, -(1 + (k : Int)), 0, 0, bkE v (k + 1)⟩ (.slice ad (k + 1) cap)) 37 (0, 0))) := by rw [← hW6]; exact heap_setCell_same _ _ 5 _ _ _ HX5.out
    have HB26 : Hid (Below w2.heap.size w2 W6) := by rw [← hW6]; exact HB25.out.setCell hs24 _
    have HE6 : Hid (Ents W6 (.slice ad (k + 1) cap) (bkE v (k + 1))) := by rw [← hW6]; exact (HE5.out.kept (grown_put W5 _ _) (.inr (fun e => by have := HEl.out _ e; dsimp only at this; omega))).ents
    have HT6 : Hid (Txts W6 (.slice bad (k + 1) bcap) (bkT v (k + 1))) := by rw [← hW6]; exact (HT5.out.kept (grown_put W5 _ _) (.inr (fun e => by have := HTl.out _ e; dsimp only at this; omega))).txts
    have HL6 := lohid (HL2.out.on HB26.out)
    have HF6 := HF1
    have HW6 := hwr
    have HB6 : Hid (Below w.heap.size w W6) := HB2.out.trans (HB26.out.mono HB2.out.size)
    have APP := lohid (UM.out lb b gd V vv ⟨0, 0, 0, 0, 0, -(1 + (k : Int)), 0, 0, bkE v (k + 1)⟩ ad cap (k + 1) (bkE_length _ _) (.slice bad (k + 1) bcap) (bkT v (k + 1)) W6 HL6.out HE6.out HT6.out (bkT_length _ _) (make_okno (ok_clock (by show -(1 + (k : Int)) < 0; omega))))
    clear hW6 hx5 hfx
    obtain ⟨c0, c1, c2, c3, c4, c5, c6, c7, c8⟩ := cells9 HX6.out
    clear HE5 HT5 HEl HTl HX5 HB25 UM DN CU PLh
    refine (WR.out _ b gd _ W6 HL6.out.disk HW6).mono ?_
    rintro e wq ⟨rfl, rfl⟩
    go_wp2_with fail
    refine APP.out.mono ?_
    rintro e w8 ⟨rfl, V8, hL8, hs8⟩
    have HL8 := lohid hL8
    have HB8 : Hid (Below w.heap.size w w8) := hs8.under HB6.out HF6.out hlb2 (Nat.le_refl _)
    clear hL8 hs8 c0 c1 c2 c3 c4 c5 c6 c7 c8 APP HX6 HE6 HT6 HL6 HB6
    go_wp2_with fail
    refine (place_t lb b _ 32 L vv _ w8 HL8.out.row).mono ?_
    rintro e w9 ⟨rfl, hb9⟩
    have HL9 := lohid (HL8.out.on hb9)
    have HB9 : Hid (Below w.heap.size w w9) := HB8.out.trans (hb9.mono HB8.out.size)
    clear hb9 HL8 HB8
    go_wp2_with fail
    refine (WR.out _ b gd V8 _ (HL9.out.disk.below ((Below.refl _ _).alloc (Nat.le_refl _) _)) HW6).mono ?_
    rintro e wq ⟨rfl, rfl⟩
    go_wp2_with (first | (go_at_call 12; refine (fits_out _ _ _ (by omega)).mono ?_; rintro e wf ⟨rfl, rfl⟩) | fail)
    refine (AW.out _).mono ?_
    rintro e w13 ⟨rfl, hb13⟩
    have HB13 : Hid (Below w.heap.size w w13) := (HB9.out.alloc HB9.out.size _).trans (hb13.mono (by have := HB9.out.size; simp; omega))
    clear hb13 HB9 AW
    go_wp2_with fail
    go_ret
    exact ⟨rfl, HB13.out⟩
  · obtain ⟨g, bc, hbv, hbg, hlg, hfg, hcg, hpg⟩ := HT5.out.put (by rw [bkT_length]; omega)
    rw [bkT_length] at hbv hcg hpg
    injection hbv with hb1 hb2 hb3
    subst hb1 hb3
    obtain ⟨cu, hcu⟩ := hcg k (by omega)
    have HPG := lohid hpg
    clear hx5 hx8 hcg hpg
    go_wp2_with fail
    generalize hW6 : World.setCell _ _ _ = W6
    have HX6 : Hid (W6.heap[w4.heap.size]? = some (.cells (headC (bkX 0 0 v (k + 1)) (.slice ad (k + 1) cap)) 37 (0, 0))) := by rw [← hW6, heap_setCell_other _ _ _ _ (by have := HTl.out g rfl; dsimp only; omega)]; exact HX5.out
    have HB26 : Hid (Below w2.heap.size w2 W6) := by rw [← hW6]; exact HB25.out.setCell hbg _
    have HE6 : Hid (Ents W6 (.slice ad (k + 1) cap) (bkE v (k + 1))) := by rw [← hW6]; exact (HE5.out.kept (grown_put W5 ⟨g, k, none⟩ _) (own_apart HE5.out HT5.out)).ents
    have HT6 : Hid (Txts W6 (.slice (some ⟨g, 0, none⟩) (k + 1) bcap) ((bkT v (k + 1)).set k ⟨#[115, 104, 111, 114, 116]⟩)) := by rw [← hW6]; exact HPG.out k _ (by omega)
    have hall : allB ((bkT v (k + 1)).set k ⟨#[115, 104, 111, 114, 116]⟩) = false := allB_no (i := k) (by rw [List.length_set, bkT_length]; omega) (by rw [List.getElem_set_self]; decide)
    have HL6 := lohid (HL2.out.on HB26.out)
    have HF6 := HF1
    have HW6 := hwr
    have HB6 : Hid (Below w.heap.size w W6) := HB2.out.trans (HB26.out.mono HB2.out.size)
    have APP := lohid (UM.out lb b gd V vv (bkX 0 0 v (k + 1)) ad cap (k + 1) (bkE_length _ _) (.slice (some ⟨g, 0, none⟩) (k + 1) bcap) _ W6 HL6.out HE6.out HT6.out (by rw [List.length_set, bkT_length]) (makeB_all hall))
    clear hW6 hfx hall hfg hcu
    obtain ⟨c0, c1, c2, c3, c4, c5, c6, c7, c8⟩ := cells9 HX6.out
    clear HE5 HT5 HEl HTl HX5 HB25 UM DN CU PLh
    refine (WR.out _ b gd _ W6 HL6.out.disk HW6).mono ?_
    rintro e wq ⟨rfl, rfl⟩
    go_wp2_with fail
    refine APP.out.mono ?_
    rintro e w8 ⟨rfl, V8, hL8, hs8⟩
    have HL8 := lohid hL8
    have HB8 : Hid (Below w.heap.size w w8) := hs8.under HB6.out HF6.out hlb2 (Nat.le_refl _)
    clear hL8 hs8 c0 c1 c2 c3 c4 c5 c6 c7 c8 APP HX6 HE6 HT6 HL6 HB6
    go_wp2_with fail
    refine (place_t lb b _ 32 L vv _ w8 HL8.out.row).mono ?_
    rintro e w9 ⟨rfl, hb9⟩
    have HL9 := lohid (HL8.out.on hb9)
    have HB9 : Hid (Below w.heap.size w w9) := HB8.out.trans (hb9.mono HB8.out.size)
    clear hb9 HL8 HB8
    go_wp2_with fail
    refine (WR.out _ b gd V8 _ (HL9.out.disk.below ((Below.refl _ _).alloc (Nat.le_refl _) _)) HW6).mono ?_
    rintro e wq ⟨rfl, rfl⟩
    go_wp2_with (first | (go_at_call 12; refine (fits_out _ _ _ (by omega)).mono ?_; rintro e wf ⟨rfl, rfl⟩) | fail)
    refine (AW.out _).mono ?_
    rintro e w13 ⟨rfl, hb13⟩
    have HB13 : Hid (Below w.heap.size w w13) := (HB9.out.alloc HB9.out.size _).trans (hb13.mono (by have := HB9.out.size; simp; omega))
    clear hb13 HB9 AW
    go_wp2_with fail
    go_ret
    exact ⟨rfl, HB13.out⟩
  · clear hx5
    go_wp2_with fail
    generalize hW6 : World.setCell _ _ _ = W6
    have HX6 : Hid (W6.heap[w4.heap.size]? = some (.cells (headC (bkX 0 0 v k) (.slice ad k cap)) 37 (0, 0))) := by rw [← hW6]; exact heap_setCell_same _ _ 8 _ _ _ HX5.out
    have HB26 : Hid (Below w2.heap.size w2 W6) := by rw [← hW6]; exact HB25.out.setCell hs24 _
    have HE6 : Hid (Ents W6 (.slice ad k cap) (bkE v k)) := by
      rw [← hW6]
      have h6 := (HE5.out.kept (grown_put W5 ⟨w4.heap.size, 8, none⟩ (.slice ad k cap)) (.inr (fun e => by have := HEl.out _ e; dsimp only at this; omega))).ents
      exact h6.less
    have HT6 : Hid (Txts W6 (.slice bad (k + 1) bcap) (bkT v (k + 1))) := by rw [← hW6]; exact (HT5.out.kept (grown_put W5 _ _) (.inr (fun e => by have := HTl.out _ e; dsimp only at this; omega))).txts
    have HL6 := lohid (HL2.out.on HB26.out)
    have HF6 := HF1
    have HW6 := hwr
    have HB6 : Hid (Below w.heap.size w W6) := HB2.out.trans (HB26.out.mono HB2.out.size)
    have APP := lohid (UM.out lb b gd V vv (bkX 0 0 v k) ad cap k (bkE_length _ _) (.slice bad (k + 1) bcap) (bkT v (k + 1)) W6 HL6.out HE6.out HT6.out (bkT_length _ _) (make_len (by rw [bkT_length]; show k + 1 ≠ (bkE v k).length; rw [bkE_length]; omega)))
    clear hW6 hx8 hfx
    obtain ⟨c0, c1, c2, c3, c4, c5, c6, c7, c8⟩ := cells9 HX6.out
    clear HE5 HT5 HEl HTl HX5 HB25 UM DN CU PLh
    refine (WR.out _ b gd _ W6 HL6.out.disk HW6).mono ?_
    rintro e wq ⟨rfl, rfl⟩
    go_wp2_with fail
    refine APP.out.mono ?_
    rintro e w8 ⟨rfl, V8, hL8, hs8⟩
    have HL8 := lohid hL8
    have HB8 : Hid (Below w.heap.size w w8) := hs8.under HB6.out HF6.out hlb2 (Nat.le_refl _)
    clear hL8 hs8 c0 c1 c2 c3 c4 c5 c6 c7 c8 APP HX6 HE6 HT6 HL6 HB6
    go_wp2_with fail
    refine (place_t lb b _ 32 L vv _ w8 HL8.out.row).mono ?_
    rintro e w9 ⟨rfl, hb9⟩
    have HL9 := lohid (HL8.out.on hb9)
    have HB9 : Hid (Below w.heap.size w w9) := HB8.out.trans (hb9.mono HB8.out.size)
    clear hb9 HL8 HB8
    go_wp2_with fail
    refine (WR.out _ b gd V8 _ (HL9.out.disk.below ((Below.refl _ _).alloc (Nat.le_refl _) _)) HW6).mono ?_
    rintro e wq ⟨rfl, rfl⟩
    go_wp2_with (first | (go_at_call 12; refine (fits_out _ _ _ (by omega)).mono ?_; rintro e wf ⟨rfl, rfl⟩) | fail)
    refine (AW.out _).mono ?_
    rintro e w13 ⟨rfl, hb13⟩
    have HB13 : Hid (Below w.heap.size w w13) := (HB9.out.alloc HB9.out.size _).trans (hb13.mono (by have := HB9.out.size; simp; omega))
    clear hb13 HB9 AW
    go_wp2_with fail
    go_ret
    exact ⟨rfl, HB13.out⟩
  · obtain ⟨g, bc, hbv, hbg, hlg, hfg, hcg⟩ := HE5.out.first (by rw [bkE_length]; omega)
    rw [bkE_length] at hbv
    injection hbv with hb1 hb2 hb3
    subst hb1 hb3
    clear hx5
    go_wp2_with fail
    generalize hW6 : World.setCell _ _ _ = W6
    have hlb0 : 0 < (bkE v (k + 1)).length := by rw [bkE_length]; omega
    have hmem : putE ((bkE v (k + 1))[0]'hlb0) 0 9 ∈ (bkE v (k + 1)).set 0 (putE ((bkE v (k + 1))[0]'hlb0) 0 9) := List.mem_set hlb0 _
    have hkind : (putE ((bkE v (k + 1))[0]'hlb0) 0 9).kind = 9 := rfl
    obtain ⟨l6, hl6⟩ : ∃ l6, (bkE v (k + 1)).set 0 (putE ((bkE v (k + 1))[0]'hlb0) 0 9) = l6 := ⟨_, rfl⟩
    rw [hl6] at hmem
    have hlen6 : l6.length = k + 1 := by rw [← hl6, List.length_set, bkE_length]
    have HX6 : Hid (W6.heap[w4.heap.size]? = some (.cells (headC ⟨0, 0, 0, 0, 0, 0, 0, 0, l6⟩ (.slice (some ⟨g, 0, none⟩) (k + 1) cap)) 37 (0, 0))) := by rw [← hW6, heap_setCell_other _ _ _ _ (by have := HEl.out g rfl; dsimp only; omega)]; exact HX5.out
    have HB26 : Hid (Below w2.heap.size w2 W6) := by rw [← hW6]; exact HB25.out.setCell hbg _
    have HE6 : Hid (Ents W6 (.slice (some ⟨g, 0, none⟩) (k + 1) cap) l6) := by
      rw [← hW6, ← hl6]
      have h6 := HE5.out.ents
      exact h6.put 0 0 hlb0 (by omega) 9
    have HT6 : Hid (Txts W6 (.slice bad (k + 1) bcap) (bkT v (k + 1))) := by rw [← hW6]; exact (HT5.out.kept (grown_put W5 _ _) (own_swap (own_apart HE5.out HT5.out))).txts
    have HL6 := lohid (HL2.out.on HB26.out)
    have HF6 := HF1
    have HW6 := hwr
    have HB6 : Hid (Below w.heap.size w W6) := HB2.out.trans (HB26.out.mono HB2.out.size)
    have APP := lohid (UM.out lb b gd V vv ⟨0, 0, 0, 0, 0, 0, 0, 0, l6⟩ (some ⟨g, 0, none⟩) cap (k + 1) hlen6 (.slice bad (k + 1) bcap) (bkT v (k + 1)) W6 HL6.out HE6.out HT6.out (bkT_length _ _) (make_okno (ok_kind hmem hkind)))
    clear hW6 hx8 hfx hcg hfg hl6 hlen6 hmem hkind hlb0
    obtain ⟨c0, c1, c2, c3, c4, c5, c6, c7, c8⟩ := cells9 HX6.out
    clear HE5 HT5 HEl HTl HX5 HB25 UM DN CU PLh
    refine (WR.out _ b gd _ W6 HL6.out.disk HW6).mono ?_
    rintro e wq ⟨rfl, rfl⟩
    go_wp2_with fail
    refine APP.out.mono ?_
    rintro e w8 ⟨rfl, V8, hL8, hs8⟩
    have HL8 := lohid hL8
    have HB8 : Hid (Below w.heap.size w w8) := hs8.under HB6.out HF6.out hlb2 (Nat.le_refl _)
    clear hL8 hs8 c0 c1 c2 c3 c4 c5 c6 c7 c8 APP HX6 HE6 HT6 HL6 HB6
    go_wp2_with fail
    refine (place_t lb b _ 32 L vv _ w8 HL8.out.row).mono ?_
    rintro e w9 ⟨rfl, hb9⟩
    have HL9 := lohid (HL8.out.on hb9)
    have HB9 : Hid (Below w.heap.size w w9) := HB8.out.trans (hb9.mono HB8.out.size)
    clear hb9 HL8 HB8
    go_wp2_with fail
    refine (WR.out _ b gd V8 _ (HL9.out.disk.below ((Below.refl _ _).alloc (Nat.le_refl _) _)) HW6).mono ?_
    rintro e wq ⟨rfl, rfl⟩
    go_wp2_with (first | (go_at_call 12; refine (fits_out _ _ _ (by omega)).mono ?_; rintro e wf ⟨rfl, rfl⟩) | fail)
    refine (AW.out _).mono ?_
    rintro e w13 ⟨rfl, hb13⟩
    have HB13 : Hid (Below w.heap.size w w13) := (HB9.out.alloc HB9.out.size _).trans (hb13.mono (by have := HB9.out.size; simp; omega))
    clear hb13 HB9 AW
    go_wp2_with fail
    go_ret
    exact ⟨rfl, HB13.out⟩
  · clear hx5 hx8
    go_wp2_with fail
    have HL5 := lohid (HL2.out.on HB25.out)
    refine (CU.out b gd V W5 HL5.out.disk).mono ?_
    rintro e W6 ⟨rfl, hD6, hs6⟩
    have HL6 := lohid (HL5.out.step hD6 hs6 hn2)
    have HF6 := HF1
    have HW6 := hw2
    have HB6 : Hid (Below w.heap.size w W6) := hs6.under (HB2.out.trans (HB25.out.mono HB2.out.size)) HF1.out (Nat.le_refl _)
    have hoff : ∀ j, w2.heap.size ≤ j → ¬ foot b gd V j := fun j hj hf => by have := HL2.out.disk.lt hf; omega
    have HX6 : Hid (W6.heap[w4.heap.size]? = some (.cells (headC (bkX 0 0 v (k + 1)) (.slice ad (k + 1) cap)) 37 (0, 0))) := hs6.row HX5.out (hoff _ hs24)
    have HE6 : Hid (Ents W6 (.slice ad (k + 1) cap) (bkE v (k + 1))) := EOwn.ents (base := w2.heap.size) (owns_of_block HE5.out fun q hq => hs6.keep.block q (HE5.out.lt q hq).2 (hoff q (HE5.out.lt q hq).1))
    have HT6 : Hid (Txts W6 (.slice bad (k + 1) bcap) (bkT v (k + 1))) := TOwn.txts (base := w2.heap.size) (owns_of_block HT5.out fun q hq => hs6.keep.block q (HT5.out.lt q hq).2 (hoff q (HT5.out.lt q hq).1))
    have APP := lohid (DN.out lb b gd V vv ad bad cap bcap W6 HL6.out HE6.out HT6.out)
    clear hD6 hs6 hfx hoff
    obtain ⟨c0, c1, c2, c3, c4, c5, c6, c7, c8⟩ := cells9 HX6.out
    go_wp2_with fail
    clear HE5 HT5 HEl HTl HX5 HB25 UM DN CU PLh
    refine (WR.out _ b gd _ W6 HL6.out.disk HW6).mono ?_
    rintro e wq ⟨rfl, rfl⟩
    go_wp2_with fail
    refine APP.out.mono ?_
    rintro e w8 ⟨rfl, V8, hL8, hs8⟩
    have HL8 := lohid hL8
    have HB8 : Hid (Below w.heap.size w w8) := hs8.under HB6.out HF6.out hlb2 (Nat.le_refl _)
    clear hL8 hs8 c0 c1 c2 c3 c4 c5 c6 c7 c8 APP HX6 HE6 HT6 HL6 HB6
    go_wp2_with fail
    refine (place_t lb b _ 32 L vv _ w8 HL8.out.row).mono ?_
    rintro e w9 ⟨rfl, hb9⟩
    have HL9 := lohid (HL8.out.on hb9)
    have HB9 : Hid (Below w.heap.size w w9) := HB8.out.trans (hb9.mono HB8.out.size)
    clear hb9 HL8 HB8
    go_wp2_with fail
    refine (WR.out _ b gd V8 _ (HL9.out.disk.below ((Below.refl _ _).alloc (Nat.le_refl _) _)) HW6).mono ?_
    rintro e wq ⟨rfl, rfl⟩
    go_wp2_with (first | (go_at_call 12; refine (fits_out _ _ _ (by omega)).mono ?_; rintro e wf ⟨rfl, rfl⟩) | fail)
    refine (AW.out _).mono ?_
    rintro e w13 ⟨rfl, hb13⟩
    have HB13 : Hid (Below w.heap.size w w13) := (HB9.out.alloc HB9.out.size _).trans (hb13.mono (by have := HB9.out.size; simp; omega))
    clear hb13 HB9 AW
    go_wp2_with fail
    go_ret
    exact ⟨rfl, HB13.out⟩
end Go.Proofs.Ytgbgklnlmgpmjaa
