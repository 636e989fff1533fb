/- A state's bytes: Put walked, whole. -/
import Derived.Test.YtgpjjbffndmhjaaSlotPut
namespace Go.Proofs.Ytgpjjbffndmhjaa
open Go.RowKit Rec Slt

theorem boxes_lie (w : World) (h g : Int) (x : Sl) : Lies (((w.alloc (.cells #[.int .i64 h] 3)).alloc (.cells #[.int .i64 g] 3)).alloc (.cells (slotC x) 24)) w.heap.size (w.heap.size + 1) (w.heap.size + 2) h g x := by
  refine ⟨?_, ?_, ?_⟩
  · rw [Below.heap_alloc _ _ _ (by simp; omega), Below.heap_alloc _ _ _ (by simp)]
    exact heap_alloc_new _ _
  · rw [Below.heap_alloc _ _ _ (by simp)]
    have : w.heap.size + 1 = (w.alloc (.cells #[.int .i64 h] 3)).heap.size := by simp
    rw [this]
    exact heap_alloc_new _ _
  · have : w.heap.size + 2 = ((w.alloc (.cells #[.int .i64 h] 3)).alloc (.cells #[.int .i64 g] 3)).heap.size := by simp
    rw [this]
    exact heap_alloc_new _ _

set_option maxRecDepth 10000 in
set_option maxHeartbeats 2000000 in
theorem put_yes (h g : Int) (x : Sl) (w : World) (hB : putB h g x = true) :
    Calls Try.prog 8 #[.int .i64 h, .int .i64 g, slotV x] w fun e w' => e = .returned (.tuple #[.string ⟨(sbytes h g x).toArray⟩, .bool true]) ∧ Below w.heap.size w w' := by
  have hok := putB_ok hB
  have hh : inB h 1 16 = true := by
    simp only [putB, Bool.and_eq_true] at hB
    exact hB.1.1
  have hg : inB g 1 65535 = true := by
    simp only [putB, Bool.and_eq_true] at hB
    exact hB.1.2
  have HFIT := slthid (putB_fits hB)
  have HLI := slthid (boxes_lie w h g x)
  have HCK := slthid (fun w1 => check_t x w1)
  rw [hok] at HCK
  have HBL : Hid ((body h g x).length = 62) := body_length h g x
  have HBO : Hid ([66, 71, 83, 76] ++ nums (fieldsOf h g x) = body h g x) := rfl
  have HFR : Hid (body h g x ++ List.replicate 190 0 = front h g x) := rfl
  have hFl : Hid ((front h g x).length = 252) := front_length h g x
  have HTB : Hid (front h g x ++ Bin.low 4 (Sum.crc (front h g x) : Nat) = sbytes h g x) := rfl
  have HCR : Hid (∀ w6 : World, Calls Try.prog 23 #[.string ⟨(front h g x).toArray⟩] w6 fun e w' => e = .returned (.int .u32 (Sum.crc (front h g x) : Nat)) ∧ w6 = w') := fun w6 => by
    have hs : (⟨(front h g x).toArray⟩ : ByteArray).size ≤ 1125899906842624 := by show (front h g x).toArray.size ≤ _; simp [hFl.out]
    exact of_t ⟨(front h g x).toArray⟩ w6 hs
  have hcl := Sum.crc_lt (front h g x)
  have HTU := slthid (fun (w1 : World) (B b : Nat) (L : Lies w1 w.heap.size (w.heap.size + 1) (w.heap.size + 2) h g x) (h1 : w.heap.size + 2 < B) (hB2 : B ≤ w1.heap.size) (hBd : Bd w1 B b [66, 71, 83, 76]) => putTurn_t w.heap.size (w.heap.size + 1) (w.heap.size + 2) B b h g x [66, 71, 83, 76] w1 L (by omega) (by omega) h1 hB2 hBd (by decide) HFIT.out)
  rw [HBO.out] at HTU
  clear HBO HFIT hok hB
  have CW := slthid within_t
  obtain ⟨num, life, clock, seg, at_, next, seq, m0, m1, m2, m3, sb, sn⟩ := x
  obtain ⟨T, hT⟩ : ∃ T, T = sbytes h g ⟨num, life, clock, seg, at_, next, seq, m0, m1, m2, m3, sb, sn⟩ := ⟨_, rfl⟩
  rw [← hT] at HTB
  have HTT := slthid hT
  clear hT
  generalize Sum.crc (front h g ⟨num, life, clock, seg, at_, next, seq, m0, m1, m2, m3, sb, sn⟩) = cc at *
  generalize front h g ⟨num, life, clock, seg, at_, next, seq, m0, m1, m2, m3, sb, sn⟩ = F at *
  generalize body h g ⟨num, life, clock, seg, at_, next, seq, m0, m1, m2, m3, sb, sn⟩ = bo at *
  go_enter Try.func8, Try.ntmps8
  go_wp2_with (first | (refine (CW.out _ _ _ _).mono ?_; rintro e w' ⟨rfl, rfl⟩) | fail)
  refine (HCK.out _).mono ?_
  rintro e w1 ⟨rfl, hb1⟩
  have HL1 : Hid (Lies w1 w.heap.size (w.heap.size + 1) (w.heap.size + 2) h g _) := HLI.out.on hb1 (by simp <;> omega) (by simp <;> omega) (by simp)
  have HB1 : Hid (Below w.heap.size w w1) := ((((Below.refl _ _).alloc (Nat.le_refl _) _).alloc (by simp) _).alloc (by simp <;> omega) _).trans (hb1.mono (by simp <;> omega))
  have hw1 : w.heap.size + 2 < w1.heap.size := by have := hb1.size; simp at this; omega
  clear hb1 HCK CW HLI
  go_wp2_with fail
  refine (write_t w1.heap.size w1.heap.size [] _ _ (Bd.new w1) (by decide) (by simp)).mono ?_
  rintro e w2 ⟨rfl, hbd2, hbe2, hot2⟩
  have HB2 : Hid (Bd w2 w1.heap.size w1.heap.size [66, 71, 83, 76]) := hbd2
  have HW2 : Hid (Below w1.heap.size w1 w2) := ((Below.refl _ _).alloc (Nat.le_refl _) _).trans hbe2
  clear hbd2 hbe2 hot2
  go_wp2_with fail
  refine (HTU.out w2 w1.heap.size w1.heap.size (HL1.out.on HW2.out (by omega) (by omega) (by omega)) (by omega) HW2.out.size HB2.out).mono ?_
  rintro e w3 ⟨rfl, hbd3, hbe3⟩
  have HB3 := slthid hbd3
  have HW3 : Hid (Below w1.heap.size w1 w3) := HW2.out.trans hbe3
  clear hbd3 hbe3 HB2 HW2 HTU HL1
  have HL7 : Hid (∀ w6 : World, Bd w6 w1.heap.size w1.heap.size bo → Calls Try.prog 22 #[.pointer (some ⟨w1.heap.size, 0, none⟩)] w6 fun e w' => e = .returned (.int .i64 62) ∧ w6 = w') := by
    intro w6 h6
    have := len_t w1.heap.size w1.heap.size bo w6 h6
    rw [HBL.out] at this
    exact this
  go_wp2_with fail
  refine (HL7.out _ HB3.out).mono ?_
  rintro e w6 ⟨rfl, rfl⟩
  go_wp2_with fail
  refine (zerosS_t 190 _ (by decide)).mono ?_
  rintro e w6 ⟨rfl, hb6⟩
  have HB8 := slthid (HB3.out.on hb6)
  have HW8 : Hid (Below w1.heap.size w1 w6) := HW3.out.trans (hb6.mono HW3.out.size)
  clear hb6 HB3 HW3 HL7
  go_wp2_with fail
  refine (write_t w1.heap.size w1.heap.size _ _ _ HB8.out (by rw [zerosS_size, HBL.out]; decide) HW8.out.size).mono ?_
  rintro e w7 ⟨rfl, hbd7, hbe7, hot7⟩
  have HB9 : Hid (Bd w7 w1.heap.size w1.heap.size F) := by
    have := hbd7
    rw [zerosS_list, HFR.out] at this
    exact this
  have HW9 : Hid (Below w1.heap.size w1 w7) := HW8.out.trans hbe7
  clear hbd7 hbe7 hot7 HB8 HW8
  go_wp2_with fail
  refine (text_t w1.heap.size w1.heap.size F _ HB9.out HW9.out.size).mono ?_
  rintro e w8 ⟨rfl, hbd8, hbe8, hot8⟩
  have HBa := slthid hbd8
  have HWa : Hid (Below w1.heap.size w1 w8) := HW9.out.trans hbe8
  clear hbd8 hbe8 hot8 HB9 HW9
  go_wp2_with fail
  refine (HCR.out _).mono ?_
  rintro e w9 ⟨rfl, rfl⟩
  go_wp2_with fail
  refine (putn_t _ _ _ (by omega) (by omega) (by omega) (by omega)).mono ?_
  rintro e w9 ⟨rfl, hb9⟩
  have HBb := slthid (HBa.out.on hb9)
  have HWb : Hid (Below w1.heap.size w1 w9) := HWa.out.trans (hb9.mono HWa.out.size)
  clear hb9 HBa HWa
  go_wp2_with fail
  refine (write_t w1.heap.size w1.heap.size _ _ _ HBb.out (by rw [lowS_size, hFl.out]; decide) HWb.out.size).mono ?_
  rintro e wa ⟨rfl, hbda, hbea, hota⟩
  have HBc : Hid (Bd wa w1.heap.size w1.heap.size T) := by
    have := hbda
    rw [← HTB.out]
    exact this
  have HWc : Hid (Below w1.heap.size w1 wa) := HWb.out.trans hbea
  clear hbda hbea hota HBb HWb
  go_wp2_with fail
  refine (text_t w1.heap.size w1.heap.size T _ HBc.out HWc.out.size).mono ?_
  rintro e wb ⟨rfl, hbdb, hbeb, hotb⟩
  have HWd : Hid (Below w.heap.size w wb) := HB1.out.trans ((HWc.out.trans hbeb).mono HB1.out.size)
  clear hbdb hbeb hotb HBc HWc
  go_wp2_with fail
  go_ret2
  exact ⟨sltPair (by rw [HTT.out]) rfl, HWd.out⟩

set_option maxRecDepth 10000 in
set_option maxHeartbeats 1000000 in
theorem put_no (h g : Int) (x : Sl) (w : World) (hB : putB h g x = false) :
    Calls Try.prog 8 #[.int .i64 h, .int .i64 g, slotV x] w fun e w' => e = .returned (.tuple #[.string ⟨#[]⟩, .bool false]) ∧ Below w.heap.size w w' := by
  have CW := slthid within_t
  have HCK := slthid (fun w1 => check_t x w1)
  have HO : Hid (okB x = false ∨ inB h 1 16 = false ∨ inB g 1 65535 = false) := by
    show _ ∨ _
    simp only [putB, Bool.and_eq_false_iff] at hB
    rcases hB with (hB | hB) | hB
    · exact .inr (.inl hB)
    · exact .inr (.inr hB)
    · exact .inl hB
  clear hB
  obtain ⟨B, hBB⟩ : ∃ B, B = okB x := ⟨_, rfl⟩
  rw [← hBB] at HO HCK
  clear hBB
  obtain ⟨num, life, clock, seg, at_, next, seq, m0, m1, m2, m3, sb, sn⟩ := x
  cases hn : inB h 1 16
  · go_enter Try.func8, Try.ntmps8
    go_wp2_with (first | (refine (CW.out _ _ _ _).mono ?_; rintro e w' ⟨rfl, rfl⟩) | fail)
    go_ret2
    exact ⟨rfl, (((Below.refl _ _).alloc (Nat.le_refl _) _).alloc (by simp) _).alloc (by simp; omega) _⟩
  · cases hn2 : inB g 1 65535
    · go_enter Try.func8, Try.ntmps8
      go_wp2_with (first | (refine (CW.out _ _ _ _).mono ?_; rintro e w' ⟨rfl, rfl⟩) | fail)
      go_ret2
      exact ⟨rfl, (((Below.refl _ _).alloc (Nat.le_refl _) _).alloc (by simp) _).alloc (by simp; omega) _⟩
    · have hb : B = false := by
        rcases HO.out with h1 | h1 | h1
        · exact h1
        · rw [hn] at h1; cases h1
        · rw [hn2] at h1; cases h1
      subst hb
      clear HO
      go_enter Try.func8, Try.ntmps8
      go_wp2_with (first | (refine (CW.out _ _ _ _).mono ?_; rintro e w' ⟨rfl, rfl⟩) | fail)
      refine (HCK.out _).mono ?_
      rintro e w1 ⟨rfl, hb1⟩
      have HB1 : Hid (Below w.heap.size w w1) := ((((Below.refl _ _).alloc (Nat.le_refl _) _).alloc (by simp) _).alloc (by simp; omega) _).trans (hb1.mono (by simp; omega))
      clear hb1 HCK CW
      go_wp2_with fail
      go_ret2
      exact ⟨rfl, HB1.out⟩

/-- A state's bytes, or none. -/
theorem sput_t (h g : Int) (x : Sl) (w : World) :
    Calls Try.prog 8 #[.int .i64 h, .int .i64 g, slotV x] w fun e w' => e = .returned (.tuple #[.string (putS h g x), .bool (putB h g x)]) ∧ Below w.heap.size w w' := by
  unfold putS
  cases hB : putB h g x
  · exact put_no h g x w hB
  · exact put_yes h g x w hB
end Go.Proofs.Ytgpjjbffndmhjaa
