/- The law DiskFlushes, walked: whatever the two numbers and the flag, true; nothing that was there has turned. -/
import Derived.Test.YtodfecipeabmlaaFlushesInv
namespace Go.Proofs.Ytodfecipeabmlaa
open Go.RowKit

section
variable {w : World} {b gd : Nat} {S : St} {V : Nat → Value}
theorem kFillN (h : Hid (Disk w b S gd V)) (v : Int) (h0 : 0 ≤ v) (h1 : v ≤ 100000) (F : ByteArray) (hF : Hid (Fill v.toNat = F)) :
    Calls Try.prog 12 #[.int .i64 v] w fun e w' => e = .returned (.string F) ∧ Hid (Disk w' b S gd V) ∧ Step b gd w V w' V := by
  rw [← hF.out]; exact kFill h v h0 h1
theorem kZeroN (h : Hid (Disk w b S gd V)) (Z : ByteArray) (hZ : Hid (zbytes 256 = Z)) :
    Calls Try.prog 20 #[] w fun e w' => e = .returned (.string Z) ∧ Hid (Disk w' b S gd V) ∧ Step b gd w V w' V := by
  rw [← hZ.out]; exact kZero h
end

set_option maxHeartbeats 4000000 in
theorem diskFlushes_t (v0 v1 : Int) (fg : Bool) (w : World) :
    Calls Try.prog 5 #[.int .i64 v0, .int .i64 v1, .bool fg] w fun e w' => e = .returned (.bool true) ∧ Below w.heap.size w w' := by
  go_enter Try.func5, Try.ntmps5
  go_wp2_with fail
  refine (kPlace v0 20 w (by omega) (by omega)).mono ?_
  rintro e w1 ⟨⟨p, rfl, hp0, hp1⟩, rfl⟩
  obtain ⟨pN, rfl⟩ := Int.eq_ofNat_of_zero_le hp0
  go_wp2_with fail
  refine (kPlace v1 (1 + (pN : Int) + 1) w (by omega) (by omega)).mono ?_
  rintro e w1 ⟨⟨f, rfl, hf0, hf1⟩, rfl⟩
  obtain ⟨fN, rfl⟩ := Int.eq_ofNat_of_zero_le hf0
  go_wp2_with fail
  refine (kNew 10 w (by omega) (by omega)).mono ?_
  rintro e w1 ⟨b, gd, V1, rfl, h1, hb1, hf1'⟩
  replace h1 : Hid (Disk w1 b (St.new 10) gd V1) := h1
  go_wp2_with fail
  go_loopw [10] (fun c wr => ∃ j : Nat, j ≤ 1 + pN ∧ c = .int .i64 (j + 1) ∧ ∃ S V', Hid (Disk wr b S gd V') ∧ Hid (FI fN j S) ∧ Step b gd w1 V1 wr V') (fun c _ => 1 + (1 + pN) - (intOf c).toNat)
  case atStart => exact ⟨0, by omega, rfl, St.new 10, V1, h1, FI.new fN, Step.refl _ _ _ _⟩
  case round =>
    obtain ⟨j, hj, rfl, S, V2, h2, hI, s2⟩ := hrel
    by_cases hlt : j < 1 + pN
    · have hn : ((S.n : Nat) : Int) = 10 := by rw [hI.out.n]; rfl
      have hw : S.writes ≤ 100 := by rw [hI.out.writes]; omega
      have Hn := hid hn
      clear hn
      go_wp2_with fail
      refine (kFill h2 ((j : Int) + 1) (by omega) (by omega)).mono ?_
      rintro e w3 ⟨rfl, h3, s3⟩
      go_wp2_with fail
      refine (kWrite h3 5 3 _ (by omega) (by omega) (by omega) (by have := Hn.out; omega) (Fill_size _) hI.out.down (by omega)).mono ?_
      rintro e w4 ⟨rfl, V4, h4, s4⟩
      have hd4 : (S.write (Int.toNat 5) (Int.toNat 3) (Fill (j + 1))).down = false := by
        show (if S.left = 0 then S.down else _) = false
        rw [if_pos hI.out.left]; exact hI.out.down
      have Hd4 := hid hd4
      clear hd4
      go_wp2_with fail
      refine (kFill h4 (100 + ((j : Int) + 1)) (by omega) (by omega)).mono ?_
      rintro e w5 ⟨rfl, h5, s5⟩
      have hy := Fill_size (100 + ((j : Int) + 1)).toNat
      generalize Fill (100 + ((j : Int) + 1)).toNat = y at *
      have Hy := hid hy
      clear hy
      have hcmp : (((j : Int) + 1) == (fN : Int)) = decide (j + 1 = fN) := by rw [Bool.eq_iff_iff]; simp; omega
      by_cases hjf : j + 1 = fN
      · have hc : (((j : Int) + 1) == (fN : Int)) = true := by rw [hcmp]; simp [hjf]
        clear hcmp
        go_wp2_with fail
        refine (kWrite h5 6 4 y (by omega) (by omega) (by omega) (by have := Hn.out; show (4 : Int) < ((S.n : Nat) : Int); omega) Hy.out Hd4.out (by show S.writes + 1 < 1000000; omega)).mono ?_
        rintro e w6 ⟨rfl, V6, h6, s6⟩
        replace h6 : Hid (Disk w6 b (round2 S (Fill (j + 1)) y) gd V6) := h6
        have hr := hid (hI.out.round (Fill (j + 1)) y)
        go_wp2_with fail
        refine (kFlush h6 5 (by omega) (by omega) hr.out.2.1).mono ?_
        rintro e w7 ⟨rfl, V7, h7, s7⟩
        replace h7 : Hid (Disk w7 b ((round2 S (Fill (j + 1)) y).flush 5) gd V7) := h7
        have hI7 : Hid (FI fN (j + 1) ((round2 S (Fill (j + 1)) y).flush 5)) := by
          have := hI.out.flush y hjf
          rw [← hjf] at this ⊢; exact this
        go_wp2_with fail
        go_roundw
        case rel => exact ⟨j + 1, by omega, by go_num, _, V7, h7, hI7, ((((s2.trans s3).trans s4).trans s5).trans s6).trans s7⟩
        case measure => simp [intOf]; omega
      · have hc : (((j : Int) + 1) == (fN : Int)) = false := by rw [hcmp]; simp [hjf]
        clear hcmp
        go_wp2_with fail
        refine (kWrite h5 6 4 y (by omega) (by omega) (by omega) (by have := Hn.out; show (4 : Int) < ((S.n : Nat) : Int); omega) Hy.out Hd4.out (by show S.writes + 1 < 1000000; omega)).mono ?_
        rintro e w6 ⟨rfl, V6, h6, s6⟩
        replace h6 : Hid (Disk w6 b (round2 S (Fill (j + 1)) y) gd V6) := h6
        have hI6 : Hid (FI fN (j + 1) (round2 S (Fill (j + 1)) y)) := hI.out.keep _ y hjf
        go_wp2_with fail
        go_roundw
        case rel => exact ⟨j + 1, by omega, by go_num, _, V6, h6, hI6, (((s2.trans s3).trans s4).trans s5).trans s6⟩
        case measure => simp [intOf]; omega
    · have e : j = 1 + pN := by omega
      subst e
      obtain ⟨Z, hZ⟩ : ∃ Z, zbytes 256 = Z := ⟨_, rfl⟩
      obtain ⟨F, hF⟩ : ∃ F, Fill fN = F := ⟨_, rfl⟩
      have HZ := hid hZ
      have HF : Hid (Fill ((fN : Int)).toNat = F) := hF
      have hn : ((S.n : Nat) : Int) = 10 := by rw [hI.out.n]; rfl
      have Hn := hid hn
      have hl5 := hI.out.l5
      have hl6 := hI.out.l6
      have hd3 := hI.out.d3
      have hd4 := hI.out.d4
      rw [hZ] at hd3 hd4
      rw [hF] at hd3
      have Hd4 := hid hd4
      have Hl6 := hid hl6
      have hrd := hid hI.out.forgotten
      clear hZ hF hn hd4 hl6
      by_cases hf : fN = 0
      · have e0 : ¬ (0 < fN ∧ fN ≤ 1 + pN) := by omega
        rw [if_neg e0] at hl5 hd3
        have Hl5 := hid hl5
        have Hd3 := hid hd3
        have t1 : ((fN : Int) == 0) = true := by simp [hf]
        have t2 : (fN : Int) ≤ 0 := by omega
        clear hl5 hd3 e0
        have HF0 := hid hf
        clear hf
        cases fg
        · go_wp2_with fail
          refine (kWaits h2 5 (by omega) (by omega) (1 + (pN : Int)) (by show (((S.waits 5).length : Nat) : Int) = _; rw [Hl5.out]; omega)).mono ?_
          rintro e w3 ⟨rfl, rfl⟩
          go_wp2_with fail
          refine (kWaits h2 6 (by omega) (by omega) (1 + (pN : Int)) (by show (((S.waits 6).length : Nat) : Int) = _; rw [Hl6.out]; omega)).mono ?_
          rintro e w3 ⟨rfl, rfl⟩
          go_wp2_with fail
          refine (kLose h2).mono ?_
          rintro e w8 ⟨rfl, V8, h8, s8⟩
          go_wp2_with fail
          refine (kDurable h8 3 (by omega) (by have := Hn.out; show (3 : Int) < ((S.n : Nat) : Int); omega) Z Hd3.out).mono ?_
          rintro e w9 ⟨rfl, rfl⟩
          go_wp2_with fail
          refine (kDurable h8 4 (by omega) (by have := Hn.out; show (4 : Int) < ((S.n : Nat) : Int); omega) Z Hd4.out).mono ?_
          rintro e w9 ⟨rfl, rfl⟩
          go_wp2_with fail
          refine (kZeroN h8 Z HZ).mono ?_
          rintro e w9 ⟨rfl, h9, s9⟩
          go_wp2_with fail
          refine (kZeroN h9 Z HZ).mono ?_
          rintro e w11 ⟨rfl, h11, s11⟩
          go_wp2_with fail
          refine (awake_t w11).mono ?_
          rintro e w12 ⟨rfl, hb12⟩
          go_wp2_with fail
          go_ret
          have hs := (((s2).trans s8).trans s9).trans s11
          have k1 : Below w.heap.size w w11 := hb1.trans (hs.keep.below hb1.size hf1')
          exact ⟨rfl, k1.trans (hb12.mono k1.size)⟩
        · go_wp2_with fail
          refine (kWaits h2 5 (by omega) (by omega) (1 + (pN : Int)) (by show (((S.waits 5).length : Nat) : Int) = _; rw [Hl5.out]; omega)).mono ?_
          rintro e w3 ⟨rfl, rfl⟩
          go_wp2_with fail
          refine (kWaits h2 6 (by omega) (by omega) (1 + (pN : Int)) (by show (((S.waits 6).length : Nat) : Int) = _; rw [Hl6.out]; omega)).mono ?_
          rintro e w3 ⟨rfl, rfl⟩
          go_wp2_with fail
          refine (kForget h2 5 (by omega) (by omega)).mono ?_
          rintro e w3 ⟨rfl, V3, h3, s3⟩
          replace h3 : Hid (Disk w3 b (S.forget 5) gd V3) := h3
          go_wp2_with fail
          refine (kRead h3 3 (by omega) (by have := Hn.out; show (3 : Int) < ((S.n : Nat) : Int); omega) hI.out.down Z (by show (S.forget 5).read 3 = Z; rw [hrd.out]; exact Hd3.out)).mono ?_
          rintro e w4 ⟨rfl, h4, s4⟩
          go_wp2_with fail
          refine (kZeroN h4 Z HZ).mono ?_
          rintro e w5 ⟨rfl, h5, s5⟩
          go_wp2_with fail
          refine (kWaits h5 5 (by omega) (by omega) 0 (by show (((upd S.waits 5 [] 5).length : Nat) : Int) = 0; rw [upd_same]; rfl)).mono ?_
          rintro e w7 ⟨rfl, rfl⟩
          go_wp2_with fail
          refine (kWaits h5 6 (by omega) (by omega) (1 + (pN : Int)) (by show (((upd S.waits 5 [] 6).length : Nat) : Int) = _; rw [upd_other _ _ (by omega), Hl6.out]; omega)).mono ?_
          rintro e w7 ⟨rfl, rfl⟩
          go_wp2_with fail
          refine (kLose h5).mono ?_
          rintro e w8 ⟨rfl, V8, h8, s8⟩
          go_wp2_with fail
          refine (kDurable h8 3 (by omega) (by have := Hn.out; show (3 : Int) < ((S.n : Nat) : Int); omega) Z Hd3.out).mono ?_
          rintro e w9 ⟨rfl, rfl⟩
          go_wp2_with fail
          refine (kDurable h8 4 (by omega) (by have := Hn.out; show (4 : Int) < ((S.n : Nat) : Int); omega) Z Hd4.out).mono ?_
          rintro e w9 ⟨rfl, rfl⟩
          go_wp2_with fail
          refine (kZeroN h8 Z HZ).mono ?_
          rintro e w9 ⟨rfl, h9, s9⟩
          go_wp2_with fail
          refine (kZeroN h9 Z HZ).mono ?_
          rintro e w11 ⟨rfl, h11, s11⟩
          go_wp2_with fail
          refine (awake_t w11).mono ?_
          rintro e w12 ⟨rfl, hb12⟩
          go_wp2_with fail
          go_ret
          have hs := (((((s2.trans s3).trans s4).trans s5).trans s8).trans s9).trans s11
          have k1 : Below w.heap.size w w11 := hb1.trans (hs.keep.below hb1.size hf1')
          exact ⟨rfl, k1.trans (hb12.mono k1.size)⟩
      · have e0 : 0 < fN ∧ fN ≤ 1 + pN := by omega
        rw [if_pos e0] at hl5 hd3
        have Hl5 := hid hl5
        have Hd3 := hid hd3
        have t1 : ((fN : Int) == 0) = false := by simp; omega
        have t2 : (0 : Int) < (fN : Int) := by omega
        clear hl5 hd3 e0 hf
        cases fg
        · go_wp2_with fail
          refine (kWaits h2 5 (by omega) (by omega) (1 + (pN : Int) - (fN : Int)) (by show (((S.waits 5).length : Nat) : Int) = _; rw [Hl5.out]; omega)).mono ?_
          rintro e w3 ⟨rfl, rfl⟩
          go_wp2_with fail
          refine (kWaits h2 6 (by omega) (by omega) (1 + (pN : Int)) (by show (((S.waits 6).length : Nat) : Int) = _; rw [Hl6.out]; omega)).mono ?_
          rintro e w3 ⟨rfl, rfl⟩
          go_wp2_with fail
          refine (kLose h2).mono ?_
          rintro e w8 ⟨rfl, V8, h8, s8⟩
          go_wp2_with fail
          refine (kDurable h8 3 (by omega) (by have := Hn.out; show (3 : Int) < ((S.n : Nat) : Int); omega) F Hd3.out).mono ?_
          rintro e w9 ⟨rfl, rfl⟩
          go_wp2_with fail
          refine (kDurable h8 4 (by omega) (by have := Hn.out; show (4 : Int) < ((S.n : Nat) : Int); omega) Z Hd4.out).mono ?_
          rintro e w9 ⟨rfl, rfl⟩
          go_wp2_with fail
          refine (kZeroN h8 Z HZ).mono ?_
          rintro e w9 ⟨rfl, h9, s9⟩
          go_wp2_with fail
          refine (kFillN h9 (fN : Int) (by omega) (by omega) F HF).mono ?_
          rintro e w10 ⟨rfl, h10, s10⟩
          go_wp2_with fail
          refine (kZeroN h10 Z HZ).mono ?_
          rintro e w11 ⟨rfl, h11, s11⟩
          go_wp2_with fail
          refine (awake_t w11).mono ?_
          rintro e w12 ⟨rfl, hb12⟩
          go_wp2_with fail
          go_ret
          have hs := ((((s2).trans s8).trans s9).trans s10).trans s11
          have k1 : Below w.heap.size w w11 := hb1.trans (hs.keep.below hb1.size hf1')
          exact ⟨rfl, k1.trans (hb12.mono k1.size)⟩
        · go_wp2_with fail
          refine (kWaits h2 5 (by omega) (by omega) (1 + (pN : Int) - (fN : Int)) (by show (((S.waits 5).length : Nat) : Int) = _; rw [Hl5.out]; omega)).mono ?_
          rintro e w3 ⟨rfl, rfl⟩
          go_wp2_with fail
          refine (kWaits h2 6 (by omega) (by omega) (1 + (pN : Int)) (by show (((S.waits 6).length : Nat) : Int) = _; rw [Hl6.out]; omega)).mono ?_
          rintro e w3 ⟨rfl, rfl⟩
          go_wp2_with fail
          refine (kForget h2 5 (by omega) (by omega)).mono ?_
          rintro e w3 ⟨rfl, V3, h3, s3⟩
          replace h3 : Hid (Disk w3 b (S.forget 5) gd V3) := h3
          go_wp2_with fail
          refine (kRead h3 3 (by omega) (by have := Hn.out; show (3 : Int) < ((S.n : Nat) : Int); omega) hI.out.down F (by show (S.forget 5).read 3 = F; rw [hrd.out]; exact Hd3.out)).mono ?_
          rintro e w4 ⟨rfl, h4, s4⟩
          go_wp2_with fail
          refine (kZeroN h4 Z HZ).mono ?_
          rintro e w5 ⟨rfl, h5, s5⟩
          go_wp2_with fail
          refine (kFillN h5 (fN : Int) (by omega) (by omega) F HF).mono ?_
          rintro e w6 ⟨rfl, h6, s6⟩
          go_wp2_with fail
          refine (kWaits h6 5 (by omega) (by omega) 0 (by show (((upd S.waits 5 [] 5).length : Nat) : Int) = 0; rw [upd_same]; rfl)).mono ?_
          rintro e w7 ⟨rfl, rfl⟩
          go_wp2_with fail
          refine (kWaits h6 6 (by omega) (by omega) (1 + (pN : Int)) (by show (((upd S.waits 5 [] 6).length : Nat) : Int) = _; rw [upd_other _ _ (by omega), Hl6.out]; omega)).mono ?_
          rintro e w7 ⟨rfl, rfl⟩
          go_wp2_with fail
          refine (kLose h6).mono ?_
          rintro e w8 ⟨rfl, V8, h8, s8⟩
          go_wp2_with fail
          refine (kDurable h8 3 (by omega) (by have := Hn.out; show (3 : Int) < ((S.n : Nat) : Int); omega) F Hd3.out).mono ?_
          rintro e w9 ⟨rfl, rfl⟩
          go_wp2_with fail
          refine (kDurable h8 4 (by omega) (by have := Hn.out; show (4 : Int) < ((S.n : Nat) : Int); omega) Z Hd4.out).mono ?_
          rintro e w9 ⟨rfl, rfl⟩
          go_wp2_with fail
          refine (kZeroN h8 Z HZ).mono ?_
          rintro e w9 ⟨rfl, h9, s9⟩
          go_wp2_with fail
          refine (kFillN h9 (fN : Int) (by omega) (by omega) F HF).mono ?_
          rintro e w10 ⟨rfl, h10, s10⟩
          go_wp2_with fail
          refine (kZeroN h10 Z HZ).mono ?_
          rintro e w11 ⟨rfl, h11, s11⟩
          go_wp2_with fail
          refine (awake_t w11).mono ?_
          rintro e w12 ⟨rfl, hb12⟩
          go_wp2_with fail
          go_ret
          have hs := (((((((s2.trans s3).trans s4).trans s5).trans s6).trans s8).trans s9).trans s10).trans s11
          have k1 : Below w.heap.size w w11 := hb1.trans (hs.keep.below hb1.size hf1')
          exact ⟨rfl, k1.trans (hb12.mono k1.size)⟩

end Go.Proofs.Ytodfecipeabmlaa
