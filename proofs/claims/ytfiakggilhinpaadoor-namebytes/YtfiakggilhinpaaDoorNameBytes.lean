/- The law NameBytes walked. -/
import Derived.Test.YtfiakggilhinpaaDoorNameAwake
import Derived.Test.YtfiakggilhinpaaDoorNameText
namespace Go.Proofs.YtfiakggilhinpaaDoor
open Go.RowKit

theorem conv_one (b : UInt8) (w : World) : (convert 32 9 (.slice (some ⟨w.heap.size, 0, none⟩) 1 1)).run Tryd.prog (w.alloc (.cells #[.int .u8 (b.toNat : Int)] 5)) = .ok (.string ⟨#[b]⟩) (w.alloc (.cells #[.int .u8 (b.toNat : Int)] 5)) := by
  refine name_conv _ w.heap.size 0 1 [b] fun t ht => ?_
  have : t = 0 := by simpa using ht
  subst this
  rw [cell_of_row _ w.heap.size _ _ 5 _ (heap_alloc_new w _)]
  rfl

/-- How a byte stands to names: by itself, and within one. -/
structure Byt (b : UInt8) (K1 K2 : Bool) : Prop where
  one : Word.chk [b] = K1
  three : Word.chk [120, b, 121] = K2

theorem byt_no {b : UInt8} (h : Word.okb b = false) : Byt b false false := ⟨by simp [Word.chk, h], by simp [Word.chk, h]⟩
theorem byt_yes {b : UInt8} (h : Word.okb b = true) (h46 : b ≠ 46) : Byt b true true := by
  have e1 : Word.okb 120 = true := by decide
  have e2 : Word.okb 121 = true := by decide
  exact ⟨by simp [Word.chk, h, h46], by simp [Word.chk, h, e1, e2]⟩

theorem text_size (T : List UInt8) : (⟨T.toArray⟩ : ByteArray).data.toList = T := rfl

/-- Check at a text of letters. -/
theorem checkLow (T : List UInt8) (k : Nat) (B : Bool) (w : World) (hT : T.length = k) (hL : Low T) (hB : decide (1 ≤ k ∧ k ≤ 26) = B) :
    Calls Tryd.prog 11 #[.string ⟨T.toArray⟩] w fun e w' => e = .returned (.bool B) ∧ Below w.heap.size w w' := by
  have := check_t ⟨T.toArray⟩ w
  rw [text_size, low_chk hL, hT, hB] at this
  exact this

theorem checkOne (b : UInt8) (K1 K2 : Bool) (w : World) (h : Byt b K1 K2) :
    Calls Tryd.prog 11 #[.string ⟨#[b]⟩] w fun e w' => e = .returned (.bool K1) ∧ Below w.heap.size w w' := by
  have := check_t ⟨#[b]⟩ w
  rw [show (⟨#[b]⟩ : ByteArray).data.toList = [b] from rfl, h.one] at this
  exact this

theorem checkThree (b : UInt8) (K1 K2 : Bool) (w : World) (h : Byt b K1 K2) :
    Calls Tryd.prog 11 #[.string (⟨#[120]⟩ ++ ⟨#[b]⟩ ++ ⟨#[121]⟩)] w fun e w' => e = .returned (.bool K2) ∧ Below w.heap.size w w' := by
  have := check_t (⟨#[120]⟩ ++ ⟨#[b]⟩ ++ ⟨#[121]⟩) w
  rw [show (⟨#[120]⟩ ++ ⟨#[b]⟩ ++ ⟨#[121]⟩ : ByteArray).data.toList = [120, b, 121] by simp, h.three] at this
  exact this

theorem checkPt (w : World) : Calls Tryd.prog 11 #[.string ⟨#[46]⟩] w fun e w' => e = .returned (.bool false) ∧ Below w.heap.size w w' :=
  check_t ⟨#[46]⟩ w
theorem checkPts (w : World) : Calls Tryd.prog 11 #[.string ⟨#[46, 46, 46]⟩] w fun e w' => e = .returned (.bool true) ∧ Below w.heap.size w w' :=
  check_t ⟨#[46, 46, 46]⟩ w

set_option maxHeartbeats 8000000 in
set_option maxRecDepth 1000000 in
theorem nameBytes_t (n : Int) (b : UInt8) (w : World) :
    Calls Tryd.prog 5 #[.int .i64 n, .int .u8 (b.toNat : Int)] w fun e w' => e = .returned (.bool true) ∧ Below w.heap.size w w' := by
  have t1 : -1000 < n.tmod 1000 := by
    have := Int.tmod_eq_emod (a := n) (b := 1000)
    have h1 := Int.emod_nonneg n (show (1000 : Int) ≠ 0 by decide)
    have h2 := Int.emod_lt_of_pos n (show (0 : Int) < 1000 by decide)
    split at this <;> omega
  have t2 : n.tmod 1000 < 1000 := by
    have := Int.tmod_eq_emod (a := n) (b := 1000)
    have h1 := Int.emod_nonneg n (show (1000 : Int) ≠ 0 by decide)
    have h2 := Int.emod_lt_of_pos n (show (0 : Int) < 1000 by decide)
    split at this <;> omega
  have hb256 : b.toNat < 256 := b.toNat_lt
  go_enter Tryd.func5, Tryd.ntmps5
  go_wp2_with fail
  refine (nplace_t n 30 w (by decide) (by decide)).mono ?_
  rintro e w1 ⟨⟨k, rfl, hk⟩, rfl⟩
  go_wp2_with fail
  refine (text_t (n.tmod 1000) k w (by omega) (by omega) (by omega)).mono ?_
  rintro e w1 ⟨⟨T, rfl, hT, hL⟩, hb1⟩
  clear t1 t2
  have HB1 : Hid (∀ o, Below w.heap.size w (w1.alloc o)) := fun o => hb1.alloc hb1.size o
  have hcv := conv_one b w1
  obtain ⟨K, hK⟩ : ∃ K, decide (1 ≤ k ∧ k ≤ 26) = K := ⟨_, rfl⟩
  have HS := namehid (fun w => checkLow T k K w hT hL hK)
  have HK := namehid hK
  clear hT hL hK hb1
  generalize (⟨T.toArray⟩ : ByteArray) = S at *
  have hcase : b.toNat ≤ 32 ∨ 127 ≤ b.toNat ∨ b.toNat = 47 ∨ b.toNat = 46 ∨ (33 ≤ b.toNat ∧ b.toNat ≤ 126 ∧ b.toNat ≠ 47 ∧ b.toNat ≠ 46) := by omega
  have hkc : k = 0 ∨ (1 ≤ k ∧ k ≤ 26) ∨ 27 ≤ k := by omega
  rcases hcase with hc | hc | hc | hc | hc
  all_goals
    first
      | (have hway : b.toNat ≤ 32 := hc
         have HY := namehid (byt_no (b := b) (by simp [Word.okb]; omega))
         have x1 : b.toNat ≤ 32 := hc
         have x2 : b.toNat ≤ 126 := by omega
         have x3 : ((b.toNat : Int) == 47) = false := by rw [beq_eq_false_iff_ne]; omega
         have y3 : ((b.toNat : Int) != 47) = true := by rw [bne_iff_ne]; omega
         have z3 : b.toNat ≠ 47 := by omega
         have x4 : ((b.toNat : Int) == 46) = false := by rw [beq_eq_false_iff_ne]; omega
         have y4 : ((b.toNat : Int) != 46) = true := by rw [bne_iff_ne]; omega
         have z4 : b.toNat ≠ 46 := by omega
         clear hway)
      | (have hway : 127 ≤ b.toNat := hc
         have HY := namehid (byt_no (b := b) (by simp [Word.okb]; omega))
         have x1 : 32 < b.toNat := by omega
         have x2 : 127 ≤ b.toNat := hc
         have x3 : ((b.toNat : Int) == 47) = false := by rw [beq_eq_false_iff_ne]; omega
         have y3 : ((b.toNat : Int) != 47) = true := by rw [bne_iff_ne]; omega
         have z3 : b.toNat ≠ 47 := by omega
         have x4 : ((b.toNat : Int) == 46) = false := by rw [beq_eq_false_iff_ne]; omega
         have y4 : ((b.toNat : Int) != 46) = true := by rw [bne_iff_ne]; omega
         have z4 : b.toNat ≠ 46 := by omega
         clear hway)
      | (have hway : b.toNat = 47 := hc
         have hb47 : b = 47 := UInt8.toNat_inj.1 (by show b.toNat = 47; exact hway)
         subst hb47
         have hcv2 : (convert 32 9 (.slice (some ⟨w1.heap.size, 0, none⟩) 1 1)).run Tryd.prog (w1.alloc (.cells #[.int .u8 47] 5)) = .ok (.string ⟨#[47]⟩) (w1.alloc (.cells #[.int .u8 47] 5)) := hcv
         have HY : Hid (Byt 47 false false) := ⟨by decide, by decide⟩
         clear hway)
      | (have hway : b.toNat = 46 := hc
         have hb46 : b = 46 := UInt8.toNat_inj.1 (by show b.toNat = 46; exact hway)
         subst hb46
         have hcv2 : (convert 32 9 (.slice (some ⟨w1.heap.size, 0, none⟩) 1 1)).run Tryd.prog (w1.alloc (.cells #[.int .u8 46] 5)) = .ok (.string ⟨#[46]⟩) (w1.alloc (.cells #[.int .u8 46] 5)) := hcv
         have HY : Hid (Byt 46 false true) := ⟨by decide, by decide⟩
         clear hway)
      | (have hway : 33 ≤ b.toNat ∧ b.toNat ≤ 126 ∧ b.toNat ≠ 47 ∧ b.toNat ≠ 46 := hc
         have HY := namehid (byt_yes (b := b) (by simp [Word.okb]; omega) (by intro e; have := hc.2.2.2; rw [e] at this; exact this rfl))
         have x1 : 32 < b.toNat := by omega
         have x2 : b.toNat ≤ 126 := by omega
         have x3 : ((b.toNat : Int) == 47) = false := by rw [beq_eq_false_iff_ne]; omega
         have y3 : ((b.toNat : Int) != 47) = true := by rw [bne_iff_ne]; omega
         have z3 : b.toNat ≠ 47 := by omega
         have x4 : ((b.toNat : Int) == 46) = false := by rw [beq_eq_false_iff_ne]; omega
         have y4 : ((b.toNat : Int) != 46) = true := by rw [bne_iff_ne]; omega
         have z4 : b.toNat ≠ 46 := by omega
         clear hway)
  all_goals
    clear hc
    rcases hkc with hk2 | hk2 | hk2
  all_goals
    have HKv := HK.out
    first
      | (have hKf : K = false := by
           rw [← HKv, decide_eq_false_iff_not]
           omega
         subst hKf
         try (have hk5 : ¬ ((k : Int) ≤ 26) := by omega))
      | (have hKt : K = true := by
           rw [← HKv, decide_eq_true_eq]
           omega
         subst hKt
         have hk3 : 1 ≤ k := hk2.1
         have hk4 : k ≤ 26 := hk2.2
         clear hk2)
    clear HKv HK
    go_wp2_with fail
    refine (HS.out _).mono ?_
    rintro e w2 ⟨rfl, hb2⟩
    have HB2 := namehid (Below.trans' (HB1.out _) hb2)
    clear hb2 HB1 HS
    go_wp2_with fail
    refine (checkOne _ _ _ w2 HY.out).mono ?_
    rintro e w3 ⟨rfl, hb3⟩
    have HB3 := namehid (Below.trans' HB2.out hb3)
    clear hb3 HB2
    go_wp2_with fail
    refine (checkThree _ _ _ w3 HY.out).mono ?_
    rintro e w4 ⟨rfl, hb4⟩
    have HB4 := namehid (Below.trans' HB3.out hb4)
    clear hb4 HB3 HY
    go_wp2_with fail
    refine (checkPt w4).mono ?_
    rintro e w5 ⟨rfl, hb5⟩
    have HB5 := namehid (Below.trans' HB4.out hb5)
    clear hb5 HB4
    go_wp2_with fail
    refine (checkTwo w5).mono ?_
    rintro e w6 ⟨rfl, hb6⟩
    have HB6 := namehid (Below.trans' HB5.out hb6)
    clear hb6 HB5
    go_wp2_with fail
    refine (checkPts w6).mono ?_
    rintro e w7 ⟨rfl, hb7⟩
    have HB7 := namehid (Below.trans' HB6.out hb7)
    clear hb7 HB6
    go_wp2_with fail
    refine (nawake_t w7).mono ?_
    rintro e w8 ⟨rfl, hb8⟩
    have HB8 := namehid (Below.trans' HB7.out hb8)
    clear hb8 HB7
    go_wp2_with fail
    go_ret
    first
      | exact ⟨rfl, HB8.out⟩
      | (refine ⟨?_, HB8.out⟩
         have e26 : decide ((k : Int) ≤ 26) = false := by rw [decide_eq_false_iff_not]; omega
         simp only [e26]
         rfl)

theorem nameBytes_w (n c : Int) (w : World) (h : (Lit.int .u8 c).wf = true) :
    Calls Tryd.prog 5 #[.int .i64 n, .int .u8 c] w fun e w' => e = .returned (.bool true) ∧ Below w.heap.size w w' := by
  have h1 : IntKind.u8.min = 0 := rfl
  have h2 : IntKind.u8.max = 255 := rfl
  simp only [Lit.wf, Bool.and_eq_true, decide_eq_true_eq] at h
  have e : c = ((UInt8.ofNat c.toNat).toNat : Int) := by
    rw [UInt8.toNat_ofNat_of_lt' (by show c.toNat < 256; omega)]
    omega
  rw [e]
  exact nameBytes_t n _ w
end Go.Proofs.YtfiakggilhinpaaDoor
