/- SpanCounts walked: of a file of so many blocks, from the first one on, so many blocks of pointers. -/
import Derived.Test.YtdkicnpbcljofaaSpanAwake
import Derived.Test.YtdkicnpbcljofaaPlace
namespace Go.Proofs.Ytdkicnpbcljofaa
open Go.RowKit Span

theorem blocks_whole (k : Nat) (hk : k ≤ 588) : blocks ((k : Int) * 256) = k := by unfold blocks; omega
theorem blocks_more (k : Nat) (hk : k ≤ 588) : blocks ((k : Int) * 256 + 1) = min ((k : Int) + 1) 588 := by unfold blocks; omega
theorem blocks_less (k : Nat) : blocks (-(k : Int)) = 0 := by unfold blocks; omega
/-- What the law reckons. -/
def wantN (k : Nat) : Int := if k ≤ 12 then 0 else if k ≤ 76 then 1 else 2 + ((k : Int) - 76 + 63) / 64

set_option maxRecDepth 10000 in
set_option maxHeartbeats 8000000 in
theorem spanCounts_w (a0 a1 : Int) (k f : Nat) (w : World) (hk : a0 % 589 = k) (hf : a1 % 588 = f) :
    Calls Try.prog 5 #[.int .i64 a0, .int .i64 a1] w fun e w' => e = .returned (.bool true) ∧ Below w.heap.size w w' := by
  have hk2 : k ≤ 588 := by omega
  have hf2 : f < 588 := by omega
  have P1 := spanhid fun w => gplace_t a0 589 w (by decide) (by decide)
  have P2 := spanhid fun w => gplace_t a1 588 w (by decide) (by decide)
  rw [hk] at P1
  rw [hf] at P2
  have W0 : Hid (wantN k = indsL (dbl k)) := (indsL_dbl k hk2).symm
  obtain ⟨u, c, a, b, hw⟩ := wayV_some (f : Int)
  have WAY : Hid (∀ w1, Calls Try.prog 8 #[.int .i64 f] w1 fun e w' => e = .returned (wV u c a b) ∧ w1 = w') := fun w1 => by rw [← hw]; exact way_t f w1
  have ONE : Hid (indsL [(f : Int)] = u) := by
    show _ = _
    rw [indsL_one]
    unfold wayV at hw
    split at hw
    · omega
    · split at hw
      · cases hw
        rw [if_neg (by omega), if_neg (by omega)]
      · split at hw
        · cases hw
          rw [if_pos (by omega)]
        · cases hw
          rw [if_neg (by omega), if_pos (by omega)]
  have NO : Hid (indsL [-1 - (f : Int), 588 + (f : Int)] = 0) := indsL_no _ _ (by omega) (by omega)
  have B1 : Hid (∀ w1, Calls Try.prog 12 #[.int .i64 ((k : Int) * 256)] w1 fun e w' => e = .returned (.int .i64 k) ∧ w1 = w') := fun w1 => by
    have := blocks_t ((k : Int) * 256) w1
    rw [blocks_whole k hk2] at this
    exact this
  obtain ⟨n, hn⟩ : ∃ n : Int, min ((k : Int) + 1) 588 = n := ⟨_, rfl⟩
  have B2 : Hid (∀ w1, Calls Try.prog 12 #[.int .i64 ((k : Int) * 256 + 1)] w1 fun e w' => e = .returned (.int .i64 n) ∧ w1 = w') := fun w1 => by
    have := blocks_t ((k : Int) * 256 + 1) w1
    rw [blocks_more k hk2, hn] at this
    exact this
  have B3 : Hid (∀ w1, Calls Try.prog 12 #[.int .i64 (-(k : Int))] w1 fun e w' => e = .returned (.int .i64 0) ∧ w1 = w') := fun w1 => by
    have := blocks_t (-(k : Int)) w1
    rw [blocks_less k] at this
    exact this
  have HDL : Hid (∀ i, (dbl i).length = 2 * i) := dbl_length
  have HDS : Hid (∀ i : Nat, dbl (i + 1) = dbl i ++ [(i : Int), (i : Int)]) := dbl_succ
  have HD0 : Hid (dbl 0 = []) := dbl_zero
  clear hw hk hf
  go_enter Try.func5, Try.ntmps5
  go_wp2_with fail
  refine (P1.out _).mono ?_
  rintro e w1 ⟨rfl, rfl⟩
  clear P1
  go_wp2_with fail
  refine (P2.out _).mono ?_
  rintro e w1 ⟨rfl, rfl⟩
  clear P2
  go_wp2_with fail
  go_loopw [7, 8] (fun v c wr => ∃ i : Nat, i ≤ k ∧ c = .int .i64 i ∧ Hid (IOwn wr w.heap.size v (dbl i)) ∧ Hid (Below w.heap.size w wr)) (fun _ c _ => k - (intOf c).toNat)
  case atStart => exact ⟨0, by omega, rfl, by rw [HD0.out]; exact IOwn.nil _ _, Below.refl _ _⟩
  case round =>
    obtain ⟨i, hi, rfl, HO, HB⟩ := hrel
    by_cases hlt : i < k
    · have hsz := HB.out.size
      have hn2 : (dbl i).length ≤ 1176 := by rw [HDL.out]; omega
      have HT := spanhid (HDS.out i)
      clear W0 WAY ONE NO B1 B2 B3 HDL HDS HD0 hn
      generalize dbl i = li at *
      go_wp2_with (first | (refine wpList_append_one rfl _ _ rfl w.heap.size _ li rfl (HO.out.on ((Below.refl _ _).alloc (Nat.le_refl _) _)) wr.heap.size 2 [(i : Int), (i : Int)] rfl 3 (0, 0) (heap_alloc_new _ _) (by simp) (by simp; omega) (by simp; omega) ?_) | fail)
      intro v' w' ho hb hle
      rw [← HT.out] at ho
      have HO2 := spanhid ho
      have HB2 : Hid (Below w.heap.size w w') := (HB.out.alloc hsz _).trans hb
      clear ho hb HO HB
      go_wp2_with fail
      exact ⟨⟨i + 1, by omega, by go_num, HO2, HB2⟩, by simp [intOf]; omega⟩
    · have hik : i = k := by omega
      subst hik
      have HI : Hid (Ints wr u7 (dbl i)) := HO.out.ints
      have hsz := HB.out.size
      obtain ⟨W, hW⟩ : ∃ W, wantN i = W := ⟨_, rfl⟩
      have hW2 := hW
      rw [W0.out] at hW2
      have HWE := spanhid hW2
      have hdl : (dbl i).length ≤ 4611686018427387904 := by rw [HDL.out]; omega
      generalize dbl i = di at *
      clear HO HDL HDS HD0 W0 hW2
      unfold wantN at hW
      by_cases h1 : i ≤ 12
      · rw [if_pos h1] at hW
        subst hW
        go_wp2_with fail
        refine (inds_t _ [(f : Int)] _ (Ints.block (heap_alloc_new _ _) rfl (Nat.le_refl _)) (by simp)).mono ?_
        rintro e w1 ⟨rfl, hb1⟩
        rw [ONE.out]
        have HB1 : Hid (Below w.heap.size w w1) := (HB.out.alloc hsz _).trans (hb1.mono (by simp; omega))
        have HI1 : Hid (Ints w1 u7 di) := (HI.out.on ((Below.refl _ _).alloc (Nat.le_refl _) _)).on hb1
        have hz1 : w.heap.size ≤ w1.heap.size := HB1.out.size
        clear hb1 HB HI hsz
        go_wp2_with fail
        refine (WAY.out _).mono ?_
        rintro e w2 ⟨rfl, rfl⟩
        go_wp2_with fail
        refine (inds_t _ di _ HI1.out hdl).mono ?_
        rintro e w3 ⟨rfl, hb3⟩
        rw [HWE.out]
        have HB3 : Hid (Below w.heap.size w w3) := HB1.out.trans (hb3.mono hz1)
        have hz3 : w.heap.size ≤ w3.heap.size := HB3.out.size
        clear hb3 HB1 HI1 hz1
        go_wp2_with fail
        refine (inds_t _ [-1 - (f : Int), 588 + (f : Int)] _ (Ints.block (heap_alloc_new _ _) rfl (Nat.le_refl _)) (by simp)).mono ?_
        rintro e w4 ⟨rfl, hb4⟩
        rw [NO.out]
        have HB4 : Hid (Below w.heap.size w w4) := (HB3.out.alloc hz3 _).trans (hb4.mono (by simp; omega))
        have hz4 : w.heap.size ≤ w4.heap.size := HB4.out.size
        clear hb4 HB3 hz3
        go_wp2_with fail
        refine (B1.out _).mono ?_
        rintro e w5 ⟨rfl, rfl⟩
        go_wp2_with fail
        refine (B2.out _).mono ?_
        rintro e w5 ⟨rfl, rfl⟩
        go_wp2_with fail
        refine (B3.out _).mono ?_
        rintro e w5 ⟨rfl, rfl⟩
        go_wp2_with fail
        refine (awake_t _).mono ?_
        rintro e w6 ⟨rfl, hb6⟩
        have HB6 : Hid (Below w.heap.size w w6) := HB4.out.trans (hb6.mono hz4)
        clear hb6 HB4
        go_wp2_with fail
        go_ret
        exact ⟨rfl, HB6.out⟩
      · rw [if_neg h1] at hW
        by_cases h2 : i ≤ 76
        · rw [if_pos h2] at hW
          subst hW
          go_wp2_with fail
          refine (inds_t _ [(f : Int)] _ (Ints.block (heap_alloc_new _ _) rfl (Nat.le_refl _)) (by simp)).mono ?_
          rintro e w1 ⟨rfl, hb1⟩
          rw [ONE.out]
          have HB1 : Hid (Below w.heap.size w w1) := (HB.out.alloc hsz _).trans (hb1.mono (by simp; omega))
          have HI1 : Hid (Ints w1 u7 di) := (HI.out.on ((Below.refl _ _).alloc (Nat.le_refl _) _)).on hb1
          have hz1 : w.heap.size ≤ w1.heap.size := HB1.out.size
          clear hb1 HB HI hsz
          go_wp2_with fail
          refine (WAY.out _).mono ?_
          rintro e w2 ⟨rfl, rfl⟩
          go_wp2_with fail
          refine (inds_t _ di _ HI1.out hdl).mono ?_
          rintro e w3 ⟨rfl, hb3⟩
          rw [HWE.out]
          have HB3 : Hid (Below w.heap.size w w3) := HB1.out.trans (hb3.mono hz1)
          have hz3 : w.heap.size ≤ w3.heap.size := HB3.out.size
          clear hb3 HB1 HI1 hz1
          go_wp2_with fail
          refine (inds_t _ [-1 - (f : Int), 588 + (f : Int)] _ (Ints.block (heap_alloc_new _ _) rfl (Nat.le_refl _)) (by simp)).mono ?_
          rintro e w4 ⟨rfl, hb4⟩
          rw [NO.out]
          have HB4 : Hid (Below w.heap.size w w4) := (HB3.out.alloc hz3 _).trans (hb4.mono (by simp; omega))
          have hz4 : w.heap.size ≤ w4.heap.size := HB4.out.size
          clear hb4 HB3 hz3
          go_wp2_with fail
          refine (B1.out _).mono ?_
          rintro e w5 ⟨rfl, rfl⟩
          go_wp2_with fail
          refine (B2.out _).mono ?_
          rintro e w5 ⟨rfl, rfl⟩
          go_wp2_with fail
          refine (B3.out _).mono ?_
          rintro e w5 ⟨rfl, rfl⟩
          go_wp2_with fail
          refine (awake_t _).mono ?_
          rintro e w6 ⟨rfl, hb6⟩
          have HB6 : Hid (Below w.heap.size w w6) := HB4.out.trans (hb6.mono hz4)
          clear hb6 HB4
          go_wp2_with fail
          go_ret
          exact ⟨rfl, HB6.out⟩
        · rw [if_neg h2] at hW
          go_wp2_with fail
          refine (inds_t _ [(f : Int)] _ (Ints.block (heap_alloc_new _ _) rfl (Nat.le_refl _)) (by simp)).mono ?_
          rintro e w1 ⟨rfl, hb1⟩
          rw [ONE.out]
          have HB1 : Hid (Below w.heap.size w w1) := (HB.out.alloc hsz _).trans (hb1.mono (by simp; omega))
          have HI1 : Hid (Ints w1 u7 di) := (HI.out.on ((Below.refl _ _).alloc (Nat.le_refl _) _)).on hb1
          have hz1 : w.heap.size ≤ w1.heap.size := HB1.out.size
          clear hb1 HB HI hsz
          go_wp2_with fail
          refine (WAY.out _).mono ?_
          rintro e w2 ⟨rfl, rfl⟩
          go_wp2_with fail
          refine (inds_t _ di _ HI1.out hdl).mono ?_
          rintro e w3 ⟨rfl, hb3⟩
          rw [HWE.out]
          have HB3 : Hid (Below w.heap.size w w3) := HB1.out.trans (hb3.mono hz1)
          have hz3 : w.heap.size ≤ w3.heap.size := HB3.out.size
          clear hb3 HB1 HI1 hz1
          go_wp2_with fail
          refine (inds_t _ [-1 - (f : Int), 588 + (f : Int)] _ (Ints.block (heap_alloc_new _ _) rfl (Nat.le_refl _)) (by simp)).mono ?_
          rintro e w4 ⟨rfl, hb4⟩
          rw [NO.out]
          have HB4 : Hid (Below w.heap.size w w4) := (HB3.out.alloc hz3 _).trans (hb4.mono (by simp; omega))
          have hz4 : w.heap.size ≤ w4.heap.size := HB4.out.size
          clear hb4 HB3 hz3
          go_wp2_with fail
          refine (B1.out _).mono ?_
          rintro e w5 ⟨rfl, rfl⟩
          go_wp2_with fail
          refine (B2.out _).mono ?_
          rintro e w5 ⟨rfl, rfl⟩
          go_wp2_with fail
          refine (B3.out _).mono ?_
          rintro e w5 ⟨rfl, rfl⟩
          go_wp2_with fail
          refine (awake_t _).mono ?_
          rintro e w6 ⟨rfl, hb6⟩
          have HB6 : Hid (Below w.heap.size w w6) := HB4.out.trans (hb6.mono hz4)
          clear hb6 HB4
          go_wp2_with fail
          go_ret
          exact ⟨rfl, HB6.out⟩

theorem spanCounts_t (a0 a1 : Int) (w : World) :
    Calls Try.prog 5 #[.int .i64 a0, .int .i64 a1] w fun e w' => e = .returned (.bool true) ∧ Below w.heap.size w w' := by
  have h1 := Int.emod_nonneg a0 (show (589 : Int) ≠ 0 by decide)
  have h2 := Int.emod_nonneg a1 (show (588 : Int) ≠ 0 by decide)
  obtain ⟨k, hk⟩ : ∃ k : Nat, a0 % 589 = k := ⟨(a0 % 589).toNat, by omega⟩
  obtain ⟨f, hf⟩ : ∃ f : Nat, a1 % 588 = f := ⟨(a1 % 588).toNat, by omega⟩
  exact spanCounts_w a0 a1 k f w hk hf
end Go.Proofs.Ytdkicnpbcljofaa
