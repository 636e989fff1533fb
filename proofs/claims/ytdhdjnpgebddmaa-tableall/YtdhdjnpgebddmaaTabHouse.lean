/- Whether a house may be: checkHouse walked. -/
import Derived.Test.YtdhdjnpgebddmaaTabLay
namespace Go.Proofs.Ytdhdjnpgebddmaa
open Go.RowKit Tab

theorem inB_no {v a b : Int} (h : ¬ (a ≤ v ∧ v ≤ b)) : inB v a b = false := by simp only [inB, decide_eq_false_iff_not]; exact h

set_option maxHeartbeats 1000000 in
theorem checkHouse_zero (n : Int) (gen : Int) (x : Lm) (segs : List Int) (v : Value) (w : World) (hI : Ints w v segs) (_hl : segs.length ≤ 4611686018427387904) (hg : inB gen 0 65535 = true) :
    Calls Try.prog 37 #[.int .i64 n, houseV ⟨0, gen, x, segs⟩ v] w fun e w' => e = .returned (.bool (decide (segs.length = 0) && zeroB x)) ∧ Below w.heap.size w w' := by
  obtain ⟨ad, cap, rfl, _, hc⟩ := hI
  obtain ⟨xs, xhb, xsb, xhn, xsn, xgr, xbu⟩ := x
  have C := tabhid within_t
  have h0 : inB 0 0 2 = true := rfl
  have HC := tabhid hc
  clear hc
  show Calls _ _ #[.int .i64 n, .agg #[.int .i64 0, .int .i64 gen, .int .i64 xs, .int .i64 xhb, .int .i64 xsb, .int .i64 xhn, .int .i64 xsn, .int .i64 xgr, .int .i64 xbu, .slice ad segs.length cap]] _ _
  by_cases hz : segs.length = 0
  · rw [hz]
    go_enter Try.func37, Try.ntmps37
    go_wp2_with (first | (refine (C.out _ _ _ _).mono ?_; rintro e w' ⟨rfl, rfl⟩) | fail)
    all_goals
      go_ret
      refine ⟨tabBool ?_, (Below.refl _ w).alloc (Nat.le_refl _) _⟩
      clear C HC
      simp_all [zeroB, Lm.z]
  · have hzb : ((segs.length : Int) == 0) = false := by rw [beq_eq_false_iff_ne]; omega
    have E : Hid ((decide (segs.length = 0) && zeroB ⟨xs, xhb, xsb, xhn, xsn, xgr, xbu⟩) = false) := by show _ = _; rw [decide_eq_false hz]; rfl
    go_enter Try.func37, Try.ntmps37
    go_wp2_with (first | (refine (C.out _ _ _ _).mono ?_; rintro e w' ⟨rfl, rfl⟩) | fail)
    go_ret
    exact ⟨tabBool E.out.symm, (Below.refl _ w).alloc (Nat.le_refl _) _⟩

set_option maxHeartbeats 1000000 in
theorem checkHouse_more (n : Int) (st gen : Int) (x : Lm) (segs : List Int) (v : Value) (w : World) (hI : Ints w v segs) (hl : segs.length ≤ 4611686018427387904) (hn : n ≤ 9223372036854775807) (hs : inB st 0 2 = true) (h0 : (st == 0) = false) (hg : inB gen 0 65535 = true) :
    Calls Try.prog 37 #[.int .i64 n, houseV ⟨st, gen, x, segs⟩ v] w fun e w' => e = .returned (.bool (decide (0 < gen) && limB x && decide ((segs.length : Int) = x.s) && rises n 0 segs)) ∧ Below w.heap.size w w' := by
  have HI := tabhid hI
  obtain ⟨ad, cap, rfl, _, hc⟩ := hI
  clear hc
  have C := tabhid within_t
  have CL := tabhid fun w => checkLimit_t x w
  have CR := tabhid fun w1 (k : Below w.heap.size w w1) => rising_t n (.slice ad segs.length cap) segs w1 (HI.out.on k) hl hn
  clear HI
  obtain ⟨LB, hLB⟩ : ∃ B, B = limB x := ⟨_, rfl⟩
  obtain ⟨RB, hRB⟩ : ∃ B, B = rises n 0 segs := ⟨_, rfl⟩
  rw [← hLB] at CL ⊢
  rw [← hRB] at CR ⊢
  clear hLB hRB
  obtain ⟨xs, xhb, xsb, xhn, xsn, xgr, xbu⟩ := x
  show Calls _ _ #[.int .i64 n, .agg #[.int .i64 st, .int .i64 gen, .int .i64 xs, .int .i64 xhb, .int .i64 xsb, .int .i64 xhn, .int .i64 xsn, .int .i64 xgr, .int .i64 xbu, .slice ad segs.length cap]] _ _
  by_cases hg0 : 0 < gen
  · have E1 : Hid (decide (0 < gen) = true) := decide_eq_true hg0
    go_enter Try.func37, Try.ntmps37
    go_wp2_with (first | (refine (C.out _ _ _ _).mono ?_; rintro e w' ⟨rfl, rfl⟩) | fail)
    refine (CL.out _).mono ?_
    rintro e w1 ⟨rfl, hb1⟩
    have c0 : w1.cell? ⟨w.heap.size, 2, none⟩ = some (.int .i64 xs) := by rw [hb1.cell (by simp)]; simp
    have c1 : w1.cell? ⟨w.heap.size, 9, none⟩ = some (.slice ad segs.length cap) := by rw [hb1.cell (by simp)]; simp
    have HB : Hid (Below w.heap.size w w1) := ((Below.refl _ w).alloc (Nat.le_refl _) _).trans (hb1.mono (by simp))
    clear hb1 CL C
    cases LB
    · go_wp2_with fail
      go_ret
      exact ⟨tabBool (by rw [E1.out]; rfl), HB.out⟩
    · by_cases hlen : (segs.length : Int) = xs
      · have hlb : ((segs.length : Int) == xs) = true := by simpa using hlen
        have E2 : Hid (decide ((segs.length : Int) = xs) = true) := decide_eq_true hlen
        clear hlen
        go_wp2_with fail
        refine (CR.out _ HB.out).mono ?_
        rintro e w2 ⟨rfl, rfl⟩
        go_wp2_with fail
        go_ret
        exact ⟨tabBool (by rw [E1.out, E2.out]; simp), HB.out⟩
      · have hlb : ((segs.length : Int) == xs) = false := by rw [beq_eq_false_iff_ne]; exact hlen
        have E2 : Hid (decide ((segs.length : Int) = xs) = false) := decide_eq_false hlen
        clear hlen
        go_wp2_with fail
        go_ret
        exact ⟨tabBool (by rw [E2.out]; simp), HB.out⟩
  · have E1 : Hid (decide (0 < gen) = false) := decide_eq_false hg0
    go_enter Try.func37, Try.ntmps37
    go_wp2_with (first | (refine (C.out _ _ _ _).mono ?_; rintro e w' ⟨rfl, rfl⟩) | fail)
    go_ret
    exact ⟨tabBool (by rw [E1.out]; simp), (Below.refl _ w).alloc (Nat.le_refl _) _⟩

set_option maxHeartbeats 1000000 in
/-- Whether a house may be. -/
theorem checkHouse_t (n : Int) (h : Ho) (v : Value) (w : World) (hI : Ints w v h.segs) (hl : h.segs.length ≤ 4611686018427387904) (hn : n ≤ 9223372036854775807) :
    Calls Try.prog 37 #[.int .i64 n, houseV h v] w fun e w' => e = .returned (.bool (houseB n h)) ∧ Below w.heap.size w w' := by
  obtain ⟨st, gen, x, segs⟩ := h
  have E : Hid (houseB n ⟨st, gen, x, segs⟩ = (inB st 0 2 && inB gen 0 65535 && (if st = 0 then decide (segs.length = 0) && zeroB x else decide (0 < gen) && limB x && decide ((segs.length : Int) = x.s) && rises n 0 segs))) := rfl
  cases hs : inB st 0 2
  · have C := tabhid within_t
    rw [E.out, hs]
    go_enter Try.func37, Try.ntmps37
    go_wp2_with (first | (refine (C.out _ _ _ _).mono ?_; rintro e w' ⟨rfl, rfl⟩) | fail)
    all_goals
      go_ret
      exact ⟨rfl, (Below.refl _ w).alloc (Nat.le_refl _) _⟩
  · cases hg : inB gen 0 65535
    · have C := tabhid within_t
      rw [E.out, hs, hg]
      go_enter Try.func37, Try.ntmps37
      go_wp2_with (first | (refine (C.out _ _ _ _).mono ?_; rintro e w' ⟨rfl, rfl⟩) | fail)
      all_goals
        go_ret
        exact ⟨rfl, (Below.refl _ w).alloc (Nat.le_refl _) _⟩
    · rw [E.out, hs, hg]
      by_cases h0 : st = 0
      · rw [if_pos h0]
        subst h0
        exact checkHouse_zero n gen x segs v w hI hl hg
      · rw [if_neg h0]
        exact checkHouse_more n st gen x segs v w hI hl hn hs (by rw [beq_eq_false_iff_ne]; exact h0) hg
end Go.Proofs.Ytdhdjnpgebddmaa
