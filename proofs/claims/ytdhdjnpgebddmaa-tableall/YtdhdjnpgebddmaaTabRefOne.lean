/- The document's own answers of chapter 6: in, CheckLimit, zero, has, one walked. -/
import Derived.Test.YtdhdjnpgebddmaaTabRow
import Derived.Deep.QuietTactic
import Derived.BigQuiet
namespace Go.Proofs.Ytdhdjnpgebddmaa
open Go.RowKit Tab

set_option maxHeartbeats 400000 in
theorem rin_t (v a b : Int) (w : World) : Calls Try.prog 36 #[.int .i64 v, .int .i64 a, .int .i64 b] w fun e w' => e = .returned (.bool (inB v a b)) ∧ w = w' := by
  by_cases h1 : a ≤ v
  · by_cases h2 : v ≤ b
    · have e : Hid (inB v a b = true) := inB_yes h1 h2
      go_enter Try.func36, Try.ntmps36
      go_wp2
      go_ret
      exact ⟨tabBool e.out.symm, rfl⟩
    · have e : Hid (inB v a b = false) := by show _ = _; simp [inB, h2]
      have d : decide (v ≤ b) = false := by simp; omega
      go_enter Try.func36, Try.ntmps36
      go_wp2
      go_ret
      exact ⟨tabBool e.out.symm, rfl⟩
  · have e : Hid (inB v a b = false) := by show _ = _; simp [inB, h1]
    go_enter Try.func36, Try.ntmps36
    go_wp2
    go_ret
    exact ⟨tabBool e.out.symm, rfl⟩

set_option maxHeartbeats 2000000 in
theorem rlimit_t (x : Lm) (w : World) : Calls Try.prog 16 #[limV x] w fun e w' => e = .returned (.bool (limB x)) ∧ Below w.heap.size w w' := by
  obtain ⟨xs, xhb, xsb, xhn, xsn, xgr, xbu⟩ := x
  have HE : Hid (limB ⟨xs, xhb, xsb, xhn, xsn, xgr, xbu⟩ = (inB xs 8 40 && inB xhb 0 100000 && inB xsb 0 xhb && inB xhn 1 255 && inB xsn 1 xhn && inB xgr 0 1099511627776 && inB xbu 0 1000)) := rfl
  have C := tabhid rin_t
  show Calls _ _ #[.agg #[.int .i64 xs, .int .i64 xhb, .int .i64 xsb, .int .i64 xhn, .int .i64 xsn, .int .i64 xgr, .int .i64 xbu]] _ _
  go_enter Try.func16, Try.ntmps16
  go_wp2_with (first | (refine (C.out _ _ _ _).mono ?_; rintro e w' ⟨rfl, rfl⟩) | fail)
  all_goals
    go_ret
    refine ⟨tabBool ?_, (Below.refl _ w).alloc (Nat.le_refl _) _⟩
    rw [HE.out]
    clear HE C
    simp only [*, Bool.and_true, Bool.true_and, Bool.and_false, Bool.false_and]

set_option maxHeartbeats 2000000 in
theorem rzero_t (x : Lm) (w : World) : Calls Try.prog 54 #[limV x] w fun e w' => e = .returned (.bool (zeroB x)) ∧ Below w.heap.size w w' := by
  obtain ⟨xs, xhb, xsb, xhn, xsn, xgr, xbu⟩ := x
  show Calls _ _ #[.agg #[.int .i64 xs, .int .i64 xhb, .int .i64 xsb, .int .i64 xhn, .int .i64 xsn, .int .i64 xgr, .int .i64 xbu]] _ _
  go_enter Try.func54, Try.ntmps54
  go_wp2_with fail
  all_goals
    go_ret
    refine ⟨tabBool ?_, (Below.refl _ w).alloc (Nat.le_refl _) _⟩
    first
      | (simp_all [zeroB, Lm.z]; done)
      | (simp_all [zeroB, Lm.z]; rfl)

set_option maxHeartbeats 1000000 in
theorem has_t (v : Value) (l : List Int) (y : Int) (w : World) (hI : Ints w v l) (hl : l.length ≤ 4611686018427387904) :
    Calls Try.prog 40 #[v, .int .i64 y] w fun e w' => e = .returned (.bool (decide (y ∈ l))) ∧ w = w' := by
  obtain ⟨ad, cap, rfl, _, hc⟩ := hI
  have HC := tabhid hc
  clear hc
  go_enter Try.func40, Try.ntmps40
  go_wp2
  go_loopw [5] (fun c wr => ∃ (i : Nat), i ≤ l.length ∧ c = .int .i64 i ∧ Hid (∀ j (h : j < l.length), j < i → l[j] ≠ y) ∧ w = wr) (fun c _ => l.length - (intOf c).toNat)
  case atStart => exact ⟨0, by omega, rfl, fun j h h0 => by omega, rfl⟩
  case round =>
    obtain ⟨i, hi, rfl, HN, rfl⟩ := hrel
    by_cases hlt : i < l.length
    · obtain ⟨b, off, rfl, hb, hcell⟩ := HC.out (by omega)
      have c0 := hcell i hlt
      by_cases he : l[i] = y
      · have E : Hid (decide (y ∈ l) = true) := decide_eq_true (he ▸ List.getElem_mem hlt)
        rw [he] at c0
        clear hcell HC HN he
        go_wp2_with fail
        go_ret
        exact ⟨tabBool E.out.symm, rfl⟩
      · have HN2 : Hid (∀ j (h : j < l.length), j < i + 1 → l[j] ≠ y) := fun j h hj => by
          rcases Nat.lt_or_ge j i with h' | h'
          · exact HN.out j h h'
          · have : j = i := by omega
            subst this
            exact he
        have hb2 : (l[i] == y) = false := by rw [beq_eq_false_iff_ne]; exact he
        clear hcell HC HN he
        generalize l[i] = z at *
        go_wp2_with fail
        exact ⟨⟨i + 1, by omega, by go_num, HN2, trivial⟩, by simp [intOf]; omega⟩
    · have E : Hid (decide (y ∈ l) = false) := decide_eq_false (fun hm => by
        obtain ⟨j, hj, e⟩ := List.getElem_of_mem hm
        exact HN.out j hj (by omega) e)
      go_wp2_with fail
      go_ret
      exact ⟨tabBool E.out.symm, rfl⟩

set_option maxHeartbeats 2000000 in
theorem rone_zero (n : Int) (gen : Int) (x : Lm) (segs : List Int) (v : Value) (w : World) (hI : Ints w v segs) (hg : inB gen 0 65535 = true) :
    Calls Try.prog 39 #[.int .i64 n, houseV ⟨0, gen, x, segs⟩ v] w fun e w' => e = .returned (.bool (decide (segs.length = 0) && zeroB x)) ∧ Below w.heap.size w w' := by
  obtain ⟨ad, cap, rfl, _, hc⟩ := hI
  clear hc
  have C := tabhid rin_t
  have Z := tabhid (rzero_t x)
  have h0 : inB 0 0 2 = true := rfl
  obtain ⟨ZB, hZB⟩ : ∃ B, B = zeroB x := ⟨_, rfl⟩
  rw [← hZB] at Z ⊢
  clear hZB
  obtain ⟨xs, xhb, xsb, xhn, xsn, xgr, xbu⟩ := x
  show Calls _ _ #[.int .i64 n, .agg #[.int .i64 0, .int .i64 gen, .int .i64 xs, .int .i64 xhb, .int .i64 xsb, .int .i64 xhn, .int .i64 xsn, .int .i64 xgr, .int .i64 xbu, .slice ad segs.length cap]] _ _
  by_cases hz : segs.length = 0
  · rw [hz]
    go_enter Try.func39, Try.ntmps39
    go_wp2_with (first | (refine (C.out _ _ _ _).mono ?_; rintro e w' ⟨rfl, rfl⟩) | fail)
    refine (Z.out _).mono ?_
    rintro e w1 ⟨rfl, hb1⟩
    have HB : Hid (Below w.heap.size w w1) := ((Below.refl _ w).alloc (Nat.le_refl _) _).trans (hb1.mono (by simp))
    clear hb1
    go_wp2_with fail
    go_ret
    exact ⟨tabBool (by simp), HB.out⟩
  · have hzb : ((segs.length : Int) == 0) = false := by rw [beq_eq_false_iff_ne]; omega
    have E : Hid ((decide (segs.length = 0) && ZB) = false) := by show _ = _; rw [decide_eq_false hz]; rfl
    go_enter Try.func39, Try.ntmps39
    go_wp2_with (first | (refine (C.out _ _ _ _).mono ?_; rintro e w' ⟨rfl, rfl⟩) | fail)
    go_ret
    exact ⟨tabBool E.out.symm, (Below.refl _ w).alloc (Nat.le_refl _) _⟩

end Go.Proofs.Ytdhdjnpgebddmaa
