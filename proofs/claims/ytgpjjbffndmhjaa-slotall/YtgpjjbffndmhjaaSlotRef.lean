/- The document's own answers of chapter 7: in, Check, num walked. -/
import Derived.Test.YtgpjjbffndmhjaaSlotSame
import Derived.Test.YtgpjjbffndmhjaaBinRef
import Derived.Test.YtgpjjbffndmhjaaCrcRef
namespace Go.Proofs.Ytgpjjbffndmhjaa
open Go.RowKit Rec Slt

set_option maxHeartbeats 400000 in
theorem rin_t (v a b : Int) (w : World) : Calls Try.prog 25 #[.int .i64 v, .int .i64 a, .int .i64 b] w fun e w' => e = .returned (.bool (inB v a b)) ∧ w = w' := by
  by_cases h1 : a ≤ v
  · by_cases h2 : v ≤ b
    · have e : Hid (inB v a b = true) := inB_yes h1 h2
      go_enter Try.func25, Try.ntmps25
      go_wp2
      go_ret
      exact ⟨sltBool e.out.symm, rfl⟩
    · have e : Hid (inB v a b = false) := by show _ = _; simp [inB, h2]
      have d : decide (v ≤ b) = false := by simp; omega
      go_enter Try.func25, Try.ntmps25
      go_wp2
      go_ret
      exact ⟨sltBool e.out.symm, rfl⟩
  · have e : Hid (inB v a b = false) := by show _ = _; simp [inB, h1]
    go_enter Try.func25, Try.ntmps25
    go_wp2
    go_ret
    exact ⟨sltBool e.out.symm, rfl⟩


set_option maxHeartbeats 4000000 in
theorem rcheck_t (x : Sl) (w : World) : Calls Try.prog 13 #[slotV x] w fun e w' => e = .returned (.bool (okB x)) ∧ Below w.heap.size w w' := by
  obtain ⟨num, life, clock, seg, at_, next, seq, m0, m1, m2, m3, sb, sn⟩ := x
  have HE : Hid (okB ⟨num, life, clock, seg, at_, next, seq, m0, m1, m2, m3, sb, sn⟩ = (inB m0 0 16383 && inB m1 0 16383 && inB m2 0 16383 && inB m3 0 16383 && inB num 1 1099511627776 && inB life 1 1048575 && inB clock 0 1099511627776 && inB seg 0 65535 && inB at_ 0 64 && inB next 0 65535 && inB seq 1 1099511627776 && inB sb 0 1099511627777 && inB sn 0 1099511627777)) := rfl
  have C := slthid rin_t
  show Calls _ _ #[.agg #[.int .i64 num, .int .i64 life, .int .i64 clock, .int .i64 seg, .int .i64 at_, .int .i64 next, .int .i64 seq, .int .i64 m0, .int .i64 m1, .int .i64 m2, .int .i64 m3, .int .i64 sb, .int .i64 sn]] _ _
  go_enter Try.func13, Try.ntmps13
  go_wp2_with fail
  generalize hW : w.alloc _ = W
  have c0 : W.cell? ⟨w.heap.size, 0, none⟩ = some (.int .i64 num) := by rw [← hW]; simp
  have c1 : W.cell? ⟨w.heap.size, 1, none⟩ = some (.int .i64 life) := by rw [← hW]; simp
  have c2 : W.cell? ⟨w.heap.size, 2, none⟩ = some (.int .i64 clock) := by rw [← hW]; simp
  have c3 : W.cell? ⟨w.heap.size, 3, none⟩ = some (.int .i64 seg) := by rw [← hW]; simp
  have c4 : W.cell? ⟨w.heap.size, 4, none⟩ = some (.int .i64 at_) := by rw [← hW]; simp
  have c5 : W.cell? ⟨w.heap.size, 5, none⟩ = some (.int .i64 next) := by rw [← hW]; simp
  have c6 : W.cell? ⟨w.heap.size, 6, none⟩ = some (.int .i64 seq) := by rw [← hW]; simp
  have c7 : W.cell? ⟨w.heap.size, 7, none⟩ = some (.int .i64 m0) := by rw [← hW]; simp
  have c8 : W.cell? ⟨w.heap.size, 8, none⟩ = some (.int .i64 m1) := by rw [← hW]; simp
  have c9 : W.cell? ⟨w.heap.size, 9, none⟩ = some (.int .i64 m2) := by rw [← hW]; simp
  have c10 : W.cell? ⟨w.heap.size, 10, none⟩ = some (.int .i64 m3) := by rw [← hW]; simp
  have c11 : W.cell? ⟨w.heap.size, 11, none⟩ = some (.int .i64 sb) := by rw [← hW]; simp
  have c12 : W.cell? ⟨w.heap.size, 12, none⟩ = some (.int .i64 sn) := by rw [← hW]; simp
  have HB : Hid (Below w.heap.size w W) := by rw [← hW]; exact (Below.refl _ w).alloc (Nat.le_refl _) _
  clear hW
  go_loopw [3] (fun c wr => ∃ k : Nat, k ≤ 4 ∧ c = .int .i64 k ∧ (0 < k → inB m0 0 16383 = true) ∧ (1 < k → inB m1 0 16383 = true) ∧ (2 < k → inB m2 0 16383 = true) ∧ (3 < k → inB m3 0 16383 = true) ∧ W = wr) (fun c _ => 4 - (intOf c).toNat)
  case atStart => exact ⟨0, by omega, rfl, fun h => by omega, fun h => by omega, fun h => by omega, fun h => by omega, rfl⟩
  case round =>
    obtain ⟨k, hk, rfl, h0, h1, h2, h3, rfl⟩ := hrel
    have hc : k = 0 ∨ k = 1 ∨ k = 2 ∨ k = 3 ∨ k = 4 := by omega
    rcases hc with rfl | rfl | rfl | rfl | rfl
    · clear c0 c1 c2 c3 c4 c5 c6 c8 c9 c10 c11 c12
      clear h0 h1 h2 h3
      cases e : inB m0 0 16383
      · go_wp2_with (first | (refine (C.out _ _ _ _).mono ?_; rintro e w' ⟨rfl, rfl⟩) | fail)
        go_ret
        refine ⟨sltBool ?_, HB.out⟩
        rw [HE.out]
        simp only [*, Bool.false_and]
      · go_wp2_with (first | (refine (C.out _ _ _ _).mono ?_; rintro e w' ⟨rfl, rfl⟩) | fail)
        refine ⟨⟨1, by omega, rfl, ?_, ?_, ?_, ?_, trivial⟩, by simp [intOf]⟩ <;> (intro h; first | trivial | assumption | omega)
    · clear c0 c1 c2 c3 c4 c5 c6 c7 c9 c10 c11 c12
      have e0 : inB m0 0 16383 = true := h0 (by omega)
      clear h0 h1 h2 h3
      cases e : inB m1 0 16383
      · go_wp2_with (first | (refine (C.out _ _ _ _).mono ?_; rintro e w' ⟨rfl, rfl⟩) | fail)
        go_ret
        refine ⟨sltBool ?_, HB.out⟩
        rw [HE.out]
        simp only [*, Bool.and_false, Bool.false_and]
      · go_wp2_with (first | (refine (C.out _ _ _ _).mono ?_; rintro e w' ⟨rfl, rfl⟩) | fail)
        refine ⟨⟨2, by omega, rfl, ?_, ?_, ?_, ?_, trivial⟩, by simp [intOf]⟩ <;> (intro h; first | trivial | assumption | omega)
    · clear c0 c1 c2 c3 c4 c5 c6 c7 c8 c10 c11 c12
      have e0 : inB m0 0 16383 = true := h0 (by omega)
      have e1 : inB m1 0 16383 = true := h1 (by omega)
      clear h0 h1 h2 h3
      cases e : inB m2 0 16383
      · go_wp2_with (first | (refine (C.out _ _ _ _).mono ?_; rintro e w' ⟨rfl, rfl⟩) | fail)
        go_ret
        refine ⟨sltBool ?_, HB.out⟩
        rw [HE.out]
        simp only [*, Bool.and_true, Bool.and_false, Bool.false_and]
      · go_wp2_with (first | (refine (C.out _ _ _ _).mono ?_; rintro e w' ⟨rfl, rfl⟩) | fail)
        refine ⟨⟨3, by omega, rfl, ?_, ?_, ?_, ?_, trivial⟩, by simp [intOf]⟩ <;> (intro h; first | trivial | assumption | omega)
    · clear c0 c1 c2 c3 c4 c5 c6 c7 c8 c9 c11 c12
      have e0 : inB m0 0 16383 = true := h0 (by omega)
      have e1 : inB m1 0 16383 = true := h1 (by omega)
      have e2 : inB m2 0 16383 = true := h2 (by omega)
      clear h0 h1 h2 h3
      cases e : inB m3 0 16383
      · go_wp2_with (first | (refine (C.out _ _ _ _).mono ?_; rintro e w' ⟨rfl, rfl⟩) | fail)
        go_ret
        refine ⟨sltBool ?_, HB.out⟩
        rw [HE.out]
        simp only [*, Bool.and_true, Bool.and_false, Bool.false_and]
      · go_wp2_with (first | (refine (C.out _ _ _ _).mono ?_; rintro e w' ⟨rfl, rfl⟩) | fail)
        refine ⟨⟨4, by omega, rfl, ?_, ?_, ?_, ?_, trivial⟩, by simp [intOf]⟩ <;> (intro h; first | trivial | assumption | omega)
    · have e0 : inB m0 0 16383 = true := h0 (by omega)
      have e1 : inB m1 0 16383 = true := h1 (by omega)
      have e2 : inB m2 0 16383 = true := h2 (by omega)
      have e3 : inB m3 0 16383 = true := h3 (by omega)
      clear h0 h1 h2 h3
      go_wp2_with (first | (refine (C.out _ _ _ _).mono ?_; rintro e w' ⟨rfl, rfl⟩) | fail)
      all_goals
        go_ret
        refine ⟨sltBool ?_, HB.out⟩
        rw [HE.out]
        clear HE C
        simp only [*, Bool.and_true, Bool.true_and, Bool.and_false, Bool.false_and]

set_option maxHeartbeats 400000 in
theorem rnum_t (s : ByteArray) (a n : Int) (w : World) (ha0 : 0 ≤ a) (hn0 : 0 ≤ n) (hn : n ≤ 7) (ha : a + n ≤ s.size) (hl : s.size ≤ 9223372036854775807) :
    Calls Try.prog 30 #[.string s, .int .i64 a, .int .i64 n] w fun e w' => e = .returned (.int .i64 (numAt s.data.toList a.toNat n.toNat)) ∧ w = w' := by
  have GET := slthid (refGet_t s a.toNat n.toNat w (by omega) (by omega) hl)
  rw [show ((a.toNat : Nat) : Int) = a by omega, show ((n.toNat : Nat) : Int) = n by omega] at GET
  have e : Hid ((Bin.num (part s a.toNat n.toNat) : Int) = numAt s.data.toList a.toNat n.toNat) := rfl
  rw [e.out] at GET
  generalize numAt s.data.toList a.toNat n.toNat = V at *
  clear e
  go_enter Try.func30, Try.ntmps30
  go_wp2_with fail
  refine GET.out.mono ?_
  rintro e w1 ⟨rfl, rfl⟩
  go_wp2_with fail
  go_ret
  exact ⟨rfl, rfl⟩
end Go.Proofs.Ytgpjjbffndmhjaa
