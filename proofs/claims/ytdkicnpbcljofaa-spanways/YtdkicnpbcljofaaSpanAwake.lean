/- The laws' own awake walked. -/
import Derived.Test.YtdkicnpbcljofaaSpanInds
namespace Go.Proofs.Ytdkicnpbcljofaa
open Go.RowKit Span

set_option maxHeartbeats 2000000 in
theorem awake_t (w : World) : Calls Try.prog 7 #[] w fun e w' => e = .returned (.bool true) ∧ Below w.heap.size w w' := by
  have WAY : Hid (∀ w1, Calls Try.prog 8 #[.int .i64 12] w1 fun e w' => e = .returned (wV 1 0 0 true) ∧ w1 = w') := fun w1 => way_t 12 w1
  have I1 : Hid (indsL [12] = 1) := by show _ = _; decide
  have I2 : Hid (indsL [76] = 2) := by show _ = _; decide
  go_enter Try.func7, Try.ntmps7
  go_wp2_with fail
  refine (WAY.out _).mono ?_
  rintro e w1 ⟨rfl, rfl⟩
  go_wp2_with fail
  refine (inds_t _ [12] _ (Ints.block (heap_alloc_new _ _) rfl (Nat.le_refl _)) (by decide)).mono ?_
  rintro e w1 ⟨rfl, hb1⟩
  rw [I1.out]
  have HB1 : Hid (Below w.heap.size w w1) := ((Below.refl _ w).alloc (Nat.le_refl _) _).trans (hb1.mono (by simp))
  clear hb1 I1 WAY
  go_wp2_with fail
  refine (inds_t _ [76] _ (Ints.block (heap_alloc_new _ _) rfl (Nat.le_refl _)) (by decide)).mono ?_
  rintro e w2 ⟨rfl, hb2⟩
  rw [I2.out]
  have HB2 : Hid (Below w.heap.size w w2) := (HB1.out.alloc HB1.out.size _).trans (hb2.mono (by have := HB1.out.size; simp; omega))
  clear hb2 I2 HB1
  go_wp2_with fail
  go_ret
  exact ⟨rfl, HB2.out⟩
end Go.Proofs.Ytdkicnpbcljofaa
