/- The law CrcAll walked. -/
import Derived.Test.YtofdpognieflnaaCode
namespace Go.Proofs.Ytofdpognieflnaa
open Go.RowKit

set_option maxHeartbeats 1000000 in
theorem crcAll_t (s t : ByteArray) (w : World) (hs : s.size ≤ 140737488355328) (ht : t.size ≤ 140737488355328) :
    Calls Try.prog 3 #[.string s, .string t] w fun e w' => e = .returned (.bool true) ∧ w = w' := by
  have L1 := Sum.crc_lt s.data.toList
  go_enter Try.func3, Try.ntmps3
  go_wp2_with fail
  refine (of_t s w (by omega)).mono ?_
  rintro e w1 ⟨rfl, rfl⟩
  go_wp2_with fail
  refine (refOf s w (by omega)).mono ?_
  rintro e w1 ⟨rfl, rfl⟩
  go_wp2_with fail
  refine (of_t s w (by omega)).mono ?_
  rintro e w1 ⟨rfl, rfl⟩
  go_wp2_with fail
  refine (more_t _ t w L1 (by omega)).mono ?_
  rintro e w1 ⟨rfl, rfl⟩
  rw [Sum.more_crc]
  go_wp2_with fail
  refine (refOf (s ++ t) w (by rw [ByteArray.size_append]; omega)).mono ?_
  rintro e w1 ⟨rfl, rfl⟩
  rw [show (s ++ t).data.toList = s.data.toList ++ t.data.toList by simp]
  go_wp2_with fail
  refine (awake_t w).mono ?_
  rintro e w1 ⟨rfl, rfl⟩
  go_wp2
  go_ret
  exact ⟨rfl, rfl⟩
end Go.Proofs.Ytofdpognieflnaa
