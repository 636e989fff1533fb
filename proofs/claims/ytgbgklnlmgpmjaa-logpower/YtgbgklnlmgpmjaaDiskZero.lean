/- The laws' own Zero. -/
import Derived.Test.YtgbgklnlmgpmjaaDiskEasy
namespace Go.Proofs.Ytgbgklnlmgpmjaa
open Go.RowKit

set_option maxHeartbeats 400000 in
theorem zero_t (w : World) :
    Calls Try.prog 27 #[] w fun e w' => e = .returned (.string (zbytes 256)) ∧ Below w.heap.size w w' := by
  have hmk : (Instr.makeSlice 92 (.int .i64 256) (.int .i64 256)).run Try.prog w = .ok (.slice (some ⟨w.heap.size, 0, none⟩) 256 256) (w.alloc (.cells (zcells 256) 5)) := make_bytes 256 (by omega) w
  have hcv := conv_zeros 256 w.heap.size (w.alloc (.cells (zcells 256) 5)) (heap_alloc_new _ _)
  generalize zbytes 256 = Z at *
  generalize zcells 256 = C at *
  go_enter Try.func27, Try.ntmps27
  go_wp2
  go_ret
  exact ⟨rfl, (Below.refl _ w).alloc (Nat.le_refl _) _⟩
end Go.Proofs.Ytgbgklnlmgpmjaa
