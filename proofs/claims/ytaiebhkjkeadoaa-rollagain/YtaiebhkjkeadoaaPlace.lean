/- The laws' own Place: any number as one from 0 to n - 1: the number's rest. -/
import Derived.Test.YtaiebhkjkeadoaaRows
import Derived.WalkKit
import Derived.WalkSpells
import Derived.WalkLawsBesides
namespace Go.Proofs.Ytaiebhkjkeadoaa
open Go.RowKit

theorem placeEnd {k : IntKind} {a b : Int} (h : a = b) : Ending.returned (.int k a) = .returned (.int k b) := by rw [h]

theorem gplace_emod {v n : Int} (hn : 0 < n) : v % n = if v.tmod n < 0 then v.tmod n + n else v.tmod n := by
  rw [Int.tmod_eq_emod]
  have h1 := Int.emod_nonneg v (show n ≠ 0 by omega)
  have h2 := Int.emod_lt_of_pos v hn
  split <;> split <;> omega

set_option maxHeartbeats 400000 in
/-- Place: the number's rest. -/
theorem gplace_t (v n : Int) (w : World) (hn : 0 < n) (hn2 : n ≤ 4611686018427387904) :
    Calls Try.prog 12 #[.int .i64 v, .int .i64 n] w fun e w' => e = .returned (.int .i64 (v % n)) ∧ w = w' := by
  have hn0 : (n == 0) = false := by simp; omega
  have e := @gplace_emod v n hn
  have h1 := Int.emod_nonneg v (show n ≠ 0 by omega)
  have h2 := Int.emod_lt_of_pos v hn
  have b1 : -n ≤ v.tmod n := by split at e <;> omega
  have b2 : v.tmod n < n := by split at e <;> omega
  have H : Hid (v % n = if v.tmod n < 0 then v.tmod n + n else v.tmod n) := e
  clear e h1 h2
  go_enter Try.func12, Try.ntmps12
  go_wp2
  all_goals go_ret
  · exact ⟨placeEnd (by rw [H.out, if_pos (by assumption)]), rfl⟩
  · exact ⟨placeEnd (by rw [H.out, if_neg (by omega)]), rfl⟩
end Go.Proofs.Ytaiebhkjkeadoaa
