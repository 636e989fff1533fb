/- The order by which Back sorts: cmp.Compare at ints, and the closure that hands it the writes' orders. -/
import Derived.Test.YtaiebhkjkeadoaaGreatDiskPlaces
import Derived.Sort.Grow
namespace Go.Proofs.YtaiebhkjkeadoaaGreat
open Go.RowKit

/-- cmp.Compare of two numbers. -/
def cmpN (a b : Nat) : Int := if a < b then -1 else if b < a then 1 else 0

set_option maxHeartbeats 400000 in
theorem isNaN_t (a : Int) (w : World) : Calls Tryz.prog 42 #[.int .i64 a] w fun e w' => e = .returned (.bool false) ∧ w = w' := by
  have h : (a != a) = false := by simp
  go_enter Tryz.func42, Tryz.ntmps42
  go_wp2
  go_ret
  exact ⟨rfl, rfl⟩

set_option maxHeartbeats 400000 in
theorem compare_t (a b : Nat) (w : World) : Calls Tryz.prog 31 #[.int .i64 a, .int .i64 b] w fun e w' => e = .returned (.int .i64 (cmpN a b)) ∧ w = w' := by
  by_cases h1 : a < b
  · have e : cmpN a b = -1 := by simp [cmpN, h1]
    rw [e]
    clear e
    have h2 : (a : Int) < (b : Int) := by omega
    go_enter Tryz.func31, Tryz.ntmps31
    go_wp2_with (go_at_call 42; refine (isNaN_t _ _).mono ?_; rintro e w' ⟨rfl, rfl⟩)
    go_ret
    exact ⟨rfl, rfl⟩
  · by_cases h2 : b < a
    · have e : cmpN a b = 1 := by simp [cmpN, h1, h2]
      rw [e]
      clear e
      have h3 : (b : Int) < (a : Int) := by omega
      go_enter Tryz.func31, Tryz.ntmps31
      go_wp2_with (go_at_call 42; refine (isNaN_t _ _).mono ?_; rintro e w' ⟨rfl, rfl⟩)
      go_ret
      exact ⟨rfl, rfl⟩
    · have e : cmpN a b = 0 := by simp [cmpN, h1, h2]
      rw [e]
      clear e
      have h3 : (b : Int) ≤ (a : Int) := by omega
      have h4 : (a : Int) ≤ (b : Int) := by omega
      go_enter Tryz.func31, Tryz.ntmps31
      go_wp2_with (go_at_call 42; refine (isNaN_t _ _).mono ?_; rintro e w' ⟨rfl, rfl⟩)
      go_ret
      exact ⟨rfl, rfl⟩

open Go.Sort in
set_option maxHeartbeats 400000 in
theorem closure_t (a a' b b' : Nat) (s t : ByteArray) (W : World) : Calls Tryz.prog 30 #[.agg #[.int .i64 a, .int .i64 a', .string s], .agg #[.int .i64 b, .int .i64 b', .string t]] W fun e w' =>
    e = .returned (.int .i64 (cmpN a b)) ∧ ∃ q os', w' = grow (W.drewN q) os' := by
  have hcon := dkhid (fun W' => compare_t a b W')
  generalize cmpN a b = r at hcon ⊢
  go_enter Tryz.func30, Tryz.ntmps30
  go_wp2_with (go_at_call 31; refine (hcon.out _).mono ?_; rintro e w' ⟨rfl, rfl⟩)
  go_ret
  exact ⟨rfl, 0, _, by rw [alloc_eq_grow, alloc_eq_grow, grow_grow]; rfl⟩

end Go.Proofs.YtaiebhkjkeadoaaGreat
