/- Start walked. -/
import Derived.Test.YtaiebhkjkeadoaaGeomChk
import Derived.Deep.RegionHeld3
import Derived.Deep.QuietTactic
import Derived.BigQuiet
import Derived.Deep.DeepCutAuto
namespace Go.Proofs.Ytaiebhkjkeadoaa
open Go.RowKit

set_option maxHeartbeats 1000000 in
theorem start_yes (S G k q : Int) (w : World) (h : GeomOk S G) (h0 : 0 ≤ k) (hk : k < (S - 48) / G) (hq : k * G = q) (hq0 : 0 ≤ q) (hq1 : q ≤ 16384) :
    Calls Try.prog 43 #[geomV S G, .int .i64 k] w fun e w' => e = .returned (.int .i64 (48 + q)) ∧ Below w.heap.size w w' := by
  have HC := geomhid fun w => segs_yes S G w h
  generalize (S - 48) / G = n at *
  clear h
  go_enter Try.func43, Try.ntmps43
  go_wp2_with fail
  refine (HC.out _).mono ?_
  rintro e w1 ⟨rfl, hb1⟩
  have c1 : w1.cell? ⟨w.heap.size, 1, none⟩ = some (.int .i64 G) := by rw [hb1.cell (by simp)]; simp
  have HB : Hid (Below w.heap.size w w1) := ((Below.refl _ w).alloc (Nat.le_refl _) _).trans (hb1.mono (by simp))
  clear hb1 HC
  go_wp2
  go_ret
  exact ⟨rfl, HB.out⟩

set_option maxHeartbeats 1000000 in
theorem start_less (S G k : Int) (w : World) (hk : k < 0) :
    Calls Try.prog 43 #[geomV S G, .int .i64 k] w fun e w' => e = .returned (.int .i64 0) ∧ Below w.heap.size w w' := by
  go_enter Try.func43, Try.ntmps43
  go_wp2_with fail
  go_ret
  exact ⟨rfl, (Below.refl _ w).alloc (Nat.le_refl _) _⟩

set_option maxHeartbeats 1000000 in
theorem start_behind (S G k : Int) (w : World) (h : GeomOk S G) (hk : (S - 48) / G ≤ k) :
    Calls Try.prog 43 #[geomV S G, .int .i64 k] w fun e w' => e = .returned (.int .i64 0) ∧ Below w.heap.size w w' := by
  have HC := geomhid fun w => segs_yes S G w h
  have h0 : 0 ≤ (S - 48) / G := by
    obtain ⟨h1, h2, h3, h4⟩ := h
    exact Int.ediv_nonneg (by omega) (by omega)
  generalize (S - 48) / G = n at *
  clear h
  have h1 : 0 ≤ k := by omega
  go_enter Try.func43, Try.ntmps43
  go_wp2_with fail
  refine (HC.out _).mono ?_
  rintro e w1 ⟨rfl, hb1⟩
  have HB : Hid (Below w.heap.size w w1) := ((Below.refl _ w).alloc (Nat.le_refl _) _).trans (hb1.mono (by simp))
  clear hb1 HC
  go_wp2
  go_ret
  exact ⟨rfl, HB.out⟩

set_option maxHeartbeats 1000000 in
theorem start_none (S G k : Int) (w : World) (h : ¬ GeomOk S G) :
    Calls Try.prog 43 #[geomV S G, .int .i64 k] w fun e w' => e = .returned (.int .i64 0) ∧ Below w.heap.size w w' := by
  by_cases hk : k < 0
  · exact start_less S G k w hk
  · have HC := geomhid fun w => segs_no S G w h
    clear h
    have h1 : 0 ≤ k := by omega
    clear hk
    go_enter Try.func43, Try.ntmps43
    go_wp2_with fail
    refine (HC.out _).mono ?_
    rintro e w1 ⟨rfl, hb1⟩
    have HB : Hid (Below w.heap.size w w1) := ((Below.refl _ w).alloc (Nat.le_refl _) _).trans (hb1.mono (by simp))
    clear hb1 HC
    go_wp2
    go_ret
    exact ⟨rfl, HB.out⟩
end Go.Proofs.Ytaiebhkjkeadoaa
