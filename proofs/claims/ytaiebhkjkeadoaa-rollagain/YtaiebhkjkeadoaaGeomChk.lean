/- Check, Segs (package geom) walked. -/
import Derived.Test.YtaiebhkjkeadoaaGeomBase
namespace Go.Proofs.Ytaiebhkjkeadoaa
open Go.RowKit

set_option maxHeartbeats 1000000 in
theorem check_yes (S G : Int) (w : World) (h : GeomOk S G) :
    Calls Try.prog 55 #[geomV S G] w fun e w' => e = .returned (.bool true) ∧ Below w.heap.size w w' := by
  obtain ⟨h1, h2, h3, h4⟩ := h
  go_enter Try.func55, Try.ntmps55
  go_wp2
  go_ret
  exact ⟨rfl, (Below.refl _ w).alloc (Nat.le_refl _) _⟩

set_option maxHeartbeats 1000000 in
theorem check_no (S G : Int) (w : World) (h : ¬ GeomOk S G) :
    Calls Try.prog 55 #[geomV S G] w fun e w' => e = .returned (.bool false) ∧ Below w.heap.size w w' := by
  by_cases h1 : G < 32
  · go_enter Try.func55, Try.ntmps55
    go_wp2
    go_ret
    exact ⟨rfl, (Below.refl _ w).alloc (Nat.le_refl _) _⟩
  · by_cases h2 : 64 < G
    · go_enter Try.func55, Try.ntmps55
      go_wp2
      go_ret
      exact ⟨rfl, (Below.refl _ w).alloc (Nat.le_refl _) _⟩
    · by_cases h3 : S < 48 + 8 * G
      · clear h
        go_enter Try.func55, Try.ntmps55
        go_wp2
        go_ret
        exact ⟨rfl, (Below.refl _ w).alloc (Nat.le_refl _) _⟩
      · have h4 : 16384 < S := by unfold GeomOk at h; omega
        have hd : decide (S ≤ 16384) = false := by simp; omega
        clear h
        go_enter Try.func55, Try.ntmps55
        go_wp2
        go_ret
        exact ⟨rfl, (Below.refl _ w).alloc (Nat.le_refl _) _⟩

set_option maxHeartbeats 1000000 in
theorem segs_yes (S G : Int) (w : World) (h : GeomOk S G) :
    Calls Try.prog 45 #[geomV S G] w fun e w' => e = .returned (.int .i64 ((S - 48) / G)) ∧ Below w.heap.size w w' := by
  have C := fun w => check_yes S G w h
  obtain ⟨h1, h2, h3, h4⟩ := h
  have hd : (S - 48).tdiv G = (S - 48) / G := Int.tdiv_eq_ediv_of_nonneg (by omega)
  have hb : 0 ≤ (S - 48) / G := Int.ediv_nonneg (by omega) (by omega)
  have hb2 : (S - 48) / G ≤ S - 48 := Int.ediv_le_self _ (by omega)
  have hz : (G == 0) = false := by simp; omega
  have HC := geomhid C
  clear C
  go_enter Try.func45, Try.ntmps45
  go_wp2_with fail
  refine (HC.out _).mono ?_
  rintro e w1 ⟨rfl, hb1⟩
  have c0 : w1.cell? ⟨w.heap.size, 0, none⟩ = some (.int .i64 S) := by rw [hb1.cell (by simp)]; simp
  have c1 : w1.cell? ⟨w.heap.size, 1, none⟩ = some (.int .i64 G) := by rw [hb1.cell (by simp)]; simp
  have HB : Hid (Below w.heap.size w w1) := ((Below.refl _ w).alloc (Nat.le_refl _) _).trans (hb1.mono (by simp))
  clear hb1 HC
  go_wp2
  go_ret
  exact ⟨rfl, HB.out⟩

set_option maxHeartbeats 1000000 in
theorem segs_no (S G : Int) (w : World) (h : ¬ GeomOk S G) :
    Calls Try.prog 45 #[geomV S G] w fun e w' => e = .returned (.int .i64 0) ∧ Below w.heap.size w w' := by
  have HC := geomhid fun w => check_no S G w h
  clear h
  go_enter Try.func45, Try.ntmps45
  go_wp2_with fail
  refine (HC.out _).mono ?_
  rintro e w1 ⟨rfl, hb1⟩
  have HB : Hid (Below w.heap.size w w1) := ((Below.refl _ w).alloc (Nat.le_refl _) _).trans (hb1.mono (by simp))
  clear hb1 HC
  go_wp2
  go_ret
  exact ⟨rfl, HB.out⟩
end Go.Proofs.Ytaiebhkjkeadoaa
