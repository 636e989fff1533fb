/- The laws' own Limit: bounds by a number, walked; they may be. -/
import Derived.Test.YtdhdjnpgebddmaaTabRow
import Derived.Test.YtdhdjnpgebddmaaPlace
import Derived.RegionTactic
namespace Go.Proofs.Ytdhdjnpgebddmaa
open Go.RowKit Tab

theorem limAlloc {w : World} {o : Obj} {n : Nat} (h : w.heap.size = n) : (w.alloc o).heap[n]? = some o := by
  subst h
  exact heap_alloc_new _ _

/-- Bounds by a number from 0 to 2^20 less 1. -/
def limOf (k : Int) : Lm := ⟨8 + k % 4, 6 + k / 4 % 40, 6 + k / 4 % 40 - k / 768000 % 3, 4 + k / 160 % 20, 1 + k / 3 % (4 + k / 160 % 20), k / 3200 % 8, k / 25600 % 30⟩
theorem limOf_may (k : Int) : limB (limOf k) = true := by
  have h1 := Int.emod_nonneg (k / 3) (show 4 + k / 160 % 20 ≠ 0 by omega)
  have h2 := Int.emod_lt_of_pos (k / 3) (show 0 < 4 + k / 160 % 20 by omega)
  simp only [limB, limOf, Bool.and_eq_true, inB_iff]
  omega

set_option maxRecDepth 4000 in
set_option maxHeartbeats 2000000 in
theorem limit_t (v : Int) (w : World) :
    Calls Try.prog 22 #[.int .i64 v] w fun e w' => e = .returned (limV (limOf (v % 1048576))) ∧ Below w.heap.size w w' := by
  have h1 := Int.emod_nonneg v (show (1048576 : Int) ≠ 0 by decide)
  have h2 := Int.emod_lt_of_pos v (show (0 : Int) < 1048576 by decide)
  have PL := tabhid (fun w => gplace_t v 1048576 w (by decide) (by decide))
  generalize v % 1048576 = k at *
  have HE : Hid (limOf k = ⟨8 + k % 4, 6 + k / 4 % 40, 6 + k / 4 % 40 - k / 768000 % 3, 4 + k / 160 % 20, 1 + k / 3 % (4 + k / 160 % 20), k / 3200 % 8, k / 25600 % 30⟩) := rfl
  go_enter Try.func22, Try.ntmps22
  go_wp2_with fail
  refine (PL.out _).mono ?_
  rintro e w' ⟨rfl, rfl⟩
  clear PL
  have hq1 := Int.emod_nonneg (k / 3) (show 4 + k / 160 % 20 ≠ 0 by omega)
  have hq2 := Int.emod_lt_of_pos (k / 3) (show 0 < 4 + k / 160 % 20 by omega)
  have b1 : 0 ≤ k / 4 % 40 ∧ k / 4 % 40 < 40 := by omega
  have b2 : 0 ≤ k / 160 % 20 ∧ k / 160 % 20 < 20 := by omega
  have b3 : 0 ≤ k / 768000 % 3 ∧ k / 768000 % 3 < 3 := by omega
  have b4 : 0 ≤ k / 3 := by omega
  go_wp2_with fail
  generalize hW : World.alloc _ _ = W
  have HWN : Hid (W.heap[w.heap.size + 1]? = some (.cells #[.int .i64 (8 + k % 4), .int .i64 (6 + k / 4 % 40), .int .i64 0, .int .i64 (4 + k / 160 % 20), .int .i64 0, .int .i64 (k / 3200 % 8), .int .i64 (k / 25600 % 30)] 24 (0, 0))) := by
    rw [← hW]
    exact limAlloc (by simp)
  have HWO : Hid (W.heap[w.heap.size]? = some (.cells #[.int .i64 0, .int .i64 0, .int .i64 0, .int .i64 0, .int .i64 0, .int .i64 0, .int .i64 0] 24 (0, 0))) := by
    rw [← hW]
    show _ = _
    rw [Below.heap_alloc _ _ _ (by simp)]
    exact heap_alloc_new _ _
  have HWB : Hid (Below w.heap.size w W) := by rw [← hW]; exact ((Below.refl _ w).alloc (Nat.le_refl _) _).alloc (by simp) _
  clear hW
  generalize e1 : k / 4 % 40 = x1 at *
  generalize e2 : k / 160 % 20 = x2 at *
  have c1 : W.cell? ⟨w.heap.size + 1, 1, none⟩ = some (.int .i64 (6 + x1)) := by rw [cell_of_row W _ _ _ _ _ HWN.out]; rfl
  have c2 : W.cell? ⟨w.heap.size + 1, 2, none⟩ = some (.int .i64 0) := by rw [cell_of_row W _ _ _ _ _ HWN.out]; rfl
  have c3 : W.cell? ⟨w.heap.size + 1, 3, none⟩ = some (.int .i64 (4 + x2)) := by rw [cell_of_row W _ _ _ _ _ HWN.out]; rfl
  have c4 : W.cell? ⟨w.heap.size + 1, 4, none⟩ = some (.int .i64 0) := by rw [cell_of_row W _ _ _ _ _ HWN.out]; rfl
  have fz : ∀ j, W.frozen? ⟨w.heap.size + 1, j, none⟩ = false := fun j => frozen_of_row W _ _ _ _ HWN.out
  clear e1 e2
  have hx2 : ((4 + x2 : Int) == 0) = false := by rw [beq_eq_false_iff_ne]; omega
  go_region
  generalize hV : World.drew _ = V
  have HV1 : Hid (V.heap[w.heap.size + 1]? = some (.cells #[.int .i64 (8 + k % 4), .int .i64 (6 + x1), .int .i64 (6 + x1 - k / 768000 % 3), .int .i64 (4 + x2), .int .i64 (1 + k / 3 % (4 + x2)), .int .i64 (k / 3200 % 8), .int .i64 (k / 25600 % 30)] 24 (0, 0))) := by
    rw [← hV]
    exact heap_setCell_same _ _ 4 _ _ _ (heap_setCell_same _ _ 2 _ _ _ HWN.out)
  have HV0 : Hid (V.heap[w.heap.size]? = some (.cells #[.int .i64 0, .int .i64 0, .int .i64 0, .int .i64 0, .int .i64 0, .int .i64 0, .int .i64 0] 24 (0, 0))) := by
    rw [← hV]
    show (World.setCell _ _ _).heap[w.heap.size]? = _
    rw [Below.heap_setCell _ _ _ _ (by show w.heap.size ≠ w.heap.size + 1; omega), Below.heap_setCell _ _ _ _ (by show w.heap.size ≠ w.heap.size + 1; omega)]
    exact HWO.out
  have HVB : Hid (Below w.heap.size w V) := by
    rw [← hV]
    exact ((HWB.out.setCell (by show w.heap.size ≤ w.heap.size + 1; omega) _).setCell (by show w.heap.size ≤ w.heap.size + 1; omega) _).drew
  clear hV c1 c2 c3 c4 fz HWN HWO HWB
  have d0 : V.cell? ⟨w.heap.size + 1, 0, none⟩ = some (.int .i64 (8 + k % 4)) := by rw [cell_of_row V _ _ _ _ _ HV1.out]; rfl
  have d1 : V.cell? ⟨w.heap.size + 1, 1, none⟩ = some (.int .i64 (6 + x1)) := by rw [cell_of_row V _ _ _ _ _ HV1.out]; rfl
  have d2 : V.cell? ⟨w.heap.size + 1, 2, none⟩ = some (.int .i64 (6 + x1 - k / 768000 % 3)) := by rw [cell_of_row V _ _ _ _ _ HV1.out]; rfl
  have d3 : V.cell? ⟨w.heap.size + 1, 3, none⟩ = some (.int .i64 (4 + x2)) := by rw [cell_of_row V _ _ _ _ _ HV1.out]; rfl
  have d4 : V.cell? ⟨w.heap.size + 1, 4, none⟩ = some (.int .i64 (1 + k / 3 % (4 + x2))) := by rw [cell_of_row V _ _ _ _ _ HV1.out]; rfl
  have d5 : V.cell? ⟨w.heap.size + 1, 5, none⟩ = some (.int .i64 (k / 3200 % 8)) := by rw [cell_of_row V _ _ _ _ _ HV1.out]; rfl
  have d6 : V.cell? ⟨w.heap.size + 1, 6, none⟩ = some (.int .i64 (k / 25600 % 30)) := by rw [cell_of_row V _ _ _ _ _ HV1.out]; rfl
  have z0 : V.cell? ⟨w.heap.size, 0, none⟩ = some (.int .i64 0) := by rw [cell_of_row V _ _ _ _ _ HV0.out]; rfl
  have z1 : V.cell? ⟨w.heap.size, 1, none⟩ = some (.int .i64 0) := by rw [cell_of_row V _ _ _ _ _ HV0.out]; rfl
  have z2 : V.cell? ⟨w.heap.size, 2, none⟩ = some (.int .i64 0) := by rw [cell_of_row V _ _ _ _ _ HV0.out]; rfl
  have z3 : V.cell? ⟨w.heap.size, 3, none⟩ = some (.int .i64 0) := by rw [cell_of_row V _ _ _ _ _ HV0.out]; rfl
  have z4 : V.cell? ⟨w.heap.size, 4, none⟩ = some (.int .i64 0) := by rw [cell_of_row V _ _ _ _ _ HV0.out]; rfl
  have z5 : V.cell? ⟨w.heap.size, 5, none⟩ = some (.int .i64 0) := by rw [cell_of_row V _ _ _ _ _ HV0.out]; rfl
  have z6 : V.cell? ⟨w.heap.size, 6, none⟩ = some (.int .i64 0) := by rw [cell_of_row V _ _ _ _ _ HV0.out]; rfl
  have fz : ∀ j, V.frozen? ⟨w.heap.size, j, none⟩ = false := fun j => frozen_of_row V _ _ _ _ HV0.out
  go_wp2_with fail
  generalize hU : World.setCell _ _ _ = U
  have HU : Hid (U.heap[w.heap.size]? = some (.cells #[.int .i64 (8 + k % 4), .int .i64 (6 + x1), .int .i64 (6 + x1 - k / 768000 % 3), .int .i64 (4 + x2), .int .i64 (1 + k / 3 % (4 + x2)), .int .i64 (k / 3200 % 8), .int .i64 (k / 25600 % 30)] 24 (0, 0))) := by
    rw [← hU]
    exact (heap_setCell_same _ _ 6 _ _ _ (heap_setCell_same _ _ 5 _ _ _ (heap_setCell_same _ _ 4 _ _ _ (heap_setCell_same _ _ 3 _ _ _ (heap_setCell_same _ _ 2 _ _ _ (heap_setCell_same _ _ 1 _ _ _ (heap_setCell_same _ _ 0 _ _ _ HV0.out)))))))
  have HUB : Hid (Below w.heap.size w U) := by
    rw [← hU]
    iterate 7 refine Below.setCell ?_ (show w.heap.size ≤ w.heap.size from Nat.le_refl _) _
    exact HVB.out
  clear hU
  have r0 : U.cell? ⟨w.heap.size, 0, none⟩ = some (.int .i64 (8 + k % 4)) := by rw [cell_of_row U _ _ _ _ _ HU.out]; rfl
  have r1 : U.cell? ⟨w.heap.size, 1, none⟩ = some (.int .i64 (6 + x1)) := by rw [cell_of_row U _ _ _ _ _ HU.out]; rfl
  have r2 : U.cell? ⟨w.heap.size, 2, none⟩ = some (.int .i64 (6 + x1 - k / 768000 % 3)) := by rw [cell_of_row U _ _ _ _ _ HU.out]; rfl
  have r3 : U.cell? ⟨w.heap.size, 3, none⟩ = some (.int .i64 (4 + x2)) := by rw [cell_of_row U _ _ _ _ _ HU.out]; rfl
  have r4 : U.cell? ⟨w.heap.size, 4, none⟩ = some (.int .i64 (1 + k / 3 % (4 + x2))) := by rw [cell_of_row U _ _ _ _ _ HU.out]; rfl
  have r5 : U.cell? ⟨w.heap.size, 5, none⟩ = some (.int .i64 (k / 3200 % 8)) := by rw [cell_of_row U _ _ _ _ _ HU.out]; rfl
  have r6 : U.cell? ⟨w.heap.size, 6, none⟩ = some (.int .i64 (k / 25600 % 30)) := by rw [cell_of_row U _ _ _ _ _ HU.out]; rfl
  refine bodyPost_ret (v := limV (limOf k)) (by rw [HE.out]; simp [results, Try.results22, go_sem, r0, r1, r2, r3, r4, r5, r6]) rfl ⟨rfl, HUB.out⟩
end Go.Proofs.Ytdhdjnpgebddmaa
