/- NodeApart walked: nodes that differ in one number have unlike bytes. -/
import Derived.Test.YtclfpblnjdlnfaaNodeEdges
namespace Go.Proofs.Ytclfpblnjdlnfaa
open Go.RowKit Rec Nod

abbrev leastX : Nd := ⟨1, 1, 0, 0, 0, 0, 0, 0, 0, 0, 0, 0, 0, 0, 0, 0, 0, 0, 0⟩
theorem setP_ptr (x : Nd) (k : Nat) (v : Int) (hk : k < 14) : (setP x k v).ptr k = v := by
  have hc : k = 0 ∨ k = 1 ∨ k = 2 ∨ k = 3 ∨ k = 4 ∨ k = 5 ∨ k = 6 ∨ k = 7 ∨ k = 8 ∨ k = 9 ∨ k = 10 ∨ k = 11 ∨ k = 12 ∨ k = 13 := by omega
  rcases hc with rfl | rfl | rfl | rfl | rfl | rfl | rfl | rfl | rfl | rfl | rfl | rfl | rfl | rfl <;> rfl
theorem setP_ok (k : Nat) (v : Int) (hk : k < 14) (h0 : 0 ≤ v) (h1 : v ≤ 16383) : okB (setP leastX k v) = true := by
  have hv : inB v 0 16383 = true := inB_yes h0 h1
  have hc : k = 0 ∨ k = 1 ∨ k = 2 ∨ k = 3 ∨ k = 4 ∨ k = 5 ∨ k = 6 ∨ k = 7 ∨ k = 8 ∨ k = 9 ∨ k = 10 ∨ k = 11 ∨ k = 12 ∨ k = 13 := by omega
  rcases hc with rfl | rfl | rfl | rfl | rfl | rfl | rfl | rfl | rfl | rfl | rfl | rfl | rfl | rfl <;> (simp [okB, setP, hv]; decide)
theorem unlike {S U : ByteArray} (h : S ≠ U) : (S.toList == U.toList) = false := by
  rw [beq_eq_false_iff_ne]
  intro e
  apply h
  rw [ByteArray.toList_eq, ByteArray.toList_eq] at e
  exact ByteArray.ext (Array.toList_inj.1 e)
theorem least_ok0 (v : Int) (h0 : 1 ≤ v) (h1 : v ≤ 100) : okB ⟨v, 1, 0, 0, 0, 0, 0, 0, 0, 0, 0, 0, 0, 0, 0, 0, 0, 0, 0⟩ = true := by
  have hv : ∀ a b : Int, a ≤ 1 → 100 ≤ b → inB v a b = true := fun a b ha hb => inB_yes (by omega) (by omega)
  simp [okB, hv]
  decide
theorem least_ok2 (v : Int) (h0 : 1 ≤ v) (h1 : v ≤ 100) : okB ⟨1, 1, v, 0, 0, 0, 0, 0, 0, 0, 0, 0, 0, 0, 0, 0, 0, 0, 0⟩ = true := by
  have hv : ∀ a b : Int, a ≤ 1 → 100 ≤ b → inB v a b = true := fun a b ha hb => inB_yes (by omega) (by omega)
  simp [okB, hv]
  decide
theorem least_ok3 (v : Int) (h0 : 1 ≤ v) (h1 : v ≤ 100) : okB ⟨1, 1, 0, v, 0, 0, 0, 0, 0, 0, 0, 0, 0, 0, 0, 0, 0, 0, 0⟩ = true := by
  have hv : ∀ a b : Int, a ≤ 1 → 100 ≤ b → inB v a b = true := fun a b ha hb => inB_yes (by omega) (by omega)
  simp [okB, hv]
  decide
theorem least_ok4 (v : Int) (h0 : 1 ≤ v) (h1 : v ≤ 100) : okB ⟨1, 1, 0, 0, v, 0, 0, 0, 0, 0, 0, 0, 0, 0, 0, 0, 0, 0, 0⟩ = true := by
  have hv : ∀ a b : Int, a ≤ 1 → 100 ≤ b → inB v a b = true := fun a b ha hb => inB_yes (by omega) (by omega)
  simp [okB, hv]
  decide

set_option maxRecDepth 10000 in
set_option maxHeartbeats 8000000 in
theorem nodeApart_same (how v0 w0 : Int) (w : World) (hvw : v0 % 100 = w0 % 100) : Calls Try.prog 6 #[.int .i64 how, .int .i64 v0, .int .i64 w0] w fun e w' => e = .returned (.bool true) ∧ Below w.heap.size w w' := by
  have r0 := Int.emod_nonneg v0 (show (100 : Int) ≠ 0 by decide)
  have r1 := Int.emod_lt_of_pos v0 (show (0 : Int) < 100 by decide)
  have s0 := Int.emod_nonneg w0 (show (100 : Int) ≠ 0 by decide)
  have s1 := Int.emod_lt_of_pos w0 (show (0 : Int) < 100 by decide)
  have t0 := Int.emod_nonneg how (show (5 : Int) ≠ 0 by decide)
  have t1 := Int.emod_lt_of_pos how (show (0 : Int) < 5 by decide)
  have PLv := ndhid (fun w => gplace_t v0 100 w (by decide) (by decide))
  have PLw := ndhid (fun w => gplace_t w0 100 w (by decide) (by decide))
  have PLh := ndhid (fun w => gplace_t how 5 w (by decide) (by decide))
  rw [← hvw] at PLw
  clear hvw s0 s1
  obtain ⟨p, hp⟩ : ∃ p : Nat, v0 % 100 = (p : Int) := ⟨(v0 % 100).toNat, by omega⟩
  rw [hp] at PLv PLw r0 r1
  obtain ⟨A, hA⟩ : ∃ A : Nat, 1 + (p : Int) = (A : Int) := ⟨1 + p, by omega⟩
  have hp2 : p < 100 := by omega
  have hA2 : 1 ≤ A ∧ A ≤ 100 := by omega
  have hA3 := hA2.1
  have hA4 := hA2.2
  clear hp r0 r1 hA2
  generalize how % 5 = h at *
  have HC : Hid (h = 0 ∨ h = 1 ∨ h = 2 ∨ h = 3 ∨ h = 4) := by show _ ∨ _; omega
  clear t0 t1
  have AW := ndhid awake_t
  go_enter Try.func6, Try.ntmps6
  go_wp2_with fail
  refine (PLv.out _).mono ?_
  rintro e w' ⟨rfl, rfl⟩
  clear PLv
  go_wp2_with fail
  refine (PLw.out _).mono ?_
  rintro e w' ⟨rfl, rfl⟩
  clear PLw
  go_wp2_with (first | (refine wpList_store_row rfl 24 (.tmp 9) (.tmp 21) rfl w.heap.size (nodeC leastX) rfl rfl 24 (nodeC Nd.z) (heap_alloc_new _ _) Try.nodeSize rfl (nodeC_one leastX) ?_; rw [World.setRow_alloc_new]) | (refine wpList_load_row rfl 24 (.tmp 9) rfl w.heap.size rfl 24 (nodeC leastX) (0, 0) _ (heap_alloc_new _ _) Try.underlying24 rfl Try.nodeSize ?_) | (refine wpList_store_row rfl 24 (.tmp 10) (.tmp 22) rfl (w.heap.size + 1) (nodeC leastX) rfl rfl 24 (nodeC Nd.z) (heap_alloc2_new _ _ _) Try.nodeSize rfl (nodeC_one leastX) ?_) | fail)
  generalize hW : World.setRow _ _ _ = W
  have HX : Hid (W.heap[w.heap.size]? = some (.cells (nodeC leastX) 24 (0, 0))) := by rw [← hW]; show _ = _; rw [setRow_other _ _ _ _ (by omega)]; exact heap_alloc2_old _ _ _
  have HY : Hid (W.heap[w.heap.size + 1]? = some (.cells (nodeC leastX) 24 (0, 0))) := by rw [← hW]; exact setRow_heap _ _ _ _ _ _ (heap_alloc2_new _ _ _)
  have HB : Hid (Below w.heap.size w W) := by rw [← hW]; exact below_setRow (((Below.refl _ w).alloc (Nat.le_refl _) _).alloc (by simp) _) (by omega) _
  have hwW : w.heap.size + 1 < W.heap.size := (Array.getElem?_eq_some_iff.1 HY.out).1
  clear hW
  refine (PLh.out _).mono ?_
  rintro e w' ⟨rfl, rfl⟩
  clear PLh
  rcases HC.out with rfl | rfl | rfl | rfl | rfl
  · clear HC
    have d0 : W.cell? ⟨w.heap.size, 0, none⟩ = some (.int .i64 1) := (cell_of_row W _ _ _ _ _ HX.out).trans rfl
    have d1 : W.cell? ⟨w.heap.size + 1, 0, none⟩ = some (.int .i64 1) := (cell_of_row W _ _ _ _ _ HY.out).trans rfl
    have y0 := frozen_of_row W w.heap.size (0) _ _ HX.out
    have y1 := frozen_of_row W (w.heap.size + 1) (0) _ _ HY.out
    have okA : okB ⟨A, 1, 0, 0, 0, 0, 0, 0, 0, 0, 0, 0, 0, 0, 0, 0, 0, 0, 0⟩ = true := least_ok0 A (by omega) (by omega)
    have PA := ndhid (fun w1 => nput_t ⟨A, 1, 0, 0, 0, 0, 0, 0, 0, 0, 0, 0, 0, 0, 0, 0, 0, 0, 0⟩ w1)
    rw [okA] at PA
    have PC := PA
    generalize hV1 : W.setCell ⟨w.heap.size, 0, none⟩ (.int .i64 A) = V1
    have HXa : V1.heap[w.heap.size]? = some (.cells (nodeC ⟨A, 1, 0, 0, 0, 0, 0, 0, 0, 0, 0, 0, 0, 0, 0, 0, 0, 0, 0⟩) 24 (0, 0)) := by rw [← hV1]; exact heap_setCell_same _ _ _ _ _ _ HX.out
    have HYa : V1.heap[w.heap.size + 1]? = some (.cells (nodeC leastX) 24 (0, 0)) := by rw [← hV1]; exact (heap_setCell_other _ _ _ _ (by simp)).trans HY.out
    generalize hV2 : V1.setCell ⟨w.heap.size + 1, 0, none⟩ (.int .i64 A) = V2
    have HXb : V2.heap[w.heap.size]? = some (.cells (nodeC ⟨A, 1, 0, 0, 0, 0, 0, 0, 0, 0, 0, 0, 0, 0, 0, 0, 0, 0, 0⟩) 24 (0, 0)) := by rw [← hV2]; exact (heap_setCell_other _ _ _ _ (by simp)).trans HXa
    have HYb : V2.heap[w.heap.size + 1]? = some (.cells (nodeC ⟨A, 1, 0, 0, 0, 0, 0, 0, 0, 0, 0, 0, 0, 0, 0, 0, 0, 0, 0⟩) 24 (0, 0)) := by rw [← hV2]; exact heap_setCell_same _ _ _ _ _ _ HYa
    have HB2 : Hid (Below w.heap.size w V2) := by rw [← hV2, ← hV1]; exact (HB.out.setCell (Nat.le_refl _) _).setCell (by dsimp only; omega) _
    have hw2 : w.heap.size + 1 < V2.heap.size := (Array.getElem?_eq_some_iff.1 HYb).1
    rw [← hV1] at hV2
    have HXc : Hid (((W.setCell ⟨w.heap.size, 0, none⟩ (.int .i64 A)).setCell ⟨w.heap.size + 1, 0, none⟩ (.int .i64 A)).heap[w.heap.size]? = some (.cells (nodeC ⟨A, 1, 0, 0, 0, 0, 0, 0, 0, 0, 0, 0, 0, 0, 0, 0, 0, 0, 0⟩) 24 (0, 0))) := by rw [hV2]; exact HXb
    have HV2 := ndhid hV2
    have HXb := ndhid HXb
    have HYb := ndhid HYb
    clear hV2 hV1 HXa HYa HX HY HB
    go_wp2_with (first | (refine wpList_load_row rfl 24 (.tmp 9) rfl w.heap.size rfl 24 (nodeC ⟨A, 1, 0, 0, 0, 0, 0, 0, 0, 0, 0, 0, 0, 0, 0, 0, 0, 0, 0⟩) (0, 0) _ HXc.out Try.underlying24 rfl Try.nodeSize ?_) | fail)
    rw [HV2.out]
    refine (PA.out _).mono ?_
    rintro e w1 ⟨rfl, hb1⟩
    have HY1 : Hid (w1.heap[w.heap.size + 1]? = some (.cells (nodeC ⟨A, 1, 0, 0, 0, 0, 0, 0, 0, 0, 0, 0, 0, 0, 0, 0, 0, 0, 0⟩) 24 (0, 0))) := (hb1.block _ hw2).trans HYb.out
    have HB3 : Hid (Below w.heap.size w w1) := HB2.out.trans (hb1.mono HB2.out.size)
    clear hb1 HXb HXc HYb HB2 PA HV2 d0 d1 y0 y1
    go_wp2_with (first | (refine wpList_load_row rfl 24 (.tmp 10) rfl (w.heap.size + 1) rfl 24 (nodeC ⟨A, 1, 0, 0, 0, 0, 0, 0, 0, 0, 0, 0, 0, 0, 0, 0, 0, 0, 0⟩) (0, 0) _ HY1.out Try.underlying24 rfl Try.nodeSize ?_) | fail)
    refine (PC.out _).mono ?_
    rintro e w2 ⟨rfl, hb2⟩
    have HB4 : Hid (Below w.heap.size w w2) := HB3.out.trans (hb2.mono HB3.out.size)
    clear hb2 HY1 HB3 PC
    generalize putS ⟨A, 1, 0, 0, 0, 0, 0, 0, 0, 0, 0, 0, 0, 0, 0, 0, 0, 0, 0⟩ = S at *
    go_wp2_with fail
    refine (AW.out _).mono ?_
    rintro e w6 ⟨rfl, hb6⟩
    have HB6 : Hid (Below w.heap.size w w6) := HB4.out.trans (hb6.mono HB4.out.size)
    clear hb6 HB4 AW
    go_wp2_with fail
    go_ret
    exact ⟨rfl, HB6.out⟩
  · clear HC
    have d0 : W.cell? ⟨w.heap.size, 2, none⟩ = some (.int .i64 0) := (cell_of_row W _ _ _ _ _ HX.out).trans rfl
    have d1 : W.cell? ⟨w.heap.size + 1, 2, none⟩ = some (.int .i64 0) := (cell_of_row W _ _ _ _ _ HY.out).trans rfl
    have y0 := frozen_of_row W w.heap.size (2) _ _ HX.out
    have y1 := frozen_of_row W (w.heap.size + 1) (2) _ _ HY.out
    have okA : okB ⟨1, 1, A, 0, 0, 0, 0, 0, 0, 0, 0, 0, 0, 0, 0, 0, 0, 0, 0⟩ = true := least_ok2 A (by omega) (by omega)
    have PA := ndhid (fun w1 => nput_t ⟨1, 1, A, 0, 0, 0, 0, 0, 0, 0, 0, 0, 0, 0, 0, 0, 0, 0, 0⟩ w1)
    rw [okA] at PA
    have PC := PA
    generalize hV1 : W.setCell ⟨w.heap.size, 2, none⟩ (.int .i64 A) = V1
    have HXa : V1.heap[w.heap.size]? = some (.cells (nodeC ⟨1, 1, A, 0, 0, 0, 0, 0, 0, 0, 0, 0, 0, 0, 0, 0, 0, 0, 0⟩) 24 (0, 0)) := by rw [← hV1]; exact heap_setCell_same _ _ _ _ _ _ HX.out
    have HYa : V1.heap[w.heap.size + 1]? = some (.cells (nodeC leastX) 24 (0, 0)) := by rw [← hV1]; exact (heap_setCell_other _ _ _ _ (by simp)).trans HY.out
    generalize hV2 : V1.setCell ⟨w.heap.size + 1, 2, none⟩ (.int .i64 A) = V2
    have HXb : V2.heap[w.heap.size]? = some (.cells (nodeC ⟨1, 1, A, 0, 0, 0, 0, 0, 0, 0, 0, 0, 0, 0, 0, 0, 0, 0, 0⟩) 24 (0, 0)) := by rw [← hV2]; exact (heap_setCell_other _ _ _ _ (by simp)).trans HXa
    have HYb : V2.heap[w.heap.size + 1]? = some (.cells (nodeC ⟨1, 1, A, 0, 0, 0, 0, 0, 0, 0, 0, 0, 0, 0, 0, 0, 0, 0, 0⟩) 24 (0, 0)) := by rw [← hV2]; exact heap_setCell_same _ _ _ _ _ _ HYa
    have HB2 : Hid (Below w.heap.size w V2) := by rw [← hV2, ← hV1]; exact (HB.out.setCell (Nat.le_refl _) _).setCell (by dsimp only; omega) _
    have hw2 : w.heap.size + 1 < V2.heap.size := (Array.getElem?_eq_some_iff.1 HYb).1
    rw [← hV1] at hV2
    have HXc : Hid (((W.setCell ⟨w.heap.size, 2, none⟩ (.int .i64 A)).setCell ⟨w.heap.size + 1, 2, none⟩ (.int .i64 A)).heap[w.heap.size]? = some (.cells (nodeC ⟨1, 1, A, 0, 0, 0, 0, 0, 0, 0, 0, 0, 0, 0, 0, 0, 0, 0, 0⟩) 24 (0, 0))) := by rw [hV2]; exact HXb
    have HV2 := ndhid hV2
    have HXb := ndhid HXb
    have HYb := ndhid HYb
    clear hV2 hV1 HXa HYa HX HY HB
    go_wp2_with (first | (refine wpList_load_row rfl 24 (.tmp 9) rfl w.heap.size rfl 24 (nodeC ⟨1, 1, A, 0, 0, 0, 0, 0, 0, 0, 0, 0, 0, 0, 0, 0, 0, 0, 0⟩) (0, 0) _ HXc.out Try.underlying24 rfl Try.nodeSize ?_) | fail)
    rw [HV2.out]
    refine (PA.out _).mono ?_
    rintro e w1 ⟨rfl, hb1⟩
    have HY1 : Hid (w1.heap[w.heap.size + 1]? = some (.cells (nodeC ⟨1, 1, A, 0, 0, 0, 0, 0, 0, 0, 0, 0, 0, 0, 0, 0, 0, 0, 0⟩) 24 (0, 0))) := (hb1.block _ hw2).trans HYb.out
    have HB3 : Hid (Below w.heap.size w w1) := HB2.out.trans (hb1.mono HB2.out.size)
    clear hb1 HXb HXc HYb HB2 PA HV2 d0 d1 y0 y1
    go_wp2_with (first | (refine wpList_load_row rfl 24 (.tmp 10) rfl (w.heap.size + 1) rfl 24 (nodeC ⟨1, 1, A, 0, 0, 0, 0, 0, 0, 0, 0, 0, 0, 0, 0, 0, 0, 0, 0⟩) (0, 0) _ HY1.out Try.underlying24 rfl Try.nodeSize ?_) | fail)
    refine (PC.out _).mono ?_
    rintro e w2 ⟨rfl, hb2⟩
    have HB4 : Hid (Below w.heap.size w w2) := HB3.out.trans (hb2.mono HB3.out.size)
    clear hb2 HY1 HB3 PC
    generalize putS ⟨1, 1, A, 0, 0, 0, 0, 0, 0, 0, 0, 0, 0, 0, 0, 0, 0, 0, 0⟩ = S at *
    go_wp2_with fail
    refine (AW.out _).mono ?_
    rintro e w6 ⟨rfl, hb6⟩
    have HB6 : Hid (Below w.heap.size w w6) := HB4.out.trans (hb6.mono HB4.out.size)
    clear hb6 HB4 AW
    go_wp2_with fail
    go_ret
    exact ⟨rfl, HB6.out⟩
  · clear HC
    have d0 : W.cell? ⟨w.heap.size, 3, none⟩ = some (.int .i64 0) := (cell_of_row W _ _ _ _ _ HX.out).trans rfl
    have d1 : W.cell? ⟨w.heap.size + 1, 3, none⟩ = some (.int .i64 0) := (cell_of_row W _ _ _ _ _ HY.out).trans rfl
    have y0 := frozen_of_row W w.heap.size (3) _ _ HX.out
    have y1 := frozen_of_row W (w.heap.size + 1) (3) _ _ HY.out
    have okA : okB ⟨1, 1, 0, A, 0, 0, 0, 0, 0, 0, 0, 0, 0, 0, 0, 0, 0, 0, 0⟩ = true := least_ok3 A (by omega) (by omega)
    have PA := ndhid (fun w1 => nput_t ⟨1, 1, 0, A, 0, 0, 0, 0, 0, 0, 0, 0, 0, 0, 0, 0, 0, 0, 0⟩ w1)
    rw [okA] at PA
    have PC := PA
    generalize hV1 : W.setCell ⟨w.heap.size, 3, none⟩ (.int .i64 A) = V1
    have HXa : V1.heap[w.heap.size]? = some (.cells (nodeC ⟨1, 1, 0, A, 0, 0, 0, 0, 0, 0, 0, 0, 0, 0, 0, 0, 0, 0, 0⟩) 24 (0, 0)) := by rw [← hV1]; exact heap_setCell_same _ _ _ _ _ _ HX.out
    have HYa : V1.heap[w.heap.size + 1]? = some (.cells (nodeC leastX) 24 (0, 0)) := by rw [← hV1]; exact (heap_setCell_other _ _ _ _ (by simp)).trans HY.out
    generalize hV2 : V1.setCell ⟨w.heap.size + 1, 3, none⟩ (.int .i64 A) = V2
    have HXb : V2.heap[w.heap.size]? = some (.cells (nodeC ⟨1, 1, 0, A, 0, 0, 0, 0, 0, 0, 0, 0, 0, 0, 0, 0, 0, 0, 0⟩) 24 (0, 0)) := by rw [← hV2]; exact (heap_setCell_other _ _ _ _ (by simp)).trans HXa
    have HYb : V2.heap[w.heap.size + 1]? = some (.cells (nodeC ⟨1, 1, 0, A, 0, 0, 0, 0, 0, 0, 0, 0, 0, 0, 0, 0, 0, 0, 0⟩) 24 (0, 0)) := by rw [← hV2]; exact heap_setCell_same _ _ _ _ _ _ HYa
    have HB2 : Hid (Below w.heap.size w V2) := by rw [← hV2, ← hV1]; exact (HB.out.setCell (Nat.le_refl _) _).setCell (by dsimp only; omega) _
    have hw2 : w.heap.size + 1 < V2.heap.size := (Array.getElem?_eq_some_iff.1 HYb).1
    rw [← hV1] at hV2
    have HXc : Hid (((W.setCell ⟨w.heap.size, 3, none⟩ (.int .i64 A)).setCell ⟨w.heap.size + 1, 3, none⟩ (.int .i64 A)).heap[w.heap.size]? = some (.cells (nodeC ⟨1, 1, 0, A, 0, 0, 0, 0, 0, 0, 0, 0, 0, 0, 0, 0, 0, 0, 0⟩) 24 (0, 0))) := by rw [hV2]; exact HXb
    have HV2 := ndhid hV2
    have HXb := ndhid HXb
    have HYb := ndhid HYb
    clear hV2 hV1 HXa HYa HX HY HB
    go_wp2_with (first | (refine wpList_load_row rfl 24 (.tmp 9) rfl w.heap.size rfl 24 (nodeC ⟨1, 1, 0, A, 0, 0, 0, 0, 0, 0, 0, 0, 0, 0, 0, 0, 0, 0, 0⟩) (0, 0) _ HXc.out Try.underlying24 rfl Try.nodeSize ?_) | fail)
    rw [HV2.out]
    refine (PA.out _).mono ?_
    rintro e w1 ⟨rfl, hb1⟩
    have HY1 : Hid (w1.heap[w.heap.size + 1]? = some (.cells (nodeC ⟨1, 1, 0, A, 0, 0, 0, 0, 0, 0, 0, 0, 0, 0, 0, 0, 0, 0, 0⟩) 24 (0, 0))) := (hb1.block _ hw2).trans HYb.out
    have HB3 : Hid (Below w.heap.size w w1) := HB2.out.trans (hb1.mono HB2.out.size)
    clear hb1 HXb HXc HYb HB2 PA HV2 d0 d1 y0 y1
    go_wp2_with (first | (refine wpList_load_row rfl 24 (.tmp 10) rfl (w.heap.size + 1) rfl 24 (nodeC ⟨1, 1, 0, A, 0, 0, 0, 0, 0, 0, 0, 0, 0, 0, 0, 0, 0, 0, 0⟩) (0, 0) _ HY1.out Try.underlying24 rfl Try.nodeSize ?_) | fail)
    refine (PC.out _).mono ?_
    rintro e w2 ⟨rfl, hb2⟩
    have HB4 : Hid (Below w.heap.size w w2) := HB3.out.trans (hb2.mono HB3.out.size)
    clear hb2 HY1 HB3 PC
    generalize putS ⟨1, 1, 0, A, 0, 0, 0, 0, 0, 0, 0, 0, 0, 0, 0, 0, 0, 0, 0⟩ = S at *
    go_wp2_with fail
    refine (AW.out _).mono ?_
    rintro e w6 ⟨rfl, hb6⟩
    have HB6 : Hid (Below w.heap.size w w6) := HB4.out.trans (hb6.mono HB4.out.size)
    clear hb6 HB4 AW
    go_wp2_with fail
    go_ret
    exact ⟨rfl, HB6.out⟩
  · clear HC
    have d0 : W.cell? ⟨w.heap.size, 4, none⟩ = some (.int .i64 0) := (cell_of_row W _ _ _ _ _ HX.out).trans rfl
    have d1 : W.cell? ⟨w.heap.size + 1, 4, none⟩ = some (.int .i64 0) := (cell_of_row W _ _ _ _ _ HY.out).trans rfl
    have y0 := frozen_of_row W w.heap.size (4) _ _ HX.out
    have y1 := frozen_of_row W (w.heap.size + 1) (4) _ _ HY.out
    have okA : okB ⟨1, 1, 0, 0, A, 0, 0, 0, 0, 0, 0, 0, 0, 0, 0, 0, 0, 0, 0⟩ = true := least_ok4 A (by omega) (by omega)
    have PA := ndhid (fun w1 => nput_t ⟨1, 1, 0, 0, A, 0, 0, 0, 0, 0, 0, 0, 0, 0, 0, 0, 0, 0, 0⟩ w1)
    rw [okA] at PA
    have PC := PA
    generalize hV1 : W.setCell ⟨w.heap.size, 4, none⟩ (.int .i64 A) = V1
    have HXa : V1.heap[w.heap.size]? = some (.cells (nodeC ⟨1, 1, 0, 0, A, 0, 0, 0, 0, 0, 0, 0, 0, 0, 0, 0, 0, 0, 0⟩) 24 (0, 0)) := by rw [← hV1]; exact heap_setCell_same _ _ _ _ _ _ HX.out
    have HYa : V1.heap[w.heap.size + 1]? = some (.cells (nodeC leastX) 24 (0, 0)) := by rw [← hV1]; exact (heap_setCell_other _ _ _ _ (by simp)).trans HY.out
    generalize hV2 : V1.setCell ⟨w.heap.size + 1, 4, none⟩ (.int .i64 A) = V2
    have HXb : V2.heap[w.heap.size]? = some (.cells (nodeC ⟨1, 1, 0, 0, A, 0, 0, 0, 0, 0, 0, 0, 0, 0, 0, 0, 0, 0, 0⟩) 24 (0, 0)) := by rw [← hV2]; exact (heap_setCell_other _ _ _ _ (by simp)).trans HXa
    have HYb : V2.heap[w.heap.size + 1]? = some (.cells (nodeC ⟨1, 1, 0, 0, A, 0, 0, 0, 0, 0, 0, 0, 0, 0, 0, 0, 0, 0, 0⟩) 24 (0, 0)) := by rw [← hV2]; exact heap_setCell_same _ _ _ _ _ _ HYa
    have HB2 : Hid (Below w.heap.size w V2) := by rw [← hV2, ← hV1]; exact (HB.out.setCell (Nat.le_refl _) _).setCell (by dsimp only; omega) _
    have hw2 : w.heap.size + 1 < V2.heap.size := (Array.getElem?_eq_some_iff.1 HYb).1
    rw [← hV1] at hV2
    have HXc : Hid (((W.setCell ⟨w.heap.size, 4, none⟩ (.int .i64 A)).setCell ⟨w.heap.size + 1, 4, none⟩ (.int .i64 A)).heap[w.heap.size]? = some (.cells (nodeC ⟨1, 1, 0, 0, A, 0, 0, 0, 0, 0, 0, 0, 0, 0, 0, 0, 0, 0, 0⟩) 24 (0, 0))) := by rw [hV2]; exact HXb
    have HV2 := ndhid hV2
    have HXb := ndhid HXb
    have HYb := ndhid HYb
    clear hV2 hV1 HXa HYa HX HY HB
    go_wp2_with (first | (refine wpList_load_row rfl 24 (.tmp 9) rfl w.heap.size rfl 24 (nodeC ⟨1, 1, 0, 0, A, 0, 0, 0, 0, 0, 0, 0, 0, 0, 0, 0, 0, 0, 0⟩) (0, 0) _ HXc.out Try.underlying24 rfl Try.nodeSize ?_) | fail)
    rw [HV2.out]
    refine (PA.out _).mono ?_
    rintro e w1 ⟨rfl, hb1⟩
    have HY1 : Hid (w1.heap[w.heap.size + 1]? = some (.cells (nodeC ⟨1, 1, 0, 0, A, 0, 0, 0, 0, 0, 0, 0, 0, 0, 0, 0, 0, 0, 0⟩) 24 (0, 0))) := (hb1.block _ hw2).trans HYb.out
    have HB3 : Hid (Below w.heap.size w w1) := HB2.out.trans (hb1.mono HB2.out.size)
    clear hb1 HXb HXc HYb HB2 PA HV2 d0 d1 y0 y1
    go_wp2_with (first | (refine wpList_load_row rfl 24 (.tmp 10) rfl (w.heap.size + 1) rfl 24 (nodeC ⟨1, 1, 0, 0, A, 0, 0, 0, 0, 0, 0, 0, 0, 0, 0, 0, 0, 0, 0⟩) (0, 0) _ HY1.out Try.underlying24 rfl Try.nodeSize ?_) | fail)
    refine (PC.out _).mono ?_
    rintro e w2 ⟨rfl, hb2⟩
    have HB4 : Hid (Below w.heap.size w w2) := HB3.out.trans (hb2.mono HB3.out.size)
    clear hb2 HY1 HB3 PC
    generalize putS ⟨1, 1, 0, 0, A, 0, 0, 0, 0, 0, 0, 0, 0, 0, 0, 0, 0, 0, 0⟩ = S at *
    go_wp2_with fail
    refine (AW.out _).mono ?_
    rintro e w6 ⟨rfl, hb6⟩
    have HB6 : Hid (Below w.heap.size w w6) := HB4.out.trans (hb6.mono HB4.out.size)
    clear hb6 HB4 AW
    go_wp2_with fail
    go_ret
    exact ⟨rfl, HB6.out⟩
  · clear HC
    obtain ⟨j, hj⟩ : ∃ j : Nat, (A : Int) % 14 = (j : Int) := ⟨((A : Int) % 14).toNat, by omega⟩
    have hj2 : j < 14 := by omega
    have d0 : W.cell? ⟨w.heap.size, 5 + j, none⟩ = some (.int .i64 (leastX.ptr j)) := (cell_of_row W _ _ _ _ _ HX.out).trans (node_cell _ j hj2)
    have d1 : W.cell? ⟨w.heap.size + 1, 5 + j, none⟩ = some (.int .i64 (leastX.ptr j)) := (cell_of_row W _ _ _ _ _ HY.out).trans (node_cell _ j hj2)
    have y0 := frozen_of_row W w.heap.size (5 + j) _ _ HX.out
    have y1 := frozen_of_row W (w.heap.size + 1) (5 + j) _ _ HY.out
    have okA : okB (setP leastX j A) = true := setP_ok j A hj2 (by omega) (by omega)
    have PA := ndhid (fun w1 => nput_t (setP leastX j A) w1)
    rw [okA] at PA
    have PC := PA
    generalize hV1 : W.setCell ⟨w.heap.size, 5 + j, none⟩ (.int .i64 A) = V1
    have HXa : V1.heap[w.heap.size]? = some (.cells (nodeC (setP leastX j A)) 24 (0, 0)) := by rw [← hV1, ← setP_set leastX j A hj2]; exact heap_setCell_same _ _ _ _ _ _ HX.out
    have HYa : V1.heap[w.heap.size + 1]? = some (.cells (nodeC leastX) 24 (0, 0)) := by rw [← hV1]; exact (heap_setCell_other _ _ _ _ (by simp)).trans HY.out
    generalize hV2 : V1.setCell ⟨w.heap.size + 1, 5 + j, none⟩ (.int .i64 A) = V2
    have HXb : V2.heap[w.heap.size]? = some (.cells (nodeC (setP leastX j A)) 24 (0, 0)) := by rw [← hV2]; exact (heap_setCell_other _ _ _ _ (by simp)).trans HXa
    have HYb : V2.heap[w.heap.size + 1]? = some (.cells (nodeC (setP leastX j A)) 24 (0, 0)) := by rw [← hV2, ← setP_set leastX j A hj2]; exact heap_setCell_same _ _ _ _ _ _ HYa
    have HB2 : Hid (Below w.heap.size w V2) := by rw [← hV2, ← hV1]; exact (HB.out.setCell (Nat.le_refl _) _).setCell (by dsimp only; omega) _
    have hw2 : w.heap.size + 1 < V2.heap.size := (Array.getElem?_eq_some_iff.1 HYb).1
    rw [← hV1] at hV2
    have HXc : Hid (((W.setCell ⟨w.heap.size, 5 + j, none⟩ (.int .i64 A)).setCell ⟨w.heap.size + 1, 5 + j, none⟩ (.int .i64 A)).heap[w.heap.size]? = some (.cells (nodeC (setP leastX j A)) 24 (0, 0))) := by rw [hV2]; exact HXb
    have HV2 := ndhid hV2
    have HXb := ndhid HXb
    have HYb := ndhid HYb
    clear hV2 hV1 HXa HYa HX HY HB
    go_wp2_with (first | (refine wpList_load_row rfl 24 (.tmp 9) rfl w.heap.size rfl 24 (nodeC (setP leastX j A)) (0, 0) _ HXc.out Try.underlying24 rfl Try.nodeSize ?_) | fail)
    rw [HV2.out]
    refine (PA.out _).mono ?_
    rintro e w1 ⟨rfl, hb1⟩
    have HY1 : Hid (w1.heap[w.heap.size + 1]? = some (.cells (nodeC (setP leastX j A)) 24 (0, 0))) := (hb1.block _ hw2).trans HYb.out
    have HB3 : Hid (Below w.heap.size w w1) := HB2.out.trans (hb1.mono HB2.out.size)
    clear hb1 HXb HXc HYb HB2 PA HV2 d0 d1 y0 y1
    go_wp2_with (first | (refine wpList_load_row rfl 24 (.tmp 10) rfl (w.heap.size + 1) rfl 24 (nodeC (setP leastX j A)) (0, 0) _ HY1.out Try.underlying24 rfl Try.nodeSize ?_) | fail)
    refine (PC.out _).mono ?_
    rintro e w2 ⟨rfl, hb2⟩
    have HB4 : Hid (Below w.heap.size w w2) := HB3.out.trans (hb2.mono HB3.out.size)
    clear hb2 HY1 HB3 PC
    generalize putS (setP leastX j A) = S at *
    go_wp2_with fail
    refine (AW.out _).mono ?_
    rintro e w6 ⟨rfl, hb6⟩
    have HB6 : Hid (Below w.heap.size w w6) := HB4.out.trans (hb6.mono HB4.out.size)
    clear hb6 HB4 AW
    go_wp2_with fail
    go_ret
    exact ⟨rfl, HB6.out⟩

set_option maxRecDepth 10000 in
set_option maxHeartbeats 8000000 in
theorem nodeApart_other (how v0 w0 : Int) (w : World) (hvw : v0 % 100 ≠ w0 % 100) : Calls Try.prog 6 #[.int .i64 how, .int .i64 v0, .int .i64 w0] w fun e w' => e = .returned (.bool true) ∧ Below w.heap.size w w' := by
  have r0 := Int.emod_nonneg v0 (show (100 : Int) ≠ 0 by decide)
  have r1 := Int.emod_lt_of_pos v0 (show (0 : Int) < 100 by decide)
  have s0 := Int.emod_nonneg w0 (show (100 : Int) ≠ 0 by decide)
  have s1 := Int.emod_lt_of_pos w0 (show (0 : Int) < 100 by decide)
  have t0 := Int.emod_nonneg how (show (5 : Int) ≠ 0 by decide)
  have t1 := Int.emod_lt_of_pos how (show (0 : Int) < 5 by decide)
  have PLv := ndhid (fun w => gplace_t v0 100 w (by decide) (by decide))
  have PLw := ndhid (fun w => gplace_t w0 100 w (by decide) (by decide))
  have PLh := ndhid (fun w => gplace_t how 5 w (by decide) (by decide))
  obtain ⟨p, hp⟩ : ∃ p : Nat, v0 % 100 = (p : Int) := ⟨(v0 % 100).toNat, by omega⟩
  obtain ⟨q, hq⟩ : ∃ q : Nat, w0 % 100 = (q : Int) := ⟨(w0 % 100).toNat, by omega⟩
  rw [hp, hq] at hvw
  rw [hp] at PLv r0 r1
  rw [hq] at PLw s0 s1
  obtain ⟨A, hA⟩ : ∃ A : Nat, 1 + (p : Int) = (A : Int) := ⟨1 + p, by omega⟩
  obtain ⟨C, hC⟩ : ∃ C : Nat, 1 + (q : Int) = (C : Int) := ⟨1 + q, by omega⟩
  have hp2 : p < 100 := by omega
  have hq2 : q < 100 := by omega
  have hA2 : 1 ≤ A ∧ A ≤ 100 := by omega
  have hC2 : 1 ≤ C ∧ C ≤ 100 := by omega
  have hA3 := hA2.1
  have hA4 := hA2.2
  have hC3 := hC2.1
  have hC4 := hC2.2
  have hAC : A ≠ C := by omega
  have hAC1 : ((A : Int) == (C : Int)) = false := by rw [beq_eq_false_iff_ne]; omega
  have hAC2 : (A == C) = false := by rw [beq_eq_false_iff_ne]; exact hAC
  clear hp hq r0 r1 s0 s1 hA2 hC2 hvw
  generalize how % 5 = h at *
  have HC : Hid (h = 0 ∨ h = 1 ∨ h = 2 ∨ h = 3 ∨ h = 4) := by show _ ∨ _; omega
  clear t0 t1
  have AW := ndhid awake_t
  go_enter Try.func6, Try.ntmps6
  go_wp2_with fail
  refine (PLv.out _).mono ?_
  rintro e w' ⟨rfl, rfl⟩
  clear PLv
  go_wp2_with fail
  refine (PLw.out _).mono ?_
  rintro e w' ⟨rfl, rfl⟩
  clear PLw
  go_wp2_with (first | (refine wpList_store_row rfl 24 (.tmp 9) (.tmp 21) rfl w.heap.size (nodeC leastX) rfl rfl 24 (nodeC Nd.z) (heap_alloc_new _ _) Try.nodeSize rfl (nodeC_one leastX) ?_; rw [World.setRow_alloc_new]) | (refine wpList_load_row rfl 24 (.tmp 9) rfl w.heap.size rfl 24 (nodeC leastX) (0, 0) _ (heap_alloc_new _ _) Try.underlying24 rfl Try.nodeSize ?_) | (refine wpList_store_row rfl 24 (.tmp 10) (.tmp 22) rfl (w.heap.size + 1) (nodeC leastX) rfl rfl 24 (nodeC Nd.z) (heap_alloc2_new _ _ _) Try.nodeSize rfl (nodeC_one leastX) ?_) | fail)
  generalize hW : World.setRow _ _ _ = W
  have HX : Hid (W.heap[w.heap.size]? = some (.cells (nodeC leastX) 24 (0, 0))) := by rw [← hW]; show _ = _; rw [setRow_other _ _ _ _ (by omega)]; exact heap_alloc2_old _ _ _
  have HY : Hid (W.heap[w.heap.size + 1]? = some (.cells (nodeC leastX) 24 (0, 0))) := by rw [← hW]; exact setRow_heap _ _ _ _ _ _ (heap_alloc2_new _ _ _)
  have HB : Hid (Below w.heap.size w W) := by rw [← hW]; exact below_setRow (((Below.refl _ w).alloc (Nat.le_refl _) _).alloc (by simp) _) (by omega) _
  have hwW : w.heap.size + 1 < W.heap.size := (Array.getElem?_eq_some_iff.1 HY.out).1
  clear hW
  refine (PLh.out _).mono ?_
  rintro e w' ⟨rfl, rfl⟩
  clear PLh
  rcases HC.out with rfl | rfl | rfl | rfl | rfl
  · clear HC
    have d0 : W.cell? ⟨w.heap.size, 0, none⟩ = some (.int .i64 1) := (cell_of_row W _ _ _ _ _ HX.out).trans rfl
    have d1 : W.cell? ⟨w.heap.size + 1, 0, none⟩ = some (.int .i64 1) := (cell_of_row W _ _ _ _ _ HY.out).trans rfl
    have y0 := frozen_of_row W w.heap.size (0) _ _ HX.out
    have y1 := frozen_of_row W (w.heap.size + 1) (0) _ _ HY.out
    have okA : okB ⟨A, 1, 0, 0, 0, 0, 0, 0, 0, 0, 0, 0, 0, 0, 0, 0, 0, 0, 0⟩ = true := least_ok0 A (by omega) (by omega)
    have PA := ndhid (fun w1 => nput_t ⟨A, 1, 0, 0, 0, 0, 0, 0, 0, 0, 0, 0, 0, 0, 0, 0, 0, 0, 0⟩ w1)
    rw [okA] at PA
    have okC : okB ⟨C, 1, 0, 0, 0, 0, 0, 0, 0, 0, 0, 0, 0, 0, 0, 0, 0, 0, 0⟩ = true := least_ok0 C (by omega) (by omega)
    have PC := ndhid (fun w1 => nput_t ⟨C, 1, 0, 0, 0, 0, 0, 0, 0, 0, 0, 0, 0, 0, 0, 0, 0, 0, 0⟩ w1)
    rw [okC] at PC
    have hun : ((putS ⟨A, 1, 0, 0, 0, 0, 0, 0, 0, 0, 0, 0, 0, 0, 0, 0, 0, 0, 0⟩).toList == (putS ⟨C, 1, 0, 0, 0, 0, 0, 0, 0, 0, 0, 0, 0, 0, 0, 0, 0, 0, 0⟩).toList) = false := unlike (fun e => by
      have e := putS_inj okA okC e
      have e2 : (A : Int) = C := congrArg Nd.num e
      omega)
    generalize hV1 : W.setCell ⟨w.heap.size, 0, none⟩ (.int .i64 A) = V1
    have HXa : V1.heap[w.heap.size]? = some (.cells (nodeC ⟨A, 1, 0, 0, 0, 0, 0, 0, 0, 0, 0, 0, 0, 0, 0, 0, 0, 0, 0⟩) 24 (0, 0)) := by rw [← hV1]; exact heap_setCell_same _ _ _ _ _ _ HX.out
    have HYa : V1.heap[w.heap.size + 1]? = some (.cells (nodeC leastX) 24 (0, 0)) := by rw [← hV1]; exact (heap_setCell_other _ _ _ _ (by simp)).trans HY.out
    generalize hV2 : V1.setCell ⟨w.heap.size + 1, 0, none⟩ (.int .i64 C) = V2
    have HXb : V2.heap[w.heap.size]? = some (.cells (nodeC ⟨A, 1, 0, 0, 0, 0, 0, 0, 0, 0, 0, 0, 0, 0, 0, 0, 0, 0, 0⟩) 24 (0, 0)) := by rw [← hV2]; exact (heap_setCell_other _ _ _ _ (by simp)).trans HXa
    have HYb : V2.heap[w.heap.size + 1]? = some (.cells (nodeC ⟨C, 1, 0, 0, 0, 0, 0, 0, 0, 0, 0, 0, 0, 0, 0, 0, 0, 0, 0⟩) 24 (0, 0)) := by rw [← hV2]; exact heap_setCell_same _ _ _ _ _ _ HYa
    have HB2 : Hid (Below w.heap.size w V2) := by rw [← hV2, ← hV1]; exact (HB.out.setCell (Nat.le_refl _) _).setCell (by dsimp only; omega) _
    have hw2 : w.heap.size + 1 < V2.heap.size := (Array.getElem?_eq_some_iff.1 HYb).1
    rw [← hV1] at hV2
    have HXc : Hid (((W.setCell ⟨w.heap.size, 0, none⟩ (.int .i64 A)).setCell ⟨w.heap.size + 1, 0, none⟩ (.int .i64 C)).heap[w.heap.size]? = some (.cells (nodeC ⟨A, 1, 0, 0, 0, 0, 0, 0, 0, 0, 0, 0, 0, 0, 0, 0, 0, 0, 0⟩) 24 (0, 0))) := by rw [hV2]; exact HXb
    have HV2 := ndhid hV2
    have HXb := ndhid HXb
    have HYb := ndhid HYb
    clear hV2 hV1 HXa HYa HX HY HB
    go_wp2_with (first | (refine wpList_load_row rfl 24 (.tmp 9) rfl w.heap.size rfl 24 (nodeC ⟨A, 1, 0, 0, 0, 0, 0, 0, 0, 0, 0, 0, 0, 0, 0, 0, 0, 0, 0⟩) (0, 0) _ HXc.out Try.underlying24 rfl Try.nodeSize ?_) | fail)
    rw [HV2.out]
    refine (PA.out _).mono ?_
    rintro e w1 ⟨rfl, hb1⟩
    have HY1 : Hid (w1.heap[w.heap.size + 1]? = some (.cells (nodeC ⟨C, 1, 0, 0, 0, 0, 0, 0, 0, 0, 0, 0, 0, 0, 0, 0, 0, 0, 0⟩) 24 (0, 0))) := (hb1.block _ hw2).trans HYb.out
    have HB3 : Hid (Below w.heap.size w w1) := HB2.out.trans (hb1.mono HB2.out.size)
    clear hb1 HXb HXc HYb HB2 PA HV2 d0 d1 y0 y1
    go_wp2_with (first | (refine wpList_load_row rfl 24 (.tmp 10) rfl (w.heap.size + 1) rfl 24 (nodeC ⟨C, 1, 0, 0, 0, 0, 0, 0, 0, 0, 0, 0, 0, 0, 0, 0, 0, 0, 0⟩) (0, 0) _ HY1.out Try.underlying24 rfl Try.nodeSize ?_) | fail)
    refine (PC.out _).mono ?_
    rintro e w2 ⟨rfl, hb2⟩
    have HB4 : Hid (Below w.heap.size w w2) := HB3.out.trans (hb2.mono HB3.out.size)
    clear hb2 HY1 HB3 PC
    generalize putS ⟨A, 1, 0, 0, 0, 0, 0, 0, 0, 0, 0, 0, 0, 0, 0, 0, 0, 0, 0⟩ = S at *
    generalize putS ⟨C, 1, 0, 0, 0, 0, 0, 0, 0, 0, 0, 0, 0, 0, 0, 0, 0, 0, 0⟩ = U at *
    go_wp2_with fail
    refine (AW.out _).mono ?_
    rintro e w6 ⟨rfl, hb6⟩
    have HB6 : Hid (Below w.heap.size w w6) := HB4.out.trans (hb6.mono HB4.out.size)
    clear hb6 HB4 AW
    go_wp2_with fail
    go_ret
    exact ⟨rfl, HB6.out⟩
  · clear HC
    have d0 : W.cell? ⟨w.heap.size, 2, none⟩ = some (.int .i64 0) := (cell_of_row W _ _ _ _ _ HX.out).trans rfl
    have d1 : W.cell? ⟨w.heap.size + 1, 2, none⟩ = some (.int .i64 0) := (cell_of_row W _ _ _ _ _ HY.out).trans rfl
    have y0 := frozen_of_row W w.heap.size (2) _ _ HX.out
    have y1 := frozen_of_row W (w.heap.size + 1) (2) _ _ HY.out
    have okA : okB ⟨1, 1, A, 0, 0, 0, 0, 0, 0, 0, 0, 0, 0, 0, 0, 0, 0, 0, 0⟩ = true := least_ok2 A (by omega) (by omega)
    have PA := ndhid (fun w1 => nput_t ⟨1, 1, A, 0, 0, 0, 0, 0, 0, 0, 0, 0, 0, 0, 0, 0, 0, 0, 0⟩ w1)
    rw [okA] at PA
    have okC : okB ⟨1, 1, C, 0, 0, 0, 0, 0, 0, 0, 0, 0, 0, 0, 0, 0, 0, 0, 0⟩ = true := least_ok2 C (by omega) (by omega)
    have PC := ndhid (fun w1 => nput_t ⟨1, 1, C, 0, 0, 0, 0, 0, 0, 0, 0, 0, 0, 0, 0, 0, 0, 0, 0⟩ w1)
    rw [okC] at PC
    have hun : ((putS ⟨1, 1, A, 0, 0, 0, 0, 0, 0, 0, 0, 0, 0, 0, 0, 0, 0, 0, 0⟩).toList == (putS ⟨1, 1, C, 0, 0, 0, 0, 0, 0, 0, 0, 0, 0, 0, 0, 0, 0, 0, 0⟩).toList) = false := unlike (fun e => by
      have e := putS_inj okA okC e
      have e2 : (A : Int) = C := congrArg Nd.links e
      omega)
    generalize hV1 : W.setCell ⟨w.heap.size, 2, none⟩ (.int .i64 A) = V1
    have HXa : V1.heap[w.heap.size]? = some (.cells (nodeC ⟨1, 1, A, 0, 0, 0, 0, 0, 0, 0, 0, 0, 0, 0, 0, 0, 0, 0, 0⟩) 24 (0, 0)) := by rw [← hV1]; exact heap_setCell_same _ _ _ _ _ _ HX.out
    have HYa : V1.heap[w.heap.size + 1]? = some (.cells (nodeC leastX) 24 (0, 0)) := by rw [← hV1]; exact (heap_setCell_other _ _ _ _ (by simp)).trans HY.out
    generalize hV2 : V1.setCell ⟨w.heap.size + 1, 2, none⟩ (.int .i64 C) = V2
    have HXb : V2.heap[w.heap.size]? = some (.cells (nodeC ⟨1, 1, A, 0, 0, 0, 0, 0, 0, 0, 0, 0, 0, 0, 0, 0, 0, 0, 0⟩) 24 (0, 0)) := by rw [← hV2]; exact (heap_setCell_other _ _ _ _ (by simp)).trans HXa
    have HYb : V2.heap[w.heap.size + 1]? = some (.cells (nodeC ⟨1, 1, C, 0, 0, 0, 0, 0, 0, 0, 0, 0, 0, 0, 0, 0, 0, 0, 0⟩) 24 (0, 0)) := by rw [← hV2]; exact heap_setCell_same _ _ _ _ _ _ HYa
    have HB2 : Hid (Below w.heap.size w V2) := by rw [← hV2, ← hV1]; exact (HB.out.setCell (Nat.le_refl _) _).setCell (by dsimp only; omega) _
    have hw2 : w.heap.size + 1 < V2.heap.size := (Array.getElem?_eq_some_iff.1 HYb).1
    rw [← hV1] at hV2
    have HXc : Hid (((W.setCell ⟨w.heap.size, 2, none⟩ (.int .i64 A)).setCell ⟨w.heap.size + 1, 2, none⟩ (.int .i64 C)).heap[w.heap.size]? = some (.cells (nodeC ⟨1, 1, A, 0, 0, 0, 0, 0, 0, 0, 0, 0, 0, 0, 0, 0, 0, 0, 0⟩) 24 (0, 0))) := by rw [hV2]; exact HXb
    have HV2 := ndhid hV2
    have HXb := ndhid HXb
    have HYb := ndhid HYb
    clear hV2 hV1 HXa HYa HX HY HB
    go_wp2_with (first | (refine wpList_load_row rfl 24 (.tmp 9) rfl w.heap.size rfl 24 (nodeC ⟨1, 1, A, 0, 0, 0, 0, 0, 0, 0, 0, 0, 0, 0, 0, 0, 0, 0, 0⟩) (0, 0) _ HXc.out Try.underlying24 rfl Try.nodeSize ?_) | fail)
    rw [HV2.out]
    refine (PA.out _).mono ?_
    rintro e w1 ⟨rfl, hb1⟩
    have HY1 : Hid (w1.heap[w.heap.size + 1]? = some (.cells (nodeC ⟨1, 1, C, 0, 0, 0, 0, 0, 0, 0, 0, 0, 0, 0, 0, 0, 0, 0, 0⟩) 24 (0, 0))) := (hb1.block _ hw2).trans HYb.out
    have HB3 : Hid (Below w.heap.size w w1) := HB2.out.trans (hb1.mono HB2.out.size)
    clear hb1 HXb HXc HYb HB2 PA HV2 d0 d1 y0 y1
    go_wp2_with (first | (refine wpList_load_row rfl 24 (.tmp 10) rfl (w.heap.size + 1) rfl 24 (nodeC ⟨1, 1, C, 0, 0, 0, 0, 0, 0, 0, 0, 0, 0, 0, 0, 0, 0, 0, 0⟩) (0, 0) _ HY1.out Try.underlying24 rfl Try.nodeSize ?_) | fail)
    refine (PC.out _).mono ?_
    rintro e w2 ⟨rfl, hb2⟩
    have HB4 : Hid (Below w.heap.size w w2) := HB3.out.trans (hb2.mono HB3.out.size)
    clear hb2 HY1 HB3 PC
    generalize putS ⟨1, 1, A, 0, 0, 0, 0, 0, 0, 0, 0, 0, 0, 0, 0, 0, 0, 0, 0⟩ = S at *
    generalize putS ⟨1, 1, C, 0, 0, 0, 0, 0, 0, 0, 0, 0, 0, 0, 0, 0, 0, 0, 0⟩ = U at *
    go_wp2_with fail
    refine (AW.out _).mono ?_
    rintro e w6 ⟨rfl, hb6⟩
    have HB6 : Hid (Below w.heap.size w w6) := HB4.out.trans (hb6.mono HB4.out.size)
    clear hb6 HB4 AW
    go_wp2_with fail
    go_ret
    exact ⟨rfl, HB6.out⟩
  · clear HC
    have d0 : W.cell? ⟨w.heap.size, 3, none⟩ = some (.int .i64 0) := (cell_of_row W _ _ _ _ _ HX.out).trans rfl
    have d1 : W.cell? ⟨w.heap.size + 1, 3, none⟩ = some (.int .i64 0) := (cell_of_row W _ _ _ _ _ HY.out).trans rfl
    have y0 := frozen_of_row W w.heap.size (3) _ _ HX.out
    have y1 := frozen_of_row W (w.heap.size + 1) (3) _ _ HY.out
    have okA : okB ⟨1, 1, 0, A, 0, 0, 0, 0, 0, 0, 0, 0, 0, 0, 0, 0, 0, 0, 0⟩ = true := least_ok3 A (by omega) (by omega)
    have PA := ndhid (fun w1 => nput_t ⟨1, 1, 0, A, 0, 0, 0, 0, 0, 0, 0, 0, 0, 0, 0, 0, 0, 0, 0⟩ w1)
    rw [okA] at PA
    have okC : okB ⟨1, 1, 0, C, 0, 0, 0, 0, 0, 0, 0, 0, 0, 0, 0, 0, 0, 0, 0⟩ = true := least_ok3 C (by omega) (by omega)
    have PC := ndhid (fun w1 => nput_t ⟨1, 1, 0, C, 0, 0, 0, 0, 0, 0, 0, 0, 0, 0, 0, 0, 0, 0, 0⟩ w1)
    rw [okC] at PC
    have hun : ((putS ⟨1, 1, 0, A, 0, 0, 0, 0, 0, 0, 0, 0, 0, 0, 0, 0, 0, 0, 0⟩).toList == (putS ⟨1, 1, 0, C, 0, 0, 0, 0, 0, 0, 0, 0, 0, 0, 0, 0, 0, 0, 0⟩).toList) = false := unlike (fun e => by
      have e := putS_inj okA okC e
      have e2 : (A : Int) = C := congrArg Nd.size e
      omega)
    generalize hV1 : W.setCell ⟨w.heap.size, 3, none⟩ (.int .i64 A) = V1
    have HXa : V1.heap[w.heap.size]? = some (.cells (nodeC ⟨1, 1, 0, A, 0, 0, 0, 0, 0, 0, 0, 0, 0, 0, 0, 0, 0, 0, 0⟩) 24 (0, 0)) := by rw [← hV1]; exact heap_setCell_same _ _ _ _ _ _ HX.out
    have HYa : V1.heap[w.heap.size + 1]? = some (.cells (nodeC leastX) 24 (0, 0)) := by rw [← hV1]; exact (heap_setCell_other _ _ _ _ (by simp)).trans HY.out
    generalize hV2 : V1.setCell ⟨w.heap.size + 1, 3, none⟩ (.int .i64 C) = V2
    have HXb : V2.heap[w.heap.size]? = some (.cells (nodeC ⟨1, 1, 0, A, 0, 0, 0, 0, 0, 0, 0, 0, 0, 0, 0, 0, 0, 0, 0⟩) 24 (0, 0)) := by rw [← hV2]; exact (heap_setCell_other _ _ _ _ (by simp)).trans HXa
    have HYb : V2.heap[w.heap.size + 1]? = some (.cells (nodeC ⟨1, 1, 0, C, 0, 0, 0, 0, 0, 0, 0, 0, 0, 0, 0, 0, 0, 0, 0⟩) 24 (0, 0)) := by rw [← hV2]; exact heap_setCell_same _ _ _ _ _ _ HYa
    have HB2 : Hid (Below w.heap.size w V2) := by rw [← hV2, ← hV1]; exact (HB.out.setCell (Nat.le_refl _) _).setCell (by dsimp only; omega) _
    have hw2 : w.heap.size + 1 < V2.heap.size := (Array.getElem?_eq_some_iff.1 HYb).1
    rw [← hV1] at hV2
    have HXc : Hid (((W.setCell ⟨w.heap.size, 3, none⟩ (.int .i64 A)).setCell ⟨w.heap.size + 1, 3, none⟩ (.int .i64 C)).heap[w.heap.size]? = some (.cells (nodeC ⟨1, 1, 0, A, 0, 0, 0, 0, 0, 0, 0, 0, 0, 0, 0, 0, 0, 0, 0⟩) 24 (0, 0))) := by rw [hV2]; exact HXb
    have HV2 := ndhid hV2
    have HXb := ndhid HXb
    have HYb := ndhid HYb
    clear hV2 hV1 HXa HYa HX HY HB
    go_wp2_with (first | (refine wpList_load_row rfl 24 (.tmp 9) rfl w.heap.size rfl 24 (nodeC ⟨1, 1, 0, A, 0, 0, 0, 0, 0, 0, 0, 0, 0, 0, 0, 0, 0, 0, 0⟩) (0, 0) _ HXc.out Try.underlying24 rfl Try.nodeSize ?_) | fail)
    rw [HV2.out]
    refine (PA.out _).mono ?_
    rintro e w1 ⟨rfl, hb1⟩
    have HY1 : Hid (w1.heap[w.heap.size + 1]? = some (.cells (nodeC ⟨1, 1, 0, C, 0, 0, 0, 0, 0, 0, 0, 0, 0, 0, 0, 0, 0, 0, 0⟩) 24 (0, 0))) := (hb1.block _ hw2).trans HYb.out
    have HB3 : Hid (Below w.heap.size w w1) := HB2.out.trans (hb1.mono HB2.out.size)
    clear hb1 HXb HXc HYb HB2 PA HV2 d0 d1 y0 y1
    go_wp2_with (first | (refine wpList_load_row rfl 24 (.tmp 10) rfl (w.heap.size + 1) rfl 24 (nodeC ⟨1, 1, 0, C, 0, 0, 0, 0, 0, 0, 0, 0, 0, 0, 0, 0, 0, 0, 0⟩) (0, 0) _ HY1.out Try.underlying24 rfl Try.nodeSize ?_) | fail)
    refine (PC.out _).mono ?_
    rintro e w2 ⟨rfl, hb2⟩
    have HB4 : Hid (Below w.heap.size w w2) := HB3.out.trans (hb2.mono HB3.out.size)
    clear hb2 HY1 HB3 PC
    generalize putS ⟨1, 1, 0, A, 0, 0, 0, 0, 0, 0, 0, 0, 0, 0, 0, 0, 0, 0, 0⟩ = S at *
    generalize putS ⟨1, 1, 0, C, 0, 0, 0, 0, 0, 0, 0, 0, 0, 0, 0, 0, 0, 0, 0⟩ = U at *
    go_wp2_with fail
    refine (AW.out _).mono ?_
    rintro e w6 ⟨rfl, hb6⟩
    have HB6 : Hid (Below w.heap.size w w6) := HB4.out.trans (hb6.mono HB4.out.size)
    clear hb6 HB4 AW
    go_wp2_with fail
    go_ret
    exact ⟨rfl, HB6.out⟩
  · clear HC
    have d0 : W.cell? ⟨w.heap.size, 4, none⟩ = some (.int .i64 0) := (cell_of_row W _ _ _ _ _ HX.out).trans rfl
    have d1 : W.cell? ⟨w.heap.size + 1, 4, none⟩ = some (.int .i64 0) := (cell_of_row W _ _ _ _ _ HY.out).trans rfl
    have y0 := frozen_of_row W w.heap.size (4) _ _ HX.out
    have y1 := frozen_of_row W (w.heap.size + 1) (4) _ _ HY.out
    have okA : okB ⟨1, 1, 0, 0, A, 0, 0, 0, 0, 0, 0, 0, 0, 0, 0, 0, 0, 0, 0⟩ = true := least_ok4 A (by omega) (by omega)
    have PA := ndhid (fun w1 => nput_t ⟨1, 1, 0, 0, A, 0, 0, 0, 0, 0, 0, 0, 0, 0, 0, 0, 0, 0, 0⟩ w1)
    rw [okA] at PA
    have okC : okB ⟨1, 1, 0, 0, C, 0, 0, 0, 0, 0, 0, 0, 0, 0, 0, 0, 0, 0, 0⟩ = true := least_ok4 C (by omega) (by omega)
    have PC := ndhid (fun w1 => nput_t ⟨1, 1, 0, 0, C, 0, 0, 0, 0, 0, 0, 0, 0, 0, 0, 0, 0, 0, 0⟩ w1)
    rw [okC] at PC
    have hun : ((putS ⟨1, 1, 0, 0, A, 0, 0, 0, 0, 0, 0, 0, 0, 0, 0, 0, 0, 0, 0⟩).toList == (putS ⟨1, 1, 0, 0, C, 0, 0, 0, 0, 0, 0, 0, 0, 0, 0, 0, 0, 0, 0⟩).toList) = false := unlike (fun e => by
      have e := putS_inj okA okC e
      have e2 : (A : Int) = C := congrArg Nd.time e
      omega)
    generalize hV1 : W.setCell ⟨w.heap.size, 4, none⟩ (.int .i64 A) = V1
    have HXa : V1.heap[w.heap.size]? = some (.cells (nodeC ⟨1, 1, 0, 0, A, 0, 0, 0, 0, 0, 0, 0, 0, 0, 0, 0, 0, 0, 0⟩) 24 (0, 0)) := by rw [← hV1]; exact heap_setCell_same _ _ _ _ _ _ HX.out
    have HYa : V1.heap[w.heap.size + 1]? = some (.cells (nodeC leastX) 24 (0, 0)) := by rw [← hV1]; exact (heap_setCell_other _ _ _ _ (by simp)).trans HY.out
    generalize hV2 : V1.setCell ⟨w.heap.size + 1, 4, none⟩ (.int .i64 C) = V2
    have HXb : V2.heap[w.heap.size]? = some (.cells (nodeC ⟨1, 1, 0, 0, A, 0, 0, 0, 0, 0, 0, 0, 0, 0, 0, 0, 0, 0, 0⟩) 24 (0, 0)) := by rw [← hV2]; exact (heap_setCell_other _ _ _ _ (by simp)).trans HXa
    have HYb : V2.heap[w.heap.size + 1]? = some (.cells (nodeC ⟨1, 1, 0, 0, C, 0, 0, 0, 0, 0, 0, 0, 0, 0, 0, 0, 0, 0, 0⟩) 24 (0, 0)) := by rw [← hV2]; exact heap_setCell_same _ _ _ _ _ _ HYa
    have HB2 : Hid (Below w.heap.size w V2) := by rw [← hV2, ← hV1]; exact (HB.out.setCell (Nat.le_refl _) _).setCell (by dsimp only; omega) _
    have hw2 : w.heap.size + 1 < V2.heap.size := (Array.getElem?_eq_some_iff.1 HYb).1
    rw [← hV1] at hV2
    have HXc : Hid (((W.setCell ⟨w.heap.size, 4, none⟩ (.int .i64 A)).setCell ⟨w.heap.size + 1, 4, none⟩ (.int .i64 C)).heap[w.heap.size]? = some (.cells (nodeC ⟨1, 1, 0, 0, A, 0, 0, 0, 0, 0, 0, 0, 0, 0, 0, 0, 0, 0, 0⟩) 24 (0, 0))) := by rw [hV2]; exact HXb
    have HV2 := ndhid hV2
    have HXb := ndhid HXb
    have HYb := ndhid HYb
    clear hV2 hV1 HXa HYa HX HY HB
    go_wp2_with (first | (refine wpList_load_row rfl 24 (.tmp 9) rfl w.heap.size rfl 24 (nodeC ⟨1, 1, 0, 0, A, 0, 0, 0, 0, 0, 0, 0, 0, 0, 0, 0, 0, 0, 0⟩) (0, 0) _ HXc.out Try.underlying24 rfl Try.nodeSize ?_) | fail)
    rw [HV2.out]
    refine (PA.out _).mono ?_
    rintro e w1 ⟨rfl, hb1⟩
    have HY1 : Hid (w1.heap[w.heap.size + 1]? = some (.cells (nodeC ⟨1, 1, 0, 0, C, 0, 0, 0, 0, 0, 0, 0, 0, 0, 0, 0, 0, 0, 0⟩) 24 (0, 0))) := (hb1.block _ hw2).trans HYb.out
    have HB3 : Hid (Below w.heap.size w w1) := HB2.out.trans (hb1.mono HB2.out.size)
    clear hb1 HXb HXc HYb HB2 PA HV2 d0 d1 y0 y1
    go_wp2_with (first | (refine wpList_load_row rfl 24 (.tmp 10) rfl (w.heap.size + 1) rfl 24 (nodeC ⟨1, 1, 0, 0, C, 0, 0, 0, 0, 0, 0, 0, 0, 0, 0, 0, 0, 0, 0⟩) (0, 0) _ HY1.out Try.underlying24 rfl Try.nodeSize ?_) | fail)
    refine (PC.out _).mono ?_
    rintro e w2 ⟨rfl, hb2⟩
    have HB4 : Hid (Below w.heap.size w w2) := HB3.out.trans (hb2.mono HB3.out.size)
    clear hb2 HY1 HB3 PC
    generalize putS ⟨1, 1, 0, 0, A, 0, 0, 0, 0, 0, 0, 0, 0, 0, 0, 0, 0, 0, 0⟩ = S at *
    generalize putS ⟨1, 1, 0, 0, C, 0, 0, 0, 0, 0, 0, 0, 0, 0, 0, 0, 0, 0, 0⟩ = U at *
    go_wp2_with fail
    refine (AW.out _).mono ?_
    rintro e w6 ⟨rfl, hb6⟩
    have HB6 : Hid (Below w.heap.size w w6) := HB4.out.trans (hb6.mono HB4.out.size)
    clear hb6 HB4 AW
    go_wp2_with fail
    go_ret
    exact ⟨rfl, HB6.out⟩
  · clear HC
    obtain ⟨j, hj⟩ : ∃ j : Nat, (A : Int) % 14 = (j : Int) := ⟨((A : Int) % 14).toNat, by omega⟩
    have hj2 : j < 14 := by omega
    have d0 : W.cell? ⟨w.heap.size, 5 + j, none⟩ = some (.int .i64 (leastX.ptr j)) := (cell_of_row W _ _ _ _ _ HX.out).trans (node_cell _ j hj2)
    have d1 : W.cell? ⟨w.heap.size + 1, 5 + j, none⟩ = some (.int .i64 (leastX.ptr j)) := (cell_of_row W _ _ _ _ _ HY.out).trans (node_cell _ j hj2)
    have y0 := frozen_of_row W w.heap.size (5 + j) _ _ HX.out
    have y1 := frozen_of_row W (w.heap.size + 1) (5 + j) _ _ HY.out
    have okA : okB (setP leastX j A) = true := setP_ok j A hj2 (by omega) (by omega)
    have PA := ndhid (fun w1 => nput_t (setP leastX j A) w1)
    rw [okA] at PA
    have okC : okB (setP leastX j C) = true := setP_ok j C hj2 (by omega) (by omega)
    have PC := ndhid (fun w1 => nput_t (setP leastX j C) w1)
    rw [okC] at PC
    have hun : ((putS (setP leastX j A)).toList == (putS (setP leastX j C)).toList) = false := unlike (fun e => by
      have e := putS_inj okA okC e
      have e2 := congrArg (fun x => Nd.ptr x j) e
      simp only [setP_ptr _ j _ hj2] at e2
      omega)
    generalize hV1 : W.setCell ⟨w.heap.size, 5 + j, none⟩ (.int .i64 A) = V1
    have HXa : V1.heap[w.heap.size]? = some (.cells (nodeC (setP leastX j A)) 24 (0, 0)) := by rw [← hV1, ← setP_set leastX j A hj2]; exact heap_setCell_same _ _ _ _ _ _ HX.out
    have HYa : V1.heap[w.heap.size + 1]? = some (.cells (nodeC leastX) 24 (0, 0)) := by rw [← hV1]; exact (heap_setCell_other _ _ _ _ (by simp)).trans HY.out
    generalize hV2 : V1.setCell ⟨w.heap.size + 1, 5 + j, none⟩ (.int .i64 C) = V2
    have HXb : V2.heap[w.heap.size]? = some (.cells (nodeC (setP leastX j A)) 24 (0, 0)) := by rw [← hV2]; exact (heap_setCell_other _ _ _ _ (by simp)).trans HXa
    have HYb : V2.heap[w.heap.size + 1]? = some (.cells (nodeC (setP leastX j C)) 24 (0, 0)) := by rw [← hV2, ← setP_set leastX j C hj2]; exact heap_setCell_same _ _ _ _ _ _ HYa
    have HB2 : Hid (Below w.heap.size w V2) := by rw [← hV2, ← hV1]; exact (HB.out.setCell (Nat.le_refl _) _).setCell (by dsimp only; omega) _
    have hw2 : w.heap.size + 1 < V2.heap.size := (Array.getElem?_eq_some_iff.1 HYb).1
    rw [← hV1] at hV2
    have HXc : Hid (((W.setCell ⟨w.heap.size, 5 + j, none⟩ (.int .i64 A)).setCell ⟨w.heap.size + 1, 5 + j, none⟩ (.int .i64 C)).heap[w.heap.size]? = some (.cells (nodeC (setP leastX j A)) 24 (0, 0))) := by rw [hV2]; exact HXb
    have HV2 := ndhid hV2
    have HXb := ndhid HXb
    have HYb := ndhid HYb
    clear hV2 hV1 HXa HYa HX HY HB
    go_wp2_with (first | (refine wpList_load_row rfl 24 (.tmp 9) rfl w.heap.size rfl 24 (nodeC (setP leastX j A)) (0, 0) _ HXc.out Try.underlying24 rfl Try.nodeSize ?_) | fail)
    rw [HV2.out]
    refine (PA.out _).mono ?_
    rintro e w1 ⟨rfl, hb1⟩
    have HY1 : Hid (w1.heap[w.heap.size + 1]? = some (.cells (nodeC (setP leastX j C)) 24 (0, 0))) := (hb1.block _ hw2).trans HYb.out
    have HB3 : Hid (Below w.heap.size w w1) := HB2.out.trans (hb1.mono HB2.out.size)
    clear hb1 HXb HXc HYb HB2 PA HV2 d0 d1 y0 y1
    go_wp2_with (first | (refine wpList_load_row rfl 24 (.tmp 10) rfl (w.heap.size + 1) rfl 24 (nodeC (setP leastX j C)) (0, 0) _ HY1.out Try.underlying24 rfl Try.nodeSize ?_) | fail)
    refine (PC.out _).mono ?_
    rintro e w2 ⟨rfl, hb2⟩
    have HB4 : Hid (Below w.heap.size w w2) := HB3.out.trans (hb2.mono HB3.out.size)
    clear hb2 HY1 HB3 PC
    generalize putS (setP leastX j A) = S at *
    generalize putS (setP leastX j C) = U at *
    go_wp2_with fail
    refine (AW.out _).mono ?_
    rintro e w6 ⟨rfl, hb6⟩
    have HB6 : Hid (Below w.heap.size w w6) := HB4.out.trans (hb6.mono HB4.out.size)
    clear hb6 HB4 AW
    go_wp2_with fail
    go_ret
    exact ⟨rfl, HB6.out⟩

theorem nodeApart_t (how v0 w0 : Int) (w : World) : Calls Try.prog 6 #[.int .i64 how, .int .i64 v0, .int .i64 w0] w fun e w' => e = .returned (.bool true) ∧ Below w.heap.size w w' := by
  by_cases h : v0 % 100 = w0 % 100
  · exact nodeApart_same how v0 w0 w h
  · exact nodeApart_other how v0 w0 w h
end Go.Proofs.Ytclfpblnjdlnfaa
