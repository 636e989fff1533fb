/- A node brought within its bounds; which nodes may be: bounded and Check walked. -/
import Derived.Test.YtclfpblnjdlnfaaNodeCode
import Derived.Deep.RegionHeld3
import Derived.Laws.CopyOwn
import Derived.Deep.MidRow
namespace Go.Proofs.Ytclfpblnjdlnfaa
open Go.RowKit Rec Nod

/-- A node's cells, one by one. -/
theorem cells19 {w : World} {b : Nat} {num kind links size time p0 p1 p2 p3 p4 p5 p6 p7 p8 p9 p10 p11 p12 p13 : Int} (h : w.heap[b]? = some (.cells (nodeC ⟨num, kind, links, size, time, p0, p1, p2, p3, p4, p5, p6, p7, p8, p9, p10, p11, p12, p13⟩) 24 (0, 0))) : w.cell? ⟨b, 0, none⟩ = some (.int .i64 num) ∧ w.cell? ⟨b, 1, none⟩ = some (.int .i64 kind) ∧ w.cell? ⟨b, 2, none⟩ = some (.int .i64 links) ∧ w.cell? ⟨b, 3, none⟩ = some (.int .i64 size) ∧ w.cell? ⟨b, 4, none⟩ = some (.int .i64 time) ∧ w.cell? ⟨b, 5, none⟩ = some (.int .i64 p0) ∧ w.cell? ⟨b, 6, none⟩ = some (.int .i64 p1) ∧ w.cell? ⟨b, 7, none⟩ = some (.int .i64 p2) ∧ w.cell? ⟨b, 8, none⟩ = some (.int .i64 p3) ∧ w.cell? ⟨b, 9, none⟩ = some (.int .i64 p4) ∧ w.cell? ⟨b, 10, none⟩ = some (.int .i64 p5) ∧ w.cell? ⟨b, 11, none⟩ = some (.int .i64 p6) ∧ w.cell? ⟨b, 12, none⟩ = some (.int .i64 p7) ∧ w.cell? ⟨b, 13, none⟩ = some (.int .i64 p8) ∧ w.cell? ⟨b, 14, none⟩ = some (.int .i64 p9) ∧ w.cell? ⟨b, 15, none⟩ = some (.int .i64 p10) ∧ w.cell? ⟨b, 16, none⟩ = some (.int .i64 p11) ∧ w.cell? ⟨b, 17, none⟩ = some (.int .i64 p12) ∧ w.cell? ⟨b, 18, none⟩ = some (.int .i64 p13) :=
  ⟨(cell_of_row w _ _ _ _ _ h).trans rfl, (cell_of_row w _ _ _ _ _ h).trans rfl, (cell_of_row w _ _ _ _ _ h).trans rfl, (cell_of_row w _ _ _ _ _ h).trans rfl, (cell_of_row w _ _ _ _ _ h).trans rfl, (cell_of_row w _ _ _ _ _ h).trans rfl, (cell_of_row w _ _ _ _ _ h).trans rfl, (cell_of_row w _ _ _ _ _ h).trans rfl, (cell_of_row w _ _ _ _ _ h).trans rfl, (cell_of_row w _ _ _ _ _ h).trans rfl, (cell_of_row w _ _ _ _ _ h).trans rfl, (cell_of_row w _ _ _ _ _ h).trans rfl, (cell_of_row w _ _ _ _ _ h).trans rfl, (cell_of_row w _ _ _ _ _ h).trans rfl, (cell_of_row w _ _ _ _ _ h).trans rfl, (cell_of_row w _ _ _ _ _ h).trans rfl, (cell_of_row w _ _ _ _ _ h).trans rfl, (cell_of_row w _ _ _ _ _ h).trans rfl, (cell_of_row w _ _ _ _ _ h).trans rfl⟩
theorem Try.nodeSize : (Try.prog.info? 24).map (·.size) = some 19 := by kernel_rfl
theorem nodeC_one (x : Nd) : (nodeC x).all (·.oneCell') = true := all_oneCell_toArray (cs := (nodeC x).toList) (fun v hv => by simp at hv; rcases hv with rfl | rfl | rfl | rfl | rfl | rfl | rfl | rfl | rfl | rfl | rfl | rfl | rfl | rfl | rfl | rfl | rfl | rfl | rfl <;> rfl)
/-- A node, its first k pointers brought within their bounds. -/
def bptr (x : Nd) (k : Nat) : Nd := { x with p0 := if 0 < k then clamp x.p0 0 16383 else x.p0, p1 := if 1 < k then clamp x.p1 0 16383 else x.p1, p2 := if 2 < k then clamp x.p2 0 16383 else x.p2, p3 := if 3 < k then clamp x.p3 0 16383 else x.p3, p4 := if 4 < k then clamp x.p4 0 16383 else x.p4, p5 := if 5 < k then clamp x.p5 0 16383 else x.p5, p6 := if 6 < k then clamp x.p6 0 16383 else x.p6, p7 := if 7 < k then clamp x.p7 0 16383 else x.p7, p8 := if 8 < k then clamp x.p8 0 16383 else x.p8, p9 := if 9 < k then clamp x.p9 0 16383 else x.p9, p10 := if 10 < k then clamp x.p10 0 16383 else x.p10, p11 := if 11 < k then clamp x.p11 0 16383 else x.p11, p12 := if 12 < k then clamp x.p12 0 16383 else x.p12, p13 := if 13 < k then clamp x.p13 0 16383 else x.p13 }
theorem bptr_0 (x : Nd) : bptr x 0 = x := by simp [bptr]
theorem bptr_14 (x : Nd) : bptr x 14 = { x with p0 := clamp x.p0 0 16383, p1 := clamp x.p1 0 16383, p2 := clamp x.p2 0 16383, p3 := clamp x.p3 0 16383, p4 := clamp x.p4 0 16383, p5 := clamp x.p5 0 16383, p6 := clamp x.p6 0 16383, p7 := clamp x.p7 0 16383, p8 := clamp x.p8 0 16383, p9 := clamp x.p9 0 16383, p10 := clamp x.p10 0 16383, p11 := clamp x.p11 0 16383, p12 := clamp x.p12 0 16383, p13 := clamp x.p13 0 16383 } := by simp [bptr]
theorem bptr_set (x : Nd) (k : Nat) (hk : k < 14) : (nodeC (bptr x k)).setIfInBounds (5 + k) (.int .i64 (clamp (x.ptr k) 0 16383)) = nodeC (bptr x (k + 1)) := by
  have hc : k = 0 ∨ k = 1 ∨ k = 2 ∨ k = 3 ∨ k = 4 ∨ k = 5 ∨ k = 6 ∨ k = 7 ∨ k = 8 ∨ k = 9 ∨ k = 10 ∨ k = 11 ∨ k = 12 ∨ k = 13 := by omega
  rcases hc with rfl | rfl | rfl | rfl | rfl | rfl | rfl | rfl | rfl | rfl | rfl | rfl | rfl | rfl <;> simp [bptr, Nd.ptr]
theorem node_cell (x : Nd) (k : Nat) (hk : k < 14) : (nodeC x)[5 + k]? = some (.int .i64 (x.ptr k)) := by
  have hc : k = 0 ∨ k = 1 ∨ k = 2 ∨ k = 3 ∨ k = 4 ∨ k = 5 ∨ k = 6 ∨ k = 7 ∨ k = 8 ∨ k = 9 ∨ k = 10 ∨ k = 11 ∨ k = 12 ∨ k = 13 := by omega
  rcases hc with rfl | rfl | rfl | rfl | rfl | rfl | rfl | rfl | rfl | rfl | rfl | rfl | rfl | rfl <;> rfl
theorem ptr_index (x : Nd) (k : Nat) (hk : k < 14) (w : World) : (Instr.index 22 (ptrV x) (.int .i64 k)).run Try.prog w = .ok (.int .i64 (x.ptr k)) w := by
  have hc : k = 0 ∨ k = 1 ∨ k = 2 ∨ k = 3 ∨ k = 4 ∨ k = 5 ∨ k = 6 ∨ k = 7 ∨ k = 8 ∨ k = 9 ∨ k = 10 ∨ k = 11 ∨ k = 12 ∨ k = 13 := by omega
  rcases hc with rfl | rfl | rfl | rfl | rfl | rfl | rfl | rfl | rfl | rfl | rfl | rfl | rfl | rfl <;> (refine ?_; show _ = _; kernel_rfl)

set_option maxRecDepth 10000 in
set_option maxHeartbeats 4000000 in
theorem bounded_file (x : Nd) (w : World) (hk : clamp x.kind 1 2 ≠ 2) : Calls Try.prog 29 #[nodeV x] w fun e w' => e = .returned (nodeV (bnd x)) ∧ Below w.heap.size w w' := by
  have WI := ndhid within_t
  obtain ⟨num, kind, links, size, time, p0, p1, p2, p3, p4, p5, p6, p7, p8, p9, p10, p11, p12, p13⟩ := x
  have HN : Hid (bnd ⟨num, kind, links, size, time, p0, p1, p2, p3, p4, p5, p6, p7, p8, p9, p10, p11, p12, p13⟩ = ⟨clamp num 1 255, clamp kind 1 2, clamp links 0 100, bsize kind size, clamp time 0 1099511627776, clamp p0 0 16383, clamp p1 0 16383, clamp p2 0 16383, clamp p3 0 16383, clamp p4 0 16383, clamp p5 0 16383, clamp p6 0 16383, clamp p7 0 16383, clamp p8 0 16383, clamp p9 0 16383, clamp p10 0 16383, clamp p11 0 16383, clamp p12 0 16383, clamp p13 0 16383⟩) := rfl
  have hs := clamp_in (v := size) (show (0 : Int) ≤ 150528 by decide)
  have hk2 : ((clamp kind 1 2) == 2) = false := by rw [beq_eq_false_iff_ne]; exact hk
  have hbs : Hid (bsize kind size = clamp size 0 150528) := if_neg hk

  go_enter Try.func29, Try.ntmps29
  go_wp2_with fail
  generalize hW : (w.alloc _).alloc _ = W0
  have HX0 : Hid (W0.heap[w.heap.size]? = some (.cells (nodeC ⟨num, kind, links, size, time, p0, p1, p2, p3, p4, p5, p6, p7, p8, p9, p10, p11, p12, p13⟩) 24 (0, 0))) := by rw [← hW]; show _ = _; rw [Below.heap_alloc _ _ _ (by simp)]; exact heap_alloc_new _ _
  have HZ0 : Hid (W0.heap[w.heap.size + 1]? = some (.cells (nodeC ⟨0, 0, 0, 0, 0, 0, 0, 0, 0, 0, 0, 0, 0, 0, 0, 0, 0, 0, 0⟩) 24 (0, 0))) := by
    have e1 : ∀ o, w.heap.size + 1 = (w.alloc o).heap.size := by simp
    rw [← hW]; show _ = _; rw [e1]; exact heap_alloc_new _ _
  have HB0 : Hid (Below w.heap.size w W0) := by rw [← hW]; exact ((Below.refl _ w).alloc (Nat.le_refl _) _).alloc (by simp) _
  clear hW
  refine (WI.out _ _ _ _).mono ?_
  rintro e w' ⟨rfl, rfl⟩
  obtain ⟨x0, x1, x2, x3, x4, x5, x6, x7, x8, x9, x10, x11, x12, x13, x14, x15, x16, x17, x18⟩ := cells19 HX0.out
  have y0 := frozen_of_row W0 w.heap.size 0 _ _ HX0.out
  go_wp2_with fail
  generalize hW : World.setCell _ _ _ = W1
  have HX1 : Hid (W1.heap[w.heap.size]? = some (.cells (nodeC ⟨clamp num 1 255, kind, links, size, time, p0, p1, p2, p3, p4, p5, p6, p7, p8, p9, p10, p11, p12, p13⟩) 24 (0, 0))) := by rw [← hW]; show _ = _; exact heap_setCell_same _ _ _ _ _ _ HX0.out
  have HZ1 : Hid (W1.heap[w.heap.size + 1]? = some (.cells (nodeC ⟨0, 0, 0, 0, 0, 0, 0, 0, 0, 0, 0, 0, 0, 0, 0, 0, 0, 0, 0⟩) 24 (0, 0))) := by rw [← hW]; exact (heap_setCell_other _ _ _ _ (by simp)).trans HZ0.out
  have HB1 : Hid (Below w.heap.size w W1) := by rw [← hW]; exact HB0.out.setCell (Nat.le_refl _) _
  clear hW HX0 HZ0 HB0 y0 x0 x1 x2 x3 x4 x5 x6 x7 x8 x9 x10 x11 x12 x13 x14 x15 x16 x17 x18
  refine (WI.out _ _ _ _).mono ?_
  rintro e w' ⟨rfl, rfl⟩
  obtain ⟨x0, x1, x2, x3, x4, x5, x6, x7, x8, x9, x10, x11, x12, x13, x14, x15, x16, x17, x18⟩ := cells19 HX1.out
  have y1 := frozen_of_row W1 w.heap.size 1 _ _ HX1.out
  go_wp2_with fail
  generalize hW : World.setCell _ _ _ = W2
  have HX2 : Hid (W2.heap[w.heap.size]? = some (.cells (nodeC ⟨clamp num 1 255, clamp kind 1 2, links, size, time, p0, p1, p2, p3, p4, p5, p6, p7, p8, p9, p10, p11, p12, p13⟩) 24 (0, 0))) := by rw [← hW]; show _ = _; exact heap_setCell_same _ _ _ _ _ _ HX1.out
  have HZ2 : Hid (W2.heap[w.heap.size + 1]? = some (.cells (nodeC ⟨0, 0, 0, 0, 0, 0, 0, 0, 0, 0, 0, 0, 0, 0, 0, 0, 0, 0, 0⟩) 24 (0, 0))) := by rw [← hW]; exact (heap_setCell_other _ _ _ _ (by simp)).trans HZ1.out
  have HB2 : Hid (Below w.heap.size w W2) := by rw [← hW]; exact HB1.out.setCell (Nat.le_refl _) _
  clear hW HX1 HZ1 HB1 y1 x0 x1 x2 x3 x4 x5 x6 x7 x8 x9 x10 x11 x12 x13 x14 x15 x16 x17 x18
  refine (WI.out _ _ _ _).mono ?_
  rintro e w' ⟨rfl, rfl⟩
  obtain ⟨x0, x1, x2, x3, x4, x5, x6, x7, x8, x9, x10, x11, x12, x13, x14, x15, x16, x17, x18⟩ := cells19 HX2.out
  have y2 := frozen_of_row W2 w.heap.size 2 _ _ HX2.out
  go_wp2_with fail
  generalize hW : World.setCell _ _ _ = W3
  have HX3 : Hid (W3.heap[w.heap.size]? = some (.cells (nodeC ⟨clamp num 1 255, clamp kind 1 2, clamp links 0 100, size, time, p0, p1, p2, p3, p4, p5, p6, p7, p8, p9, p10, p11, p12, p13⟩) 24 (0, 0))) := by rw [← hW]; show _ = _; exact heap_setCell_same _ _ _ _ _ _ HX2.out
  have HZ3 : Hid (W3.heap[w.heap.size + 1]? = some (.cells (nodeC ⟨0, 0, 0, 0, 0, 0, 0, 0, 0, 0, 0, 0, 0, 0, 0, 0, 0, 0, 0⟩) 24 (0, 0))) := by rw [← hW]; exact (heap_setCell_other _ _ _ _ (by simp)).trans HZ2.out
  have HB3 : Hid (Below w.heap.size w W3) := by rw [← hW]; exact HB2.out.setCell (Nat.le_refl _) _
  clear hW HX2 HZ2 HB2 y2 x0 x1 x2 x3 x4 x5 x6 x7 x8 x9 x10 x11 x12 x13 x14 x15 x16 x17 x18
  refine (WI.out _ _ _ _).mono ?_
  rintro e w' ⟨rfl, rfl⟩
  obtain ⟨x0, x1, x2, x3, x4, x5, x6, x7, x8, x9, x10, x11, x12, x13, x14, x15, x16, x17, x18⟩ := cells19 HX3.out
  have y3 := frozen_of_row W3 w.heap.size 3 _ _ HX3.out
  go_wp2_with fail
  generalize hW : World.setCell _ _ _ = W4
  have HX4 : Hid (W4.heap[w.heap.size]? = some (.cells (nodeC ⟨clamp num 1 255, clamp kind 1 2, clamp links 0 100, clamp size 0 150528, time, p0, p1, p2, p3, p4, p5, p6, p7, p8, p9, p10, p11, p12, p13⟩) 24 (0, 0))) := by rw [← hW]; show _ = _; exact heap_setCell_same _ _ _ _ _ _ HX3.out
  have HZ4 : Hid (W4.heap[w.heap.size + 1]? = some (.cells (nodeC ⟨0, 0, 0, 0, 0, 0, 0, 0, 0, 0, 0, 0, 0, 0, 0, 0, 0, 0, 0⟩) 24 (0, 0))) := by rw [← hW]; exact (heap_setCell_other _ _ _ _ (by simp)).trans HZ3.out
  have HB4 : Hid (Below w.heap.size w W4) := by rw [← hW]; exact HB3.out.setCell (Nat.le_refl _) _
  clear hW HX3 HZ3 HB3 y3 x0 x1 x2 x3 x4 x5 x6 x7 x8 x9 x10 x11 x12 x13 x14 x15 x16 x17 x18
  refine (WI.out _ _ _ _).mono ?_
  rintro e w' ⟨rfl, rfl⟩
  obtain ⟨x0, x1, x2, x3, x4, x5, x6, x7, x8, x9, x10, x11, x12, x13, x14, x15, x16, x17, x18⟩ := cells19 HX4.out
  have y4 := frozen_of_row W4 w.heap.size 4 _ _ HX4.out
  go_wp2_with fail
  generalize hW : World.setCell _ _ _ = W5
  have HX5 : Hid (W5.heap[w.heap.size]? = some (.cells (nodeC ⟨clamp num 1 255, clamp kind 1 2, clamp links 0 100, clamp size 0 150528, clamp time 0 1099511627776, p0, p1, p2, p3, p4, p5, p6, p7, p8, p9, p10, p11, p12, p13⟩) 24 (0, 0))) := by rw [← hW]; show _ = _; exact heap_setCell_same _ _ _ _ _ _ HX4.out
  have HZ5 : Hid (W5.heap[w.heap.size + 1]? = some (.cells (nodeC ⟨0, 0, 0, 0, 0, 0, 0, 0, 0, 0, 0, 0, 0, 0, 0, 0, 0, 0, 0⟩) 24 (0, 0))) := by rw [← hW]; exact (heap_setCell_other _ _ _ _ (by simp)).trans HZ4.out
  have HB5 : Hid (Below w.heap.size w W5) := by rw [← hW]; exact HB4.out.setCell (Nat.le_refl _) _
  clear hW HX4 HZ4 HB4 y4 x0 x1 x2 x3 x4 x5 x6 x7 x8 x9 x10 x11 x12 x13 x14 x15 x16 x17 x18
  have HXk : Hid (W5.heap[w.heap.size]? = some (.cells (nodeC (bptr ⟨clamp num 1 255, clamp kind 1 2, clamp links 0 100, clamp size 0 150528, clamp time 0 1099511627776, p0, p1, p2, p3, p4, p5, p6, p7, p8, p9, p10, p11, p12, p13⟩ 0)) 24 (0, 0))) := by show _ = _; rw [bptr_0]; exact HX5.out
  have IX : Hid (∀ (k : Nat) (hk : k < 14) (w1 : World), (Instr.index 22 (.agg #[.int .i64 p0, .int .i64 p1, .int .i64 p2, .int .i64 p3, .int .i64 p4, .int .i64 p5, .int .i64 p6, .int .i64 p7, .int .i64 p8, .int .i64 p9, .int .i64 p10, .int .i64 p11, .int .i64 p12, .int .i64 p13]) (.int .i64 k)).run Try.prog w1 = .ok (.int .i64 (Nd.ptr ⟨clamp num 1 255, clamp kind 1 2, clamp links 0 100, clamp size 0 150528, clamp time 0 1099511627776, p0, p1, p2, p3, p4, p5, p6, p7, p8, p9, p10, p11, p12, p13⟩ k)) w1) := fun k hk w1 => ptr_index ⟨clamp num 1 255, clamp kind 1 2, clamp links 0 100, clamp size 0 150528, clamp time 0 1099511627776, p0, p1, p2, p3, p4, p5, p6, p7, p8, p9, p10, p11, p12, p13⟩ k hk w1
  have B14 : Hid (bptr ⟨clamp num 1 255, clamp kind 1 2, clamp links 0 100, clamp size 0 150528, clamp time 0 1099511627776, p0, p1, p2, p3, p4, p5, p6, p7, p8, p9, p10, p11, p12, p13⟩ 14 = ⟨clamp num 1 255, clamp kind 1 2, clamp links 0 100, clamp size 0 150528, clamp time 0 1099511627776, clamp p0 0 16383, clamp p1 0 16383, clamp p2 0 16383, clamp p3 0 16383, clamp p4 0 16383, clamp p5 0 16383, clamp p6 0 16383, clamp p7 0 16383, clamp p8 0 16383, clamp p9 0 16383, clamp p10 0 16383, clamp p11 0 16383, clamp p12 0 16383, clamp p13 0 16383⟩) := bptr_14 _
  have BST : Hid (∀ k, k < 14 → (nodeC (bptr ⟨clamp num 1 255, clamp kind 1 2, clamp links 0 100, clamp size 0 150528, clamp time 0 1099511627776, p0, p1, p2, p3, p4, p5, p6, p7, p8, p9, p10, p11, p12, p13⟩ k)).setIfInBounds (5 + k) (.int .i64 (clamp (Nd.ptr ⟨clamp num 1 255, clamp kind 1 2, clamp links 0 100, clamp size 0 150528, clamp time 0 1099511627776, p0, p1, p2, p3, p4, p5, p6, p7, p8, p9, p10, p11, p12, p13⟩ k) 0 16383)) = nodeC (bptr ⟨clamp num 1 255, clamp kind 1 2, clamp links 0 100, clamp size 0 150528, clamp time 0 1099511627776, p0, p1, p2, p3, p4, p5, p6, p7, p8, p9, p10, p11, p12, p13⟩ (k + 1))) := fun k hk => bptr_set _ k hk
  clear HX5
  obtain ⟨Y, hY⟩ : ∃ Y : Nd, Y = ⟨clamp num 1 255, clamp kind 1 2, clamp links 0 100, clamp size 0 150528, clamp time 0 1099511627776, p0, p1, p2, p3, p4, p5, p6, p7, p8, p9, p10, p11, p12, p13⟩ := ⟨_, rfl⟩
  rw [← hY] at HXk IX B14 BST
  clear hY
  go_loopw [37] (fun c wr => ∃ k : Nat, k ≤ 14 ∧ c = .int .i64 k ∧ Hid (wr.heap[w.heap.size]? = some (.cells (nodeC (bptr Y k)) 24 (0, 0))) ∧ Hid (wr.heap[w.heap.size + 1]? = some (.cells (nodeC ⟨0, 0, 0, 0, 0, 0, 0, 0, 0, 0, 0, 0, 0, 0, 0, 0, 0, 0, 0⟩) 24 (0, 0))) ∧ Hid (Below w.heap.size w wr)) (fun c _ => 14 - (intOf c).toNat)
  case atStart => exact ⟨0, by omega, rfl, HXk, HZ5, HB5⟩
  case round =>
    obtain ⟨k, hk, rfl, HX, HZ, HB⟩ := hrel
    clear HXk HZ5 HB5
    by_cases hk2 : k < 14
    · have hix := IX.out k hk2
      have HS := ndhid (BST.out k hk2)
      have c0 : wr.cell? ⟨w.heap.size, 5 + k, none⟩ = some (.int .i64 ((bptr Y k).ptr k)) := (cell_of_row wr _ _ _ _ _ HX.out).trans (node_cell _ k hk2)
      have y0 := frozen_of_row wr w.heap.size (5 + k) _ _ HX.out
      clear IX BST B14 HN
      generalize Nd.ptr Y k = q at *
      go_wp2_with fail
      refine (WI.out _ _ _ _).mono ?_
      rintro e w' ⟨rfl, rfl⟩
      go_wp2_with fail
      refine ⟨⟨k + 1, by omega, rfl, ?_, ?_, ?_⟩, by simp [intOf]; omega⟩
      · show _ = _
        rw [← HS.out]
        exact heap_setCell_same _ _ _ _ _ _ HX.out
      · exact (heap_setCell_other _ _ _ _ (by simp)).trans HZ.out
      · exact HB.out.setCell (Nat.le_refl _) _
    · have hk3 : k = 14 := by omega
      subst hk3
      have e : bptr Y 14 = bnd ⟨num, kind, links, size, time, p0, p1, p2, p3, p4, p5, p6, p7, p8, p9, p10, p11, p12, p13⟩ := by rw [B14.out, HN.out, hbs.out]
      rw [e] at HX
      clear IX BST B14 hk hk2 e HN hbs hs
      obtain ⟨Z, hZ⟩ : ∃ Z : Nd, Z = bnd ⟨num, kind, links, size, time, p0, p1, p2, p3, p4, p5, p6, p7, p8, p9, p10, p11, p12, p13⟩ := ⟨_, rfl⟩
      rw [← hZ] at HX
      have HE := ndhid hZ
      clear hZ
      clear WI
      go_wp2_with (first | (refine wpList_load_row rfl 24 (.tmp 1) rfl w.heap.size rfl 24 (nodeC Z) (0, 0) _ HX.out Try.underlying24 rfl Try.nodeSize ?_) | (refine wpList_store_row rfl 24 (.tmp 2) (.tmp 47) rfl (w.heap.size + 1) (nodeC Z) rfl rfl 24 (nodeC Nd.z) HZ.out Try.nodeSize rfl (nodeC_one Z) ?_) | fail)
      refine bodyPost_ret (v := .agg (nodeC Z)) ?_ rfl ⟨by rw [HE.out], ?_⟩
      · exact results_cell_row Try.results29 _ _ (w.heap.size + 1) 24 (nodeC Z) (0, 0) _ rfl (setRow_heap _ _ _ _ _ _ HZ.out) Try.underlying24 rfl Try.nodeSize
      · exact below_setRow HB.out (by omega) _

set_option maxRecDepth 10000 in
set_option maxHeartbeats 4000000 in
theorem bounded_dir (x : Nd) (w : World) (hk : clamp x.kind 1 2 = 2) : Calls Try.prog 29 #[nodeV x] w fun e w' => e = .returned (nodeV (bnd x)) ∧ Below w.heap.size w w' := by
  have WI := ndhid within_t
  obtain ⟨num, kind, links, size, time, p0, p1, p2, p3, p4, p5, p6, p7, p8, p9, p10, p11, p12, p13⟩ := x
  have HN : Hid (bnd ⟨num, kind, links, size, time, p0, p1, p2, p3, p4, p5, p6, p7, p8, p9, p10, p11, p12, p13⟩ = ⟨clamp num 1 255, clamp kind 1 2, clamp links 0 100, bsize kind size, clamp time 0 1099511627776, clamp p0 0 16383, clamp p1 0 16383, clamp p2 0 16383, clamp p3 0 16383, clamp p4 0 16383, clamp p5 0 16383, clamp p6 0 16383, clamp p7 0 16383, clamp p8 0 16383, clamp p9 0 16383, clamp p10 0 16383, clamp p11 0 16383, clamp p12 0 16383, clamp p13 0 16383⟩) := rfl
  have hs := clamp_in (v := size) (show (0 : Int) ≤ 150528 by decide)
  have hk2 : ((clamp kind 1 2) == 2) = true := by rw [hk]; rfl
  have hbs : Hid (bsize kind size = clamp size 0 150528 - clamp size 0 150528 % 256) := if_pos hk
  have hs0 := hs.1
  have hs1 := hs.2
  clear hk

  go_enter Try.func29, Try.ntmps29
  go_wp2_with fail
  generalize hW : (w.alloc _).alloc _ = W0
  have HX0 : Hid (W0.heap[w.heap.size]? = some (.cells (nodeC ⟨num, kind, links, size, time, p0, p1, p2, p3, p4, p5, p6, p7, p8, p9, p10, p11, p12, p13⟩) 24 (0, 0))) := by rw [← hW]; show _ = _; rw [Below.heap_alloc _ _ _ (by simp)]; exact heap_alloc_new _ _
  have HZ0 : Hid (W0.heap[w.heap.size + 1]? = some (.cells (nodeC ⟨0, 0, 0, 0, 0, 0, 0, 0, 0, 0, 0, 0, 0, 0, 0, 0, 0, 0, 0⟩) 24 (0, 0))) := by
    have e1 : ∀ o, w.heap.size + 1 = (w.alloc o).heap.size := by simp
    rw [← hW]; show _ = _; rw [e1]; exact heap_alloc_new _ _
  have HB0 : Hid (Below w.heap.size w W0) := by rw [← hW]; exact ((Below.refl _ w).alloc (Nat.le_refl _) _).alloc (by simp) _
  clear hW
  refine (WI.out _ _ _ _).mono ?_
  rintro e w' ⟨rfl, rfl⟩
  obtain ⟨x0, x1, x2, x3, x4, x5, x6, x7, x8, x9, x10, x11, x12, x13, x14, x15, x16, x17, x18⟩ := cells19 HX0.out
  have y0 := frozen_of_row W0 w.heap.size 0 _ _ HX0.out
  go_wp2_with fail
  generalize hW : World.setCell _ _ _ = W1
  have HX1 : Hid (W1.heap[w.heap.size]? = some (.cells (nodeC ⟨clamp num 1 255, kind, links, size, time, p0, p1, p2, p3, p4, p5, p6, p7, p8, p9, p10, p11, p12, p13⟩) 24 (0, 0))) := by rw [← hW]; show _ = _; exact heap_setCell_same _ _ _ _ _ _ HX0.out
  have HZ1 : Hid (W1.heap[w.heap.size + 1]? = some (.cells (nodeC ⟨0, 0, 0, 0, 0, 0, 0, 0, 0, 0, 0, 0, 0, 0, 0, 0, 0, 0, 0⟩) 24 (0, 0))) := by rw [← hW]; exact (heap_setCell_other _ _ _ _ (by simp)).trans HZ0.out
  have HB1 : Hid (Below w.heap.size w W1) := by rw [← hW]; exact HB0.out.setCell (Nat.le_refl _) _
  clear hW HX0 HZ0 HB0 y0 x0 x1 x2 x3 x4 x5 x6 x7 x8 x9 x10 x11 x12 x13 x14 x15 x16 x17 x18
  refine (WI.out _ _ _ _).mono ?_
  rintro e w' ⟨rfl, rfl⟩
  obtain ⟨x0, x1, x2, x3, x4, x5, x6, x7, x8, x9, x10, x11, x12, x13, x14, x15, x16, x17, x18⟩ := cells19 HX1.out
  have y1 := frozen_of_row W1 w.heap.size 1 _ _ HX1.out
  go_wp2_with fail
  generalize hW : World.setCell _ _ _ = W2
  have HX2 : Hid (W2.heap[w.heap.size]? = some (.cells (nodeC ⟨clamp num 1 255, clamp kind 1 2, links, size, time, p0, p1, p2, p3, p4, p5, p6, p7, p8, p9, p10, p11, p12, p13⟩) 24 (0, 0))) := by rw [← hW]; show _ = _; exact heap_setCell_same _ _ _ _ _ _ HX1.out
  have HZ2 : Hid (W2.heap[w.heap.size + 1]? = some (.cells (nodeC ⟨0, 0, 0, 0, 0, 0, 0, 0, 0, 0, 0, 0, 0, 0, 0, 0, 0, 0, 0⟩) 24 (0, 0))) := by rw [← hW]; exact (heap_setCell_other _ _ _ _ (by simp)).trans HZ1.out
  have HB2 : Hid (Below w.heap.size w W2) := by rw [← hW]; exact HB1.out.setCell (Nat.le_refl _) _
  clear hW HX1 HZ1 HB1 y1 x0 x1 x2 x3 x4 x5 x6 x7 x8 x9 x10 x11 x12 x13 x14 x15 x16 x17 x18
  refine (WI.out _ _ _ _).mono ?_
  rintro e w' ⟨rfl, rfl⟩
  obtain ⟨x0, x1, x2, x3, x4, x5, x6, x7, x8, x9, x10, x11, x12, x13, x14, x15, x16, x17, x18⟩ := cells19 HX2.out
  have y2 := frozen_of_row W2 w.heap.size 2 _ _ HX2.out
  go_wp2_with fail
  generalize hW : World.setCell _ _ _ = W3
  have HX3 : Hid (W3.heap[w.heap.size]? = some (.cells (nodeC ⟨clamp num 1 255, clamp kind 1 2, clamp links 0 100, size, time, p0, p1, p2, p3, p4, p5, p6, p7, p8, p9, p10, p11, p12, p13⟩) 24 (0, 0))) := by rw [← hW]; show _ = _; exact heap_setCell_same _ _ _ _ _ _ HX2.out
  have HZ3 : Hid (W3.heap[w.heap.size + 1]? = some (.cells (nodeC ⟨0, 0, 0, 0, 0, 0, 0, 0, 0, 0, 0, 0, 0, 0, 0, 0, 0, 0, 0⟩) 24 (0, 0))) := by rw [← hW]; exact (heap_setCell_other _ _ _ _ (by simp)).trans HZ2.out
  have HB3 : Hid (Below w.heap.size w W3) := by rw [← hW]; exact HB2.out.setCell (Nat.le_refl _) _
  clear hW HX2 HZ2 HB2 y2 x0 x1 x2 x3 x4 x5 x6 x7 x8 x9 x10 x11 x12 x13 x14 x15 x16 x17 x18
  refine (WI.out _ _ _ _).mono ?_
  rintro e w' ⟨rfl, rfl⟩
  obtain ⟨x0, x1, x2, x3, x4, x5, x6, x7, x8, x9, x10, x11, x12, x13, x14, x15, x16, x17, x18⟩ := cells19 HX3.out
  have y3 := frozen_of_row W3 w.heap.size 3 _ _ HX3.out
  go_wp2_with fail
  generalize hW : World.setCell (World.setCell _ _ _) _ _ = W4
  have HX4 : Hid (W4.heap[w.heap.size]? = some (.cells (nodeC ⟨clamp num 1 255, clamp kind 1 2, clamp links 0 100, clamp size 0 150528 - clamp size 0 150528 % 256, time, p0, p1, p2, p3, p4, p5, p6, p7, p8, p9, p10, p11, p12, p13⟩) 24 (0, 0))) := by rw [← hW]; show _ = _; exact heap_setCell_same _ _ _ _ _ _ (heap_setCell_same _ _ _ _ _ _ HX3.out)
  have HZ4 : Hid (W4.heap[w.heap.size + 1]? = some (.cells (nodeC ⟨0, 0, 0, 0, 0, 0, 0, 0, 0, 0, 0, 0, 0, 0, 0, 0, 0, 0, 0⟩) 24 (0, 0))) := by rw [← hW]; exact (heap_setCell_other _ _ _ _ (by simp)).trans ((heap_setCell_other _ _ _ _ (by simp)).trans HZ3.out)
  have HB4 : Hid (Below w.heap.size w W4) := by rw [← hW]; exact (HB3.out.setCell (Nat.le_refl _) _).setCell (Nat.le_refl _) _
  clear hW HX3 HZ3 HB3 y3 x0 x1 x2 x3 x4 x5 x6 x7 x8 x9 x10 x11 x12 x13 x14 x15 x16 x17 x18
  refine (WI.out _ _ _ _).mono ?_
  rintro e w' ⟨rfl, rfl⟩
  obtain ⟨x0, x1, x2, x3, x4, x5, x6, x7, x8, x9, x10, x11, x12, x13, x14, x15, x16, x17, x18⟩ := cells19 HX4.out
  have y4 := frozen_of_row W4 w.heap.size 4 _ _ HX4.out
  go_wp2_with fail
  generalize hW : World.setCell _ _ _ = W5
  have HX5 : Hid (W5.heap[w.heap.size]? = some (.cells (nodeC ⟨clamp num 1 255, clamp kind 1 2, clamp links 0 100, clamp size 0 150528 - clamp size 0 150528 % 256, clamp time 0 1099511627776, p0, p1, p2, p3, p4, p5, p6, p7, p8, p9, p10, p11, p12, p13⟩) 24 (0, 0))) := by rw [← hW]; show _ = _; exact heap_setCell_same _ _ _ _ _ _ HX4.out
  have HZ5 : Hid (W5.heap[w.heap.size + 1]? = some (.cells (nodeC ⟨0, 0, 0, 0, 0, 0, 0, 0, 0, 0, 0, 0, 0, 0, 0, 0, 0, 0, 0⟩) 24 (0, 0))) := by rw [← hW]; exact (heap_setCell_other _ _ _ _ (by simp)).trans HZ4.out
  have HB5 : Hid (Below w.heap.size w W5) := by rw [← hW]; exact HB4.out.setCell (Nat.le_refl _) _
  clear hW HX4 HZ4 HB4 y4 x0 x1 x2 x3 x4 x5 x6 x7 x8 x9 x10 x11 x12 x13 x14 x15 x16 x17 x18
  have HXk : Hid (W5.heap[w.heap.size]? = some (.cells (nodeC (bptr ⟨clamp num 1 255, clamp kind 1 2, clamp links 0 100, clamp size 0 150528 - clamp size 0 150528 % 256, clamp time 0 1099511627776, p0, p1, p2, p3, p4, p5, p6, p7, p8, p9, p10, p11, p12, p13⟩ 0)) 24 (0, 0))) := by show _ = _; rw [bptr_0]; exact HX5.out
  have IX : Hid (∀ (k : Nat) (hk : k < 14) (w1 : World), (Instr.index 22 (.agg #[.int .i64 p0, .int .i64 p1, .int .i64 p2, .int .i64 p3, .int .i64 p4, .int .i64 p5, .int .i64 p6, .int .i64 p7, .int .i64 p8, .int .i64 p9, .int .i64 p10, .int .i64 p11, .int .i64 p12, .int .i64 p13]) (.int .i64 k)).run Try.prog w1 = .ok (.int .i64 (Nd.ptr ⟨clamp num 1 255, clamp kind 1 2, clamp links 0 100, clamp size 0 150528 - clamp size 0 150528 % 256, clamp time 0 1099511627776, p0, p1, p2, p3, p4, p5, p6, p7, p8, p9, p10, p11, p12, p13⟩ k)) w1) := fun k hk w1 => ptr_index ⟨clamp num 1 255, clamp kind 1 2, clamp links 0 100, clamp size 0 150528 - clamp size 0 150528 % 256, clamp time 0 1099511627776, p0, p1, p2, p3, p4, p5, p6, p7, p8, p9, p10, p11, p12, p13⟩ k hk w1
  have B14 : Hid (bptr ⟨clamp num 1 255, clamp kind 1 2, clamp links 0 100, clamp size 0 150528 - clamp size 0 150528 % 256, clamp time 0 1099511627776, p0, p1, p2, p3, p4, p5, p6, p7, p8, p9, p10, p11, p12, p13⟩ 14 = ⟨clamp num 1 255, clamp kind 1 2, clamp links 0 100, clamp size 0 150528 - clamp size 0 150528 % 256, clamp time 0 1099511627776, clamp p0 0 16383, clamp p1 0 16383, clamp p2 0 16383, clamp p3 0 16383, clamp p4 0 16383, clamp p5 0 16383, clamp p6 0 16383, clamp p7 0 16383, clamp p8 0 16383, clamp p9 0 16383, clamp p10 0 16383, clamp p11 0 16383, clamp p12 0 16383, clamp p13 0 16383⟩) := bptr_14 _
  have BST : Hid (∀ k, k < 14 → (nodeC (bptr ⟨clamp num 1 255, clamp kind 1 2, clamp links 0 100, clamp size 0 150528 - clamp size 0 150528 % 256, clamp time 0 1099511627776, p0, p1, p2, p3, p4, p5, p6, p7, p8, p9, p10, p11, p12, p13⟩ k)).setIfInBounds (5 + k) (.int .i64 (clamp (Nd.ptr ⟨clamp num 1 255, clamp kind 1 2, clamp links 0 100, clamp size 0 150528 - clamp size 0 150528 % 256, clamp time 0 1099511627776, p0, p1, p2, p3, p4, p5, p6, p7, p8, p9, p10, p11, p12, p13⟩ k) 0 16383)) = nodeC (bptr ⟨clamp num 1 255, clamp kind 1 2, clamp links 0 100, clamp size 0 150528 - clamp size 0 150528 % 256, clamp time 0 1099511627776, p0, p1, p2, p3, p4, p5, p6, p7, p8, p9, p10, p11, p12, p13⟩ (k + 1))) := fun k hk => bptr_set _ k hk
  clear HX5
  obtain ⟨Y, hY⟩ : ∃ Y : Nd, Y = ⟨clamp num 1 255, clamp kind 1 2, clamp links 0 100, clamp size 0 150528 - clamp size 0 150528 % 256, clamp time 0 1099511627776, p0, p1, p2, p3, p4, p5, p6, p7, p8, p9, p10, p11, p12, p13⟩ := ⟨_, rfl⟩
  rw [← hY] at HXk IX B14 BST
  clear hY
  go_loopw [37] (fun c wr => ∃ k : Nat, k ≤ 14 ∧ c = .int .i64 k ∧ Hid (wr.heap[w.heap.size]? = some (.cells (nodeC (bptr Y k)) 24 (0, 0))) ∧ Hid (wr.heap[w.heap.size + 1]? = some (.cells (nodeC ⟨0, 0, 0, 0, 0, 0, 0, 0, 0, 0, 0, 0, 0, 0, 0, 0, 0, 0, 0⟩) 24 (0, 0))) ∧ Hid (Below w.heap.size w wr)) (fun c _ => 14 - (intOf c).toNat)
  case atStart => exact ⟨0, by omega, rfl, HXk, HZ5, HB5⟩
  case round =>
    obtain ⟨k, hk, rfl, HX, HZ, HB⟩ := hrel
    clear HXk HZ5 HB5
    by_cases hk2 : k < 14
    · have hix := IX.out k hk2
      have HS := ndhid (BST.out k hk2)
      have c0 : wr.cell? ⟨w.heap.size, 5 + k, none⟩ = some (.int .i64 ((bptr Y k).ptr k)) := (cell_of_row wr _ _ _ _ _ HX.out).trans (node_cell _ k hk2)
      have y0 := frozen_of_row wr w.heap.size (5 + k) _ _ HX.out
      clear IX BST B14 HN
      generalize Nd.ptr Y k = q at *
      go_wp2_with fail
      refine (WI.out _ _ _ _).mono ?_
      rintro e w' ⟨rfl, rfl⟩
      go_wp2_with fail
      refine ⟨⟨k + 1, by omega, rfl, ?_, ?_, ?_⟩, by simp [intOf]; omega⟩
      · show _ = _
        rw [← HS.out]
        exact heap_setCell_same _ _ _ _ _ _ HX.out
      · exact (heap_setCell_other _ _ _ _ (by simp)).trans HZ.out
      · exact HB.out.setCell (Nat.le_refl _) _
    · have hk3 : k = 14 := by omega
      subst hk3
      have e : bptr Y 14 = bnd ⟨num, kind, links, size, time, p0, p1, p2, p3, p4, p5, p6, p7, p8, p9, p10, p11, p12, p13⟩ := by rw [B14.out, HN.out, hbs.out]
      rw [e] at HX
      clear IX BST B14 hk hk2 e HN hbs hs
      obtain ⟨Z, hZ⟩ : ∃ Z : Nd, Z = bnd ⟨num, kind, links, size, time, p0, p1, p2, p3, p4, p5, p6, p7, p8, p9, p10, p11, p12, p13⟩ := ⟨_, rfl⟩
      rw [← hZ] at HX
      have HE := ndhid hZ
      clear hZ
      clear WI
      go_wp2_with (first | (refine wpList_load_row rfl 24 (.tmp 1) rfl w.heap.size rfl 24 (nodeC Z) (0, 0) _ HX.out Try.underlying24 rfl Try.nodeSize ?_) | (refine wpList_store_row rfl 24 (.tmp 2) (.tmp 47) rfl (w.heap.size + 1) (nodeC Z) rfl rfl 24 (nodeC Nd.z) HZ.out Try.nodeSize rfl (nodeC_one Z) ?_) | fail)
      refine bodyPost_ret (v := .agg (nodeC Z)) ?_ rfl ⟨by rw [HE.out], ?_⟩
      · exact results_cell_row Try.results29 _ _ (w.heap.size + 1) 24 (nodeC Z) (0, 0) _ rfl (setRow_heap _ _ _ _ _ _ HZ.out) Try.underlying24 rfl Try.nodeSize
      · exact below_setRow HB.out (by omega) _
end Go.Proofs.Ytclfpblnjdlnfaa
