/- HeadApart walked: heads that differ in one number have unlike bytes: the two numbers unlike. -/
import Derived.Test.YtmhhlchddkdjnaaHeadApartEq
namespace Go.Proofs.Ytmhhlchddkdjnaa
open Go.RowKit Rec Hdp

set_option maxRecDepth 10000 in
set_option maxHeartbeats 16000000 in
theorem headApart_ne (how v u c d : Int) (w : World) (hv : v % 16 = c) (hu : u % 16 = d) (c0 : 0 ≤ c) (c1 : c < 16) (d0 : 0 ≤ d) (d1 : d < 16) (hcd : c ≠ d) :
    Calls Try.prog 6 #[.int .i64 how, .int .i64 v, .int .i64 u] w fun e w' => e = .returned (.bool true) ∧ Below w.heap.size w w' := by
  have q0 := Int.emod_nonneg how (show (8 : Int) ≠ 0 by decide)
  have q1 := Int.emod_lt_of_pos how (show (0 : Int) < 8 by decide)
  have PLv := hdhid (fun w => gplace_t v 16 w (by decide) (by decide))
  have PLu := hdhid (fun w => gplace_t u 16 w (by decide) (by decide))
  have PLp := hdhid (fun w => gplace_t how 8 w (by decide) (by decide))
  rw [hv] at PLv
  rw [hu] at PLu
  clear hv hu
  generalize how % 8 = p at *
  have PU := hdhid pyes_t
  have AW := hdhid awake_t
  have hab : ((1 + c : Int) == 1 + d) = false := by rw [beq_eq_false_iff_ne]; omega
  have HCD := hdhid hcd
  clear hcd
  go_enter Try.func6, Try.ntmps6
  go_wp2_with fail
  refine (PLv.out _).mono ?_
  rintro e w' ⟨rfl, rfl⟩
  clear PLv
  go_wp2_with fail
  refine (PLu.out _).mono ?_
  rintro e w' ⟨rfl, rfl⟩
  clear PLu
  go_wp2_with fail
  generalize hV : (w.alloc _).alloc _ = V
  have HX : Hid (V.heap[w.heap.size]? = some (.cells (headC ⟨1, 1, 1, 1, 0, 0, 0, 0, []⟩ (.slice none 0 0)) 24 (0, 0))) := by rw [← hV, Below.heap_alloc _ _ _ (by simp)]; exact heap_alloc_new _ _
  have HY : Hid (V.heap[w.heap.size + 1]? = some (.cells (headC ⟨1, 1, 1, 1, 0, 0, 0, 0, []⟩ (.slice none 0 0)) 24 (0, 0))) := by
    rw [← hV]
    have : w.heap.size + 1 = (w.alloc (.cells (headC ⟨1, 1, 1, 1, 0, 0, 0, 0, []⟩ (.slice none 0 0)) 24)).heap.size := by simp
    rw [this]
    exact heap_alloc_new _ _
  have HB : Hid (Below w.heap.size w V) := by rw [← hV]; exact ((Below.refl _ w).alloc (Nat.le_refl _) _).alloc (by simp) _
  have hsz : w.heap.size + 1 < V.heap.size := by rw [← hV]; simp
  clear hV
  refine (PLp.out _).mono ?_
  rintro e w' ⟨rfl, rfl⟩
  clear PLp
  obtain ⟨x0, x1, x2, x3, x4, x5, x6, x7, x8⟩ := cells9 HX.out
  obtain ⟨y0, y1, y2, y3, y4, y5, y6, y7, y8⟩ := cells9 HY.out
  have fx : ∀ j, V.frozen? ⟨w.heap.size, j, none⟩ = false := fun j => frozen_of_row V _ j _ _ HX.out
  have fy : ∀ j, V.frozen? ⟨w.heap.size + 1, j, none⟩ = false := fun j => frozen_of_row V _ j _ _ HY.out
  clear HX
  have hc : p = 0 ∨ p = 1 ∨ p = 2 ∨ p = 3 ∨ p = 4 ∨ p = 5 ∨ p = 6 ∨ p = 7 := by omega
  rcases hc with rfl | rfl | rfl | rfl | rfl | rfl | rfl | rfl
  · have f := fx 0
    have f' := fy 0
    clear fx fy
    go_wp2_with fail
    have hq : ((putS ⟨1 + c, 1, 1, 1, 0, 0, 0, 0, []⟩ ⟨#[]⟩).toList == (putS ⟨1 + d, 1, 1, 1, 0, 0, 0, 0, []⟩ ⟨#[]⟩).toList) = false := putS_unlike (putB_yes rfl (by dsimp only; omega)) (putB_yes rfl (by dsimp only; omega)) (by intro e; simp only [Hd.mk.injEq] at e; exact HCD.out (by omega))
    refine (PU.out ⟨1 + c, 1, 1, 1, 0, 0, 0, 0, []⟩ _ rfl (putB_yes rfl (by dsimp only; omega))).mono ?_
    rintro e w4 ⟨rfl, hb4⟩
    have HY4 : Hid (w4.heap[w.heap.size + 1]? = some (.cells (headC ⟨1 + d, 1, 1, 1, 0, 0, 0, 0, []⟩ (.slice none 0 0)) 24 (0, 0))) := (hb4.block _ (by simp [World.setCell] <;> omega)).trans ((heap_setCell_same _ _ 0 _ _ _ ((heap_setCell_other _ _ _ _ (by simp)).trans HY.out)).trans rfl)
    have HB4 : Hid (Below w.heap.size w w4) := ((HB.out.setCell (Nat.le_refl _) _).setCell (by simp) _).trans (hb4.mono (by have := HB.out.size; simp [World.setCell] <;> omega))
    clear hb4 HB HY x0 x1 x2 x3 x4 x5 x6 x7 x8 y0 y1 y2 y3 y4 y5 y6 y7 y8
    obtain ⟨y0, y1, y2, y3, y4, y5, y6, y7, y8⟩ := cells9 HY4.out
    go_wp2_with fail
    refine (PU.out ⟨1 + d, 1, 1, 1, 0, 0, 0, 0, []⟩ _ rfl (putB_yes rfl (by dsimp only; omega))).mono ?_
    rintro e w5 ⟨rfl, hb5⟩
    have HB5 : Hid (Below w.heap.size w w5) := HB4.out.trans (hb5.mono HB4.out.size)
    clear hb5 HB4 HY4 y0 y1 y2 y3 y4 y5 y6 y7 y8 PU
    generalize putS ⟨1 + c, 1, 1, 1, 0, 0, 0, 0, []⟩ ⟨#[]⟩ = S at *
    generalize putS ⟨1 + d, 1, 1, 1, 0, 0, 0, 0, []⟩ ⟨#[]⟩ = S2 at *
    go_wp2_with fail
    refine (AW.out _).mono ?_
    rintro e w6 ⟨rfl, hb6⟩
    have HB6 : Hid (Below w.heap.size w w6) := HB5.out.trans (hb6.mono HB5.out.size)
    clear hb6 HB5 AW
    go_wp2_with fail
    go_ret
    exact ⟨rfl, HB6.out⟩
  · have f := fx 1
    have f' := fy 1
    clear fx fy
    go_wp2_with fail
    have hq : ((putS ⟨1, 1 + c, 1, 1, 0, 0, 0, 0, []⟩ ⟨#[]⟩).toList == (putS ⟨1, 1 + d, 1, 1, 0, 0, 0, 0, []⟩ ⟨#[]⟩).toList) = false := putS_unlike (putB_yes rfl (by dsimp only; omega)) (putB_yes rfl (by dsimp only; omega)) (by intro e; simp only [Hd.mk.injEq] at e; exact HCD.out (by omega))
    refine (PU.out ⟨1, 1 + c, 1, 1, 0, 0, 0, 0, []⟩ _ rfl (putB_yes rfl (by dsimp only; omega))).mono ?_
    rintro e w4 ⟨rfl, hb4⟩
    have HY4 : Hid (w4.heap[w.heap.size + 1]? = some (.cells (headC ⟨1, 1 + d, 1, 1, 0, 0, 0, 0, []⟩ (.slice none 0 0)) 24 (0, 0))) := (hb4.block _ (by simp [World.setCell] <;> omega)).trans ((heap_setCell_same _ _ 1 _ _ _ ((heap_setCell_other _ _ _ _ (by simp)).trans HY.out)).trans rfl)
    have HB4 : Hid (Below w.heap.size w w4) := ((HB.out.setCell (Nat.le_refl _) _).setCell (by simp) _).trans (hb4.mono (by have := HB.out.size; simp [World.setCell] <;> omega))
    clear hb4 HB HY x0 x1 x2 x3 x4 x5 x6 x7 x8 y0 y1 y2 y3 y4 y5 y6 y7 y8
    obtain ⟨y0, y1, y2, y3, y4, y5, y6, y7, y8⟩ := cells9 HY4.out
    go_wp2_with fail
    refine (PU.out ⟨1, 1 + d, 1, 1, 0, 0, 0, 0, []⟩ _ rfl (putB_yes rfl (by dsimp only; omega))).mono ?_
    rintro e w5 ⟨rfl, hb5⟩
    have HB5 : Hid (Below w.heap.size w w5) := HB4.out.trans (hb5.mono HB4.out.size)
    clear hb5 HB4 HY4 y0 y1 y2 y3 y4 y5 y6 y7 y8 PU
    generalize putS ⟨1, 1 + c, 1, 1, 0, 0, 0, 0, []⟩ ⟨#[]⟩ = S at *
    generalize putS ⟨1, 1 + d, 1, 1, 0, 0, 0, 0, []⟩ ⟨#[]⟩ = S2 at *
    go_wp2_with fail
    refine (AW.out _).mono ?_
    rintro e w6 ⟨rfl, hb6⟩
    have HB6 : Hid (Below w.heap.size w w6) := HB5.out.trans (hb6.mono HB5.out.size)
    clear hb6 HB5 AW
    go_wp2_with fail
    go_ret
    exact ⟨rfl, HB6.out⟩
  · have f := fx 2
    have f' := fy 2
    clear fx fy
    go_wp2_with fail
    have hq : ((putS ⟨1, 1, 1 + c, 1, 0, 0, 0, 0, []⟩ ⟨#[]⟩).toList == (putS ⟨1, 1, 1 + d, 1, 0, 0, 0, 0, []⟩ ⟨#[]⟩).toList) = false := putS_unlike (putB_yes rfl (by dsimp only; omega)) (putB_yes rfl (by dsimp only; omega)) (by intro e; simp only [Hd.mk.injEq] at e; exact HCD.out (by omega))
    refine (PU.out ⟨1, 1, 1 + c, 1, 0, 0, 0, 0, []⟩ _ rfl (putB_yes rfl (by dsimp only; omega))).mono ?_
    rintro e w4 ⟨rfl, hb4⟩
    have HY4 : Hid (w4.heap[w.heap.size + 1]? = some (.cells (headC ⟨1, 1, 1 + d, 1, 0, 0, 0, 0, []⟩ (.slice none 0 0)) 24 (0, 0))) := (hb4.block _ (by simp [World.setCell] <;> omega)).trans ((heap_setCell_same _ _ 2 _ _ _ ((heap_setCell_other _ _ _ _ (by simp)).trans HY.out)).trans rfl)
    have HB4 : Hid (Below w.heap.size w w4) := ((HB.out.setCell (Nat.le_refl _) _).setCell (by simp) _).trans (hb4.mono (by have := HB.out.size; simp [World.setCell] <;> omega))
    clear hb4 HB HY x0 x1 x2 x3 x4 x5 x6 x7 x8 y0 y1 y2 y3 y4 y5 y6 y7 y8
    obtain ⟨y0, y1, y2, y3, y4, y5, y6, y7, y8⟩ := cells9 HY4.out
    go_wp2_with fail
    refine (PU.out ⟨1, 1, 1 + d, 1, 0, 0, 0, 0, []⟩ _ rfl (putB_yes rfl (by dsimp only; omega))).mono ?_
    rintro e w5 ⟨rfl, hb5⟩
    have HB5 : Hid (Below w.heap.size w w5) := HB4.out.trans (hb5.mono HB4.out.size)
    clear hb5 HB4 HY4 y0 y1 y2 y3 y4 y5 y6 y7 y8 PU
    generalize putS ⟨1, 1, 1 + c, 1, 0, 0, 0, 0, []⟩ ⟨#[]⟩ = S at *
    generalize putS ⟨1, 1, 1 + d, 1, 0, 0, 0, 0, []⟩ ⟨#[]⟩ = S2 at *
    go_wp2_with fail
    refine (AW.out _).mono ?_
    rintro e w6 ⟨rfl, hb6⟩
    have HB6 : Hid (Below w.heap.size w w6) := HB5.out.trans (hb6.mono HB5.out.size)
    clear hb6 HB5 AW
    go_wp2_with fail
    go_ret
    exact ⟨rfl, HB6.out⟩
  · have f := fx 3
    have f' := fy 3
    clear fx fy
    go_wp2_with fail
    have hq : ((putS ⟨1, 1, 1, 1 + c, 0, 0, 0, 0, []⟩ ⟨#[]⟩).toList == (putS ⟨1, 1, 1, 1 + d, 0, 0, 0, 0, []⟩ ⟨#[]⟩).toList) = false := putS_unlike (putB_yes rfl (by dsimp only; omega)) (putB_yes rfl (by dsimp only; omega)) (by intro e; simp only [Hd.mk.injEq] at e; exact HCD.out (by omega))
    refine (PU.out ⟨1, 1, 1, 1 + c, 0, 0, 0, 0, []⟩ _ rfl (putB_yes rfl (by dsimp only; omega))).mono ?_
    rintro e w4 ⟨rfl, hb4⟩
    have HY4 : Hid (w4.heap[w.heap.size + 1]? = some (.cells (headC ⟨1, 1, 1, 1 + d, 0, 0, 0, 0, []⟩ (.slice none 0 0)) 24 (0, 0))) := (hb4.block _ (by simp [World.setCell] <;> omega)).trans ((heap_setCell_same _ _ 3 _ _ _ ((heap_setCell_other _ _ _ _ (by simp)).trans HY.out)).trans rfl)
    have HB4 : Hid (Below w.heap.size w w4) := ((HB.out.setCell (Nat.le_refl _) _).setCell (by simp) _).trans (hb4.mono (by have := HB.out.size; simp [World.setCell] <;> omega))
    clear hb4 HB HY x0 x1 x2 x3 x4 x5 x6 x7 x8 y0 y1 y2 y3 y4 y5 y6 y7 y8
    obtain ⟨y0, y1, y2, y3, y4, y5, y6, y7, y8⟩ := cells9 HY4.out
    go_wp2_with fail
    refine (PU.out ⟨1, 1, 1, 1 + d, 0, 0, 0, 0, []⟩ _ rfl (putB_yes rfl (by dsimp only; omega))).mono ?_
    rintro e w5 ⟨rfl, hb5⟩
    have HB5 : Hid (Below w.heap.size w w5) := HB4.out.trans (hb5.mono HB4.out.size)
    clear hb5 HB4 HY4 y0 y1 y2 y3 y4 y5 y6 y7 y8 PU
    generalize putS ⟨1, 1, 1, 1 + c, 0, 0, 0, 0, []⟩ ⟨#[]⟩ = S at *
    generalize putS ⟨1, 1, 1, 1 + d, 0, 0, 0, 0, []⟩ ⟨#[]⟩ = S2 at *
    go_wp2_with fail
    refine (AW.out _).mono ?_
    rintro e w6 ⟨rfl, hb6⟩
    have HB6 : Hid (Below w.heap.size w w6) := HB5.out.trans (hb6.mono HB5.out.size)
    clear hb6 HB5 AW
    go_wp2_with fail
    go_ret
    exact ⟨rfl, HB6.out⟩
  · have f := fx 4
    have f' := fy 4
    clear fx fy
    go_wp2_with fail
    have hq : ((putS ⟨1, 1, 1, 1, 1 + c, 0, 0, 0, []⟩ ⟨#[]⟩).toList == (putS ⟨1, 1, 1, 1, 1 + d, 0, 0, 0, []⟩ ⟨#[]⟩).toList) = false := putS_unlike (putB_yes rfl (by dsimp only; omega)) (putB_yes rfl (by dsimp only; omega)) (by intro e; simp only [Hd.mk.injEq] at e; exact HCD.out (by omega))
    refine (PU.out ⟨1, 1, 1, 1, 1 + c, 0, 0, 0, []⟩ _ rfl (putB_yes rfl (by dsimp only; omega))).mono ?_
    rintro e w4 ⟨rfl, hb4⟩
    have HY4 : Hid (w4.heap[w.heap.size + 1]? = some (.cells (headC ⟨1, 1, 1, 1, 1 + d, 0, 0, 0, []⟩ (.slice none 0 0)) 24 (0, 0))) := (hb4.block _ (by simp [World.setCell] <;> omega)).trans ((heap_setCell_same _ _ 4 _ _ _ ((heap_setCell_other _ _ _ _ (by simp)).trans HY.out)).trans rfl)
    have HB4 : Hid (Below w.heap.size w w4) := ((HB.out.setCell (Nat.le_refl _) _).setCell (by simp) _).trans (hb4.mono (by have := HB.out.size; simp [World.setCell] <;> omega))
    clear hb4 HB HY x0 x1 x2 x3 x4 x5 x6 x7 x8 y0 y1 y2 y3 y4 y5 y6 y7 y8
    obtain ⟨y0, y1, y2, y3, y4, y5, y6, y7, y8⟩ := cells9 HY4.out
    go_wp2_with fail
    refine (PU.out ⟨1, 1, 1, 1, 1 + d, 0, 0, 0, []⟩ _ rfl (putB_yes rfl (by dsimp only; omega))).mono ?_
    rintro e w5 ⟨rfl, hb5⟩
    have HB5 : Hid (Below w.heap.size w w5) := HB4.out.trans (hb5.mono HB4.out.size)
    clear hb5 HB4 HY4 y0 y1 y2 y3 y4 y5 y6 y7 y8 PU
    generalize putS ⟨1, 1, 1, 1, 1 + c, 0, 0, 0, []⟩ ⟨#[]⟩ = S at *
    generalize putS ⟨1, 1, 1, 1, 1 + d, 0, 0, 0, []⟩ ⟨#[]⟩ = S2 at *
    go_wp2_with fail
    refine (AW.out _).mono ?_
    rintro e w6 ⟨rfl, hb6⟩
    have HB6 : Hid (Below w.heap.size w w6) := HB5.out.trans (hb6.mono HB5.out.size)
    clear hb6 HB5 AW
    go_wp2_with fail
    go_ret
    exact ⟨rfl, HB6.out⟩
  · have f := fx 5
    have f' := fy 5
    clear fx fy
    go_wp2_with fail
    have hq : ((putS ⟨1, 1, 1, 1, 0, 1 + c, 0, 0, []⟩ ⟨#[]⟩).toList == (putS ⟨1, 1, 1, 1, 0, 1 + d, 0, 0, []⟩ ⟨#[]⟩).toList) = false := putS_unlike (putB_yes rfl (by dsimp only; omega)) (putB_yes rfl (by dsimp only; omega)) (by intro e; simp only [Hd.mk.injEq] at e; exact HCD.out (by omega))
    refine (PU.out ⟨1, 1, 1, 1, 0, 1 + c, 0, 0, []⟩ _ rfl (putB_yes rfl (by dsimp only; omega))).mono ?_
    rintro e w4 ⟨rfl, hb4⟩
    have HY4 : Hid (w4.heap[w.heap.size + 1]? = some (.cells (headC ⟨1, 1, 1, 1, 0, 1 + d, 0, 0, []⟩ (.slice none 0 0)) 24 (0, 0))) := (hb4.block _ (by simp [World.setCell] <;> omega)).trans ((heap_setCell_same _ _ 5 _ _ _ ((heap_setCell_other _ _ _ _ (by simp)).trans HY.out)).trans rfl)
    have HB4 : Hid (Below w.heap.size w w4) := ((HB.out.setCell (Nat.le_refl _) _).setCell (by simp) _).trans (hb4.mono (by have := HB.out.size; simp [World.setCell] <;> omega))
    clear hb4 HB HY x0 x1 x2 x3 x4 x5 x6 x7 x8 y0 y1 y2 y3 y4 y5 y6 y7 y8
    obtain ⟨y0, y1, y2, y3, y4, y5, y6, y7, y8⟩ := cells9 HY4.out
    go_wp2_with fail
    refine (PU.out ⟨1, 1, 1, 1, 0, 1 + d, 0, 0, []⟩ _ rfl (putB_yes rfl (by dsimp only; omega))).mono ?_
    rintro e w5 ⟨rfl, hb5⟩
    have HB5 : Hid (Below w.heap.size w w5) := HB4.out.trans (hb5.mono HB4.out.size)
    clear hb5 HB4 HY4 y0 y1 y2 y3 y4 y5 y6 y7 y8 PU
    generalize putS ⟨1, 1, 1, 1, 0, 1 + c, 0, 0, []⟩ ⟨#[]⟩ = S at *
    generalize putS ⟨1, 1, 1, 1, 0, 1 + d, 0, 0, []⟩ ⟨#[]⟩ = S2 at *
    go_wp2_with fail
    refine (AW.out _).mono ?_
    rintro e w6 ⟨rfl, hb6⟩
    have HB6 : Hid (Below w.heap.size w w6) := HB5.out.trans (hb6.mono HB5.out.size)
    clear hb6 HB5 AW
    go_wp2_with fail
    go_ret
    exact ⟨rfl, HB6.out⟩
  · have f := fx 6
    have f' := fy 6
    clear fx fy
    go_wp2_with fail
    have hq : ((putS ⟨1, 1, 1, 1, 0, 0, 1 + c, 0, []⟩ ⟨#[]⟩).toList == (putS ⟨1, 1, 1, 1, 0, 0, 1 + d, 0, []⟩ ⟨#[]⟩).toList) = false := putS_unlike (putB_yes rfl (by dsimp only; omega)) (putB_yes rfl (by dsimp only; omega)) (by intro e; simp only [Hd.mk.injEq] at e; exact HCD.out (by omega))
    refine (PU.out ⟨1, 1, 1, 1, 0, 0, 1 + c, 0, []⟩ _ rfl (putB_yes rfl (by dsimp only; omega))).mono ?_
    rintro e w4 ⟨rfl, hb4⟩
    have HY4 : Hid (w4.heap[w.heap.size + 1]? = some (.cells (headC ⟨1, 1, 1, 1, 0, 0, 1 + d, 0, []⟩ (.slice none 0 0)) 24 (0, 0))) := (hb4.block _ (by simp [World.setCell] <;> omega)).trans ((heap_setCell_same _ _ 6 _ _ _ ((heap_setCell_other _ _ _ _ (by simp)).trans HY.out)).trans rfl)
    have HB4 : Hid (Below w.heap.size w w4) := ((HB.out.setCell (Nat.le_refl _) _).setCell (by simp) _).trans (hb4.mono (by have := HB.out.size; simp [World.setCell] <;> omega))
    clear hb4 HB HY x0 x1 x2 x3 x4 x5 x6 x7 x8 y0 y1 y2 y3 y4 y5 y6 y7 y8
    obtain ⟨y0, y1, y2, y3, y4, y5, y6, y7, y8⟩ := cells9 HY4.out
    go_wp2_with fail
    refine (PU.out ⟨1, 1, 1, 1, 0, 0, 1 + d, 0, []⟩ _ rfl (putB_yes rfl (by dsimp only; omega))).mono ?_
    rintro e w5 ⟨rfl, hb5⟩
    have HB5 : Hid (Below w.heap.size w w5) := HB4.out.trans (hb5.mono HB4.out.size)
    clear hb5 HB4 HY4 y0 y1 y2 y3 y4 y5 y6 y7 y8 PU
    generalize putS ⟨1, 1, 1, 1, 0, 0, 1 + c, 0, []⟩ ⟨#[]⟩ = S at *
    generalize putS ⟨1, 1, 1, 1, 0, 0, 1 + d, 0, []⟩ ⟨#[]⟩ = S2 at *
    go_wp2_with fail
    refine (AW.out _).mono ?_
    rintro e w6 ⟨rfl, hb6⟩
    have HB6 : Hid (Below w.heap.size w w6) := HB5.out.trans (hb6.mono HB5.out.size)
    clear hb6 HB5 AW
    go_wp2_with fail
    go_ret
    exact ⟨rfl, HB6.out⟩
  · have f := fx 7
    have f' := fy 7
    clear fx fy
    go_wp2_with fail
    have hq : ((putS ⟨1, 1, 1, 1, 0, 0, 0, 1 + c, []⟩ ⟨#[]⟩).toList == (putS ⟨1, 1, 1, 1, 0, 0, 0, 1 + d, []⟩ ⟨#[]⟩).toList) = false := putS_unlike (putB_yes rfl (by dsimp only; omega)) (putB_yes rfl (by dsimp only; omega)) (by intro e; simp only [Hd.mk.injEq] at e; exact HCD.out (by omega))
    refine (PU.out ⟨1, 1, 1, 1, 0, 0, 0, 1 + c, []⟩ _ rfl (putB_yes rfl (by dsimp only; omega))).mono ?_
    rintro e w4 ⟨rfl, hb4⟩
    have HY4 : Hid (w4.heap[w.heap.size + 1]? = some (.cells (headC ⟨1, 1, 1, 1, 0, 0, 0, 1 + d, []⟩ (.slice none 0 0)) 24 (0, 0))) := (hb4.block _ (by simp [World.setCell] <;> omega)).trans ((heap_setCell_same _ _ 7 _ _ _ ((heap_setCell_other _ _ _ _ (by simp)).trans HY.out)).trans rfl)
    have HB4 : Hid (Below w.heap.size w w4) := ((HB.out.setCell (Nat.le_refl _) _).setCell (by simp) _).trans (hb4.mono (by have := HB.out.size; simp [World.setCell] <;> omega))
    clear hb4 HB HY x0 x1 x2 x3 x4 x5 x6 x7 x8 y0 y1 y2 y3 y4 y5 y6 y7 y8
    obtain ⟨y0, y1, y2, y3, y4, y5, y6, y7, y8⟩ := cells9 HY4.out
    go_wp2_with fail
    refine (PU.out ⟨1, 1, 1, 1, 0, 0, 0, 1 + d, []⟩ _ rfl (putB_yes rfl (by dsimp only; omega))).mono ?_
    rintro e w5 ⟨rfl, hb5⟩
    have HB5 : Hid (Below w.heap.size w w5) := HB4.out.trans (hb5.mono HB4.out.size)
    clear hb5 HB4 HY4 y0 y1 y2 y3 y4 y5 y6 y7 y8 PU
    generalize putS ⟨1, 1, 1, 1, 0, 0, 0, 1 + c, []⟩ ⟨#[]⟩ = S at *
    generalize putS ⟨1, 1, 1, 1, 0, 0, 0, 1 + d, []⟩ ⟨#[]⟩ = S2 at *
    go_wp2_with fail
    refine (AW.out _).mono ?_
    rintro e w6 ⟨rfl, hb6⟩
    have HB6 : Hid (Below w.heap.size w w6) := HB5.out.trans (hb6.mono HB5.out.size)
    clear hb6 HB5 AW
    go_wp2_with fail
    go_ret
    exact ⟨rfl, HB6.out⟩

theorem headApart_t (how v u : Int) (w : World) :
    Calls Try.prog 6 #[.int .i64 how, .int .i64 v, .int .i64 u] w fun e w' => e = .returned (.bool true) ∧ Below w.heap.size w w' := by
  have c0 := Int.emod_nonneg v (show (16 : Int) ≠ 0 by decide)
  have c1 := Int.emod_lt_of_pos v (show (0 : Int) < 16 by decide)
  have d0 := Int.emod_nonneg u (show (16 : Int) ≠ 0 by decide)
  have d1 := Int.emod_lt_of_pos u (show (0 : Int) < 16 by decide)
  by_cases h : v % 16 = u % 16
  · exact headApart_eq how v u (v % 16) w rfl h.symm c0 c1
  · exact headApart_ne how v u (v % 16) (u % 16) w rfl rfl c0 c1 d0 d1 h
end Go.Proofs.Ytmhhlchddkdjnaa
