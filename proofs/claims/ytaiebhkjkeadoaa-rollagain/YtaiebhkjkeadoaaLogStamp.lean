/- stamp walked: a head with the log's own numbers. -/
import Derived.Test.YtaiebhkjkeadoaaLogGround
import Derived.Test.YtaiebhkjkeadoaaChunkRes
import Derived.BigRegion
namespace Go.Proofs.Ytaiebhkjkeadoaa
open Go.RowKit Lo Hdp

/-- A head with the log's own numbers. -/
def Lg.head (L : Lg) (x : Hd) : Hd := ⟨L.house, L.gen, L.life, L.seq, L.next, x.clock, x.sb, x.sn, x.list⟩

set_option maxRecDepth 10000 in
set_option maxHeartbeats 4000000 in
theorem stamp_t (lb : Nat) (L : Lg) (x : Hd) (ad : Option Addr) (n cap : Nat) (w : World) (c3 : w.cell? ⟨lb, 3, none⟩ = some (.int .i64 L.house)) (c4 : w.cell? ⟨lb, 4, none⟩ = some (.int .i64 L.gen)) :
    Calls Try.prog 32 #[.pointer (some ⟨lb, 0, none⟩), headV x (.slice ad n cap), plV L] w fun e w' => e = .returned (headV (L.head x) (.slice ad n cap)) ∧ Below w.heap.size w w' := by
  have HH : Hid (L.head x = ⟨L.house, L.gen, L.life, L.seq, L.next, x.clock, x.sb, x.sn, x.list⟩) := rfl
  have hlb := block_lt_of_cell c3
  generalize L.head x = X at *
  obtain ⟨house, gen, num, life, clock, seg, pos, next, seq, m0, m1, m2, m3, sb, sn, free⟩ := L
  obtain ⟨xh, xg, xl, xs, xn, xc, xb, xm, xe⟩ := x
  dsimp only at c3 c4 HH
  dsimp only [plV, plC]
  have HX := HH.out
  subst HX
  clear HH
  go_enter Try.func32, Try.ntmps32
  go_wp2_with fail
  generalize hW : World.alloc (World.alloc (World.alloc w _) _) _ = W
  have HB : Hid (Below w.heap.size w W) := by rw [← hW]; exact (((Below.refl _ w).alloc (Nat.le_refl _) _).alloc (by simp) _).alloc (by simp; omega) _
  have R0 : Hid (W.heap[w.heap.size]? = some (.cells (headC ⟨xh, xg, xl, xs, xn, xc, xb, xm, xe⟩ (.slice ad n cap)) 43 (0, 0))) := by
    rw [← hW]
    rw [Below.heap_alloc _ _ _ (by simp; omega)]
    exact heap_alloc2_old _ _ _
  have R1 : Hid (W.heap[w.heap.size + 1]? = some (.cells #[.int .i64 num, .int .i64 life, .int .i64 clock, .int .i64 seg, .int .i64 pos, .int .i64 next, .int .i64 seq, .int .i64 m0, .int .i64 m1, .int .i64 m2, .int .i64 m3, .int .i64 sb, .int .i64 sn] 29 (0, 0))) := by
    rw [← hW]
    rw [Below.heap_alloc _ _ _ (by simp)]
    exact heap_alloc2_new _ _ _
  have R2 : Hid (∃ v, W.heap[w.heap.size + 2]? = some (.cells (headC Hd.z v) 43 (0, 0))) := by
    refine ⟨.slice none 0 0, ?_⟩
    rw [← hW]
    rw [show w.heap.size + 2 = (World.alloc (World.alloc w _) _).heap.size by simp]
    exact heap_alloc_new _ _
  clear hW
  have k3 : W.cell? ⟨lb, 3, none⟩ = some (.int .i64 house) := (HB.out.cell hlb).trans c3
  have k4 : W.cell? ⟨lb, 4, none⟩ = some (.int .i64 gen) := (HB.out.cell hlb).trans c4
  clear c3 c4
  obtain ⟨-, q1, -, -, -, q5, q6, -⟩ := cells13 R1.out
  obtain ⟨p0, p1, p2, p3, p4, -⟩ := cells9 R0.out
  have f0 : ∀ k, W.frozen? ⟨w.heap.size, k, none⟩ = false := fun k => frozen_of_row W _ k _ _ R0.out
  have hne : w.heap.size ≠ lb := by omega
  go_region
  generalize hV : World.drew _ = V
  have G0 : Hid (V.heap[w.heap.size]? = some (.cells (headC ⟨house, gen, life, seq, next, xc, xb, xm, xe⟩ (.slice ad n cap)) 43 (0, 0))) := by
    rw [← hV]
    exact heap_setCell_same _ _ 4 _ _ _ (heap_setCell_same _ _ 3 _ _ _ (heap_setCell_same _ _ 2 _ _ _ (heap_setCell_same _ _ 1 _ _ _ (heap_setCell_same _ _ 0 _ _ _ R0.out))))
  have G2 : Hid (∃ v, V.heap[w.heap.size + 2]? = some (.cells (headC Hd.z v) 43 (0, 0))) := by
    obtain ⟨v, hv⟩ := R2.out
    refine ⟨v, ?_⟩
    rw [← hV]
    show (World.setCell _ _ _).heap[_]? = _
    rw [heap_setCell_other _ _ _ _ (by simp), heap_setCell_other _ _ _ _ (by simp), heap_setCell_other _ _ _ _ (by simp), heap_setCell_other _ _ _ _ (by simp), heap_setCell_other _ _ _ _ (by simp)]
    exact hv
  have HBV : Hid (Below w.heap.size w V) := by
    rw [← hV]
    exact (Below.setCell (Below.setCell (Below.setCell (Below.setCell (Below.setCell HB.out (Nat.le_refl _) _) (Nat.le_refl _) _) (Nat.le_refl _) _) (Nat.le_refl _) _) (Nat.le_refl _) _).drew
  clear hV R0 R1 R2 HB p0 p1 p2 p3 p4 q1 q5 q6 f0 k3 k4
  obtain ⟨v, hz⟩ := G2.out
  have HZ := hdhid hz
  clear hz G2
  go_wp2_with (first
    | (refine wpList_load_row rfl 43 (.tmp 4) rfl w.heap.size rfl 43 _ (0, 0) _ G0.out Try.underlying43 rfl Try.headSize ?_)
    | (refine wpList_store_row rfl 43 (.tmp 6) (.tmp 26) rfl (w.heap.size + 2) (headC ⟨house, gen, life, seq, next, xc, xb, xm, xe⟩ (.slice ad n cap)) rfl rfl 43 _ HZ.out Try.headSize rfl (headC_one _ _ _ _) ?_)
    | fail)
  refine bodyPost_ret (v := headV ⟨house, gen, life, seq, next, xc, xb, xm, xe⟩ (.slice ad n cap)) (results_cell_row Try.results32 _ _ (w.heap.size + 2) 43 (headC ⟨house, gen, life, seq, next, xc, xb, xm, xe⟩ (.slice ad n cap)) (0, 0) _ rfl (setRow_heap _ _ _ _ _ _ HZ.out) Try.underlying43 rfl Try.headSize) rfl ⟨rfl, ?_⟩
  exact below_setRow HBV.out (by omega) _
end Go.Proofs.Ytaiebhkjkeadoaa
