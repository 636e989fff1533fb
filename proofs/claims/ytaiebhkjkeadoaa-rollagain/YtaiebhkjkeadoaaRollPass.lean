/- The place behind a chunk: pass walked. -/
import Derived.Test.YtaiebhkjkeadoaaRollAt
namespace Go.Proofs.Ytaiebhkjkeadoaa
open Go.RowKit Lo Hdp Rol Chk

/-- A walk's place stored. -/
def setPl (w : World) (wb : Nat) (a9 a10 a11 a12 a8 a17 a18 : Value) : World := (((((((w.setCell ⟨wb, 9, none⟩ a9).setCell ⟨wb, 10, none⟩ a10).setCell ⟨wb, 11, none⟩ a11).setCell ⟨wb, 12, none⟩ a12).setCell ⟨wb, 8, none⟩ a8).setCell ⟨wb, 17, none⟩ a17).setCell ⟨wb, 18, none⟩ a18)
theorem setPl_row {w : World} {wb : Nat} {c0 c1 c2 c3 c4 c5 c6 c7 c8 c9 c10 c11 c12 c13 c14 c15 c16 c17 c18 : Value} {t : TypeId} (h : w.heap[wb]? = some (.cells #[c0, c1, c2, c3, c4, c5, c6, c7, c8, c9, c10, c11, c12, c13, c14, c15, c16, c17, c18] t (0, 0))) (a9 a10 a11 a12 a8 a17 a18 : Value) :
    (setPl w wb a9 a10 a11 a12 a8 a17 a18).heap[wb]? = some (.cells #[c0, c1, c2, c3, c4, c5, c6, c7, a8, a9, a10, a11, a12, c13, c14, c15, c16, a17, a18] t (0, 0)) := by
  have e2 : (((((((#[c0, c1, c2, c3, c4, c5, c6, c7, c8, c9, c10, c11, c12, c13, c14, c15, c16, c17, c18].setIfInBounds 9 a9).setIfInBounds 10 a10).setIfInBounds 11 a11).setIfInBounds 12 a12).setIfInBounds 8 a8).setIfInBounds 17 a17).setIfInBounds 18 a18) = #[c0, c1, c2, c3, c4, c5, c6, c7, a8, a9, a10, a11, a12, c13, c14, c15, c16, a17, a18] := by
    apply Array.ext_getElem?
    intro i
    by_cases hi : i < 19
    · rcases (show i = 0 ∨ i = 1 ∨ i = 2 ∨ i = 3 ∨ i = 4 ∨ i = 5 ∨ i = 6 ∨ i = 7 ∨ i = 8 ∨ i = 9 ∨ i = 10 ∨ i = 11 ∨ i = 12 ∨ i = 13 ∨ i = 14 ∨ i = 15 ∨ i = 16 ∨ i = 17 ∨ i = 18 by omega) with rfl | rfl | rfl | rfl | rfl | rfl | rfl | rfl | rfl | rfl | rfl | rfl | rfl | rfl | rfl | rfl | rfl | rfl | rfl <;> simp
    · rw [Array.getElem?_eq_none (by simp; omega), Array.getElem?_eq_none (by simp; omega)]
  rw [← e2]
  generalize #[c0, c1, c2, c3, c4, c5, c6, c7, c8, c9, c10, c11, c12, c13, c14, c15, c16, c17, c18] = C at h ⊢
  unfold setPl
  exact heap_setCell_same _ _ 18 _ _ _ (heap_setCell_same _ _ 17 _ _ _ (heap_setCell_same _ _ 8 _ _ _ (heap_setCell_same _ _ 12 _ _ _ (heap_setCell_same _ _ 11 _ _ _ (heap_setCell_same _ _ 10 _ _ _ (heap_setCell_same _ _ 9 _ _ _ h))))))
theorem setPl_keep {w W : World} (wb : Nat) (h : Keep (fun k => k = wb) w W) (a9 a10 a11 a12 a8 a17 a18 : Value) : Keep (fun k => k = wb) w (setPl W wb a9 a10 a11 a12 a8 a17 a18) :=
  Keep.setCell (Keep.setCell (Keep.setCell (Keep.setCell (Keep.setCell (Keep.setCell (Keep.setCell h (p := ⟨wb, 9, none⟩) (fun _ => rfl) _) (p := ⟨wb, 10, none⟩) (fun _ => rfl) _) (p := ⟨wb, 11, none⟩) (fun _ => rfl) _) (p := ⟨wb, 12, none⟩) (fun _ => rfl) _) (p := ⟨wb, 8, none⟩) (fun _ => rfl) _) (p := ⟨wb, 17, none⟩) (fun _ => rfl) _) (p := ⟨wb, 18, none⟩) (fun _ => rfl) _
/-- The walk's world under one name. -/
theorem setPl_is (w : World) (wb : Nat) (a9 a10 a11 a12 a8 a17 a18 : Value) : (((((((w.setCell ⟨wb, 9, none⟩ a9).setCell ⟨wb, 10, none⟩ a10).setCell ⟨wb, 11, none⟩ a11).setCell ⟨wb, 12, none⟩ a12).setCell ⟨wb, 8, none⟩ a8).setCell ⟨wb, 17, none⟩ a17).setCell ⟨wb, 18, none⟩ a18) = setPl w wb a9 a10 a11 a12 a8 a17 a18 := rfl
theorem drew_row (w : World) (k : Nat) : w.drew.drew.heap[k]? = w.heap[k]? := rfl

set_option maxRecDepth 10000 in
set_option maxHeartbeats 4000000 in
theorem rpass_t (wb b : Nat) (S G : Int) (L : Lg) (v : Value) (f : Fnd) (hv : Value) (bad : Option Addr) (bcap : Nat) (t : TypeId) (w : World) (h : w.heap[wb]? = some (.cells (wkC b S G L v) t (0, 0))) (h0 : 0 ≤ f.pos) (h1 : f.pos ≤ 1000) (h2 : f.bl.length ≤ 1000) (h3 : 0 ≤ L.seq) (h4 : L.seq ≤ 1125899906842624) :
    Calls Try.prog 36 #[.pointer (some ⟨wb, 0, none⟩), .agg (fdC f hv (.slice bad f.bl.length bcap))] w fun e w' => e = .returned (.tuple #[]) ∧ w'.heap[wb]? = some (.cells (wkC b S G (past L f) v) t (0, 0)) ∧ Keep (fun k => k = wb) w w' := by
  have HR := rohid h
  have hlt : wb < w.heap.size := (Array.getElem?_eq_some_iff.1 h).1
  clear h
  obtain ⟨house, gen, num, life, clock, seg, pos, next, seq, m0, m1, m2, m3, sb, sn, fl⟩ := L
  obtain ⟨fseg, fpos, ⟨xh, xg, xl, xs, xn, xc, xb, xm, xe⟩, bl⟩ := f
  dsimp only [fdC, past] at *
  generalize hN : bl.length = N at *
  clear hN
  go_enter Try.func36, Try.ntmps36
  go_wp2_with fail
  generalize hW : World.alloc w _ = W
  have HX : W.heap[w.heap.size]? = some (.cells #[.int .i64 fseg, .int .i64 fpos, .int .i64 xh, .int .i64 xg, .int .i64 xl, .int .i64 xs, .int .i64 xn, .int .i64 xc, .int .i64 xb, .int .i64 xm, hv, .slice bad N bcap] 46 (0, 0)) := by rw [← hW]; exact heap_alloc_new _ _
  have hRW : W.heap[wb]? = some (.cells (wkC b S G ⟨house, gen, num, life, clock, seg, pos, next, seq, m0, m1, m2, m3, sb, sn, fl⟩ v) t (0, 0)) := by rw [← hW]; exact (heap_alloc_old _ _ hlt).trans HR.out
  have HRW := rohid hRW
  have HK : Hid (Keep (fun k => k = wb) w W) := by rw [← hW]; exact (Keep.refl _ _).alloc _
  have x0 : W.cell? ⟨w.heap.size, 0, none⟩ = some (.int .i64 fseg) := (cell_of_row _ _ _ _ _ _ HX).trans rfl
  have x1 : W.cell? ⟨w.heap.size, 1, none⟩ = some (.int .i64 fpos) := (cell_of_row _ _ _ _ _ _ HX).trans rfl
  have x6 : W.cell? ⟨w.heap.size, 6, none⟩ = some (.int .i64 xn) := (cell_of_row _ _ _ _ _ _ HX).trans rfl
  have x7 : W.cell? ⟨w.heap.size, 7, none⟩ = some (.int .i64 xc) := (cell_of_row _ _ _ _ _ _ HX).trans rfl
  have x8 : W.cell? ⟨w.heap.size, 8, none⟩ = some (.int .i64 xb) := (cell_of_row _ _ _ _ _ _ HX).trans rfl
  have x9 : W.cell? ⟨w.heap.size, 9, none⟩ = some (.int .i64 xm) := (cell_of_row _ _ _ _ _ _ HX).trans rfl
  have x11 : W.cell? ⟨w.heap.size, 11, none⟩ = some (.slice bad N bcap) := (cell_of_row _ _ _ _ _ _ HX).trans rfl
  have c8 : W.cell? ⟨wb, 8, none⟩ = some (.int .i64 clock) := (cell_of_row _ _ _ _ _ _ hRW).trans rfl
  have c9 : W.cell? ⟨wb, 9, none⟩ = some (.int .i64 seg) := (cell_of_row _ _ _ _ _ _ hRW).trans rfl
  have c10 : W.cell? ⟨wb, 10, none⟩ = some (.int .i64 pos) := (cell_of_row _ _ _ _ _ _ hRW).trans rfl
  have c11 : W.cell? ⟨wb, 11, none⟩ = some (.int .i64 next) := (cell_of_row _ _ _ _ _ _ hRW).trans rfl
  have c12 : W.cell? ⟨wb, 12, none⟩ = some (.int .i64 seq) := (cell_of_row _ _ _ _ _ _ hRW).trans rfl
  have c17 : W.cell? ⟨wb, 17, none⟩ = some (.int .i64 sb) := (cell_of_row _ _ _ _ _ _ hRW).trans rfl
  have c18 : W.cell? ⟨wb, 18, none⟩ = some (.int .i64 sn) := (cell_of_row _ _ _ _ _ _ hRW).trans rfl
  have f8 := frozen_of_row W wb 8 _ _ hRW
  have f9 := frozen_of_row W wb 9 _ _ hRW
  have f10 := frozen_of_row W wb 10 _ _ hRW
  have f11 := frozen_of_row W wb 11 _ _ hRW
  have f12 := frozen_of_row W wb 12 _ _ hRW
  have f17 := frozen_of_row W wb 17 _ _ hRW
  have f18 := frozen_of_row W wb 18 _ _ hRW
  have hne : w.heap.size ≠ wb := by omega
  have hne2 : wb ≠ w.heap.size := by omega
  clear hW HX hRW HR
  go_region
  go_wp2_with fail
  go_region
  go_wp2_with fail
  go_end0
  rw [setPl_is]
  refine ⟨rfl, ?_, ?_⟩
  · rw [drew_row]
    exact setPl_row HRW.out _ _ _ _ _ _ _
  · exact ((setPl_keep wb HK.out _ _ _ _ _ _ _).drew).drew
end Go.Proofs.Ytaiebhkjkeadoaa
