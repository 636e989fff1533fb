/- The log's small functions walked: block, has, sector, holds, by values. -/
import Derived.Test.YtaiebhkjkeadoaaLogLay
import Derived.Deep.RegionHeld3
import Derived.Deep.QuietTactic
import Derived.BigQuiet
namespace Go.Proofs.Ytaiebhkjkeadoaa
open Go.RowKit Lo

theorem lgwrap (x : Int) (h1 : -9223372036854775808 ≤ x) (h2 : x ≤ 9223372036854775807) : IntKind.i64.wrap x = x := by
  simp only [IntKind.wrap, IntKind.signed, IntKind.bits]
  simp
  omega

theorem lo_undrew {B : Nat} {w w' : World} (h : Below B w.drew w') : Below B w w' := ⟨h.os, h.tape, h.output, h.size, h.block⟩

/-- Segs answers n. -/
def SegsSaid (S G n : Int) : Prop := ∀ w : World, Calls Try.prog 45 #[geomV S G] w fun e w' => e = .returned (.int .i64 n) ∧ Below w.heap.size w w'

set_option maxHeartbeats 1000000 in
theorem block_t (T : ByteArray) (k : Nat) (i : Int) (j : Nat) (w : World) (hT : T.size = 256 * (1 + k)) (hi : i = (j : Int)) (hj : j ≤ k) (hk : k ≤ 1000000) :
    Calls Try.prog 41 #[.string T, .int .i64 i] w fun e w' => e = .returned (.string (blkT T j)) ∧ w = w' := by
  subst hi
  have e : T.extract (256 * j) (256 * j + 256) = blkT T j := rfl
  obtain ⟨p, hp⟩ : ∃ p : Nat, 256 * j = p := ⟨_, rfl⟩
  have hp1 : (j : Int) * 256 = (p : Int) := by omega
  have hp2 : ((j : Int) + 1) * 256 = ((p + 256 : Nat) : Int) := by omega
  have hp3 : p + 256 ≤ T.size := by omega
  rw [hp] at e
  clear hp hT
  generalize blkT T j = R at *
  go_enter Try.func41, Try.ntmps41
  go_wp2_with fail
  go_ret
  exact ⟨by rw [← e]; rfl, rfl⟩

/-- What a call that makes blocks leaves of four cells. -/
theorem segs_four {S G n : Int} (hS : SegsSaid S G n) (w : World) (a b c d : Addr) (x y z u : Value) (c0 : w.cell? a = some x) (c1 : w.cell? b = some y) (c2 : w.cell? c = some z) (c3 : w.cell? d = some u) :
    Calls Try.prog 45 #[geomV S G] w fun e w' => e = .returned (.int .i64 n) ∧ Hid (Below w.heap.size w w') ∧ w'.cell? a = some x ∧ w'.cell? b = some y ∧ w'.cell? c = some z ∧ w'.cell? d = some u :=
  (hS w).mono fun _ _ ⟨he, hb⟩ => ⟨he, hb, by rw [hb.cell (block_lt_of_cell c0)]; exact c0, by rw [hb.cell (block_lt_of_cell c1)]; exact c1, by rw [hb.cell (block_lt_of_cell c2)]; exact c2, by rw [hb.cell (block_lt_of_cell c3)]; exact c3⟩

set_option maxHeartbeats 2000000 in
theorem has_yes (b : Nat) (S G n : Int) (L : Lg) (w : World) (hS : SegsSaid S G n) (h0 : 0 ≤ L.pos) (h1 : 0 ≤ L.seg) (h2 : L.seg < n) :
    Calls Try.prog 38 #[grV b S G, plV L] w fun e w' => e = .returned (.bool true) ∧ Below w.heap.size w w' := by
  have HC := lohid hS
  clear hS
  obtain ⟨house, gen, num, life, clock, seg, pos, next, seq, m0, m1, m2, m3, sb, sn, free⟩ := L
  dsimp only at h0 h1 h2
  dsimp only [plV, plC]
  go_enter Try.func38, Try.ntmps38
  go_wp2_with fail
  generalize hW : World.alloc (World.alloc w _) _ = W
  have R0 : W.heap[w.heap.size]? = some (.cells #[.pointer (some ⟨b, 0, none⟩), .int .i64 S, .int .i64 G] 75 (0, 0)) := by rw [← hW]; exact heap_alloc2_old _ _ _
  have R1 : W.heap[w.heap.size + 1]? = some (.cells #[.int .i64 num, .int .i64 life, .int .i64 clock, .int .i64 seg, .int .i64 pos, .int .i64 next, .int .i64 seq, .int .i64 m0, .int .i64 m1, .int .i64 m2, .int .i64 m3, .int .i64 sb, .int .i64 sn] 29 (0, 0)) := by rw [← hW]; exact heap_alloc2_new _ _ _
  have d0 : W.cell? ⟨w.heap.size, 1, none⟩ = some (.int .i64 S) := (cell_of_row _ _ _ _ _ _ R0).trans rfl
  have d1 : W.cell? ⟨w.heap.size, 2, none⟩ = some (.int .i64 G) := (cell_of_row _ _ _ _ _ _ R0).trans rfl
  have d2 : W.cell? ⟨w.heap.size + 1, 3, none⟩ = some (.int .i64 seg) := (cell_of_row _ _ _ _ _ _ R1).trans rfl
  have d3 : W.cell? ⟨w.heap.size + 1, 4, none⟩ = some (.int .i64 pos) := (cell_of_row _ _ _ _ _ _ R1).trans rfl
  have HB : Hid (Below w.heap.size w W) := by rw [← hW]; exact ((Below.refl _ w).alloc (Nat.le_refl _) _).alloc (by simp) _
  clear hW R0 R1
  go_region_held3 (fun w' => w'.cell? ⟨w.heap.size, 1, none⟩ = some (.int .i64 S) ∧ w'.cell? ⟨w.heap.size, 2, none⟩ = some (.int .i64 G) ∧ w'.cell? ⟨w.heap.size + 1, 3, none⟩ = some (.int .i64 seg) ∧ w'.cell? ⟨w.heap.size + 1, 4, none⟩ = some (.int .i64 pos)) (go_keep)
    (first
      | (go_at_call 45; refine (segs_four HC.out _ ⟨w.heap.size, 1, none⟩ ⟨w.heap.size, 2, none⟩ ⟨w.heap.size + 1, 3, none⟩ ⟨w.heap.size + 1, 4, none⟩ (.int .i64 S) (.int .i64 G) (.int .i64 seg) (.int .i64 pos) ?_ ?_ ?_ ?_).mono ?_; (first | assumption | simp [*]); (first | assumption | simp [*]); (first | assumption | simp [*]); (first | assumption | simp [*]); rintro e w1 ⟨rfl, hb1, hc1, hc2, hc3, hc4⟩))
  go_wp2_with fail
  go_ret
  exact ⟨rfl, HB.out.trans ((lo_undrew hb1.out).mono HB.out.size)⟩

/-- Start answers F0. -/
def StartSaid (S G k F0 : Int) : Prop := ∀ w : World, Calls Try.prog 43 #[geomV S G, .int .i64 k] w fun e w' => e = .returned (.int .i64 F0) ∧ Below w.heap.size w w'
theorem start_four {S G k n : Int} (hS : StartSaid S G k n) (w : World) (a b c d : Addr) (x y z u : Value) (c0 : w.cell? a = some x) (c1 : w.cell? b = some y) (c2 : w.cell? c = some z) (c3 : w.cell? d = some u) :
    Calls Try.prog 43 #[geomV S G, .int .i64 k] w fun e w' => e = .returned (.int .i64 n) ∧ Hid (Below w.heap.size w w') ∧ w'.cell? a = some x ∧ w'.cell? b = some y ∧ w'.cell? c = some z ∧ w'.cell? d = some u :=
  (hS w).mono fun _ _ ⟨he, hb⟩ => ⟨he, hb, by rw [hb.cell (block_lt_of_cell c0)]; exact c0, by rw [hb.cell (block_lt_of_cell c1)]; exact c1, by rw [hb.cell (block_lt_of_cell c2)]; exact c2, by rw [hb.cell (block_lt_of_cell c3)]; exact c3⟩

set_option maxHeartbeats 2000000 in
theorem sector_t (b : Nat) (S G F0 F : Int) (L : Lg) (w : World) (hS : StartSaid S G L.seg F0) (hF : F0 + L.pos = F) (h0 : -1000000 ≤ F) (h1 : F ≤ 1000000) :
    Calls Try.prog 34 #[grV b S G, plV L] w fun e w' => e = .returned (.int .i64 F) ∧ Below w.heap.size w w' := by
  have HC := lohid hS
  clear hS
  obtain ⟨house, gen, num, life, clock, seg, pos, next, seq, m0, m1, m2, m3, sb, sn, free⟩ := L
  dsimp only at HC hF
  dsimp only [plV, plC]
  have hwr : wrap64 F = F := Go.IntWalk.wrap64_in F (by omega)
  go_enter Try.func34, Try.ntmps34
  go_wp2_with fail
  generalize hW : World.alloc (World.alloc w _) _ = W
  have R0 : W.heap[w.heap.size]? = some (.cells #[.pointer (some ⟨b, 0, none⟩), .int .i64 S, .int .i64 G] 75 (0, 0)) := by rw [← hW]; exact heap_alloc2_old _ _ _
  have R1 : W.heap[w.heap.size + 1]? = some (.cells #[.int .i64 num, .int .i64 life, .int .i64 clock, .int .i64 seg, .int .i64 pos, .int .i64 next, .int .i64 seq, .int .i64 m0, .int .i64 m1, .int .i64 m2, .int .i64 m3, .int .i64 sb, .int .i64 sn] 29 (0, 0)) := by rw [← hW]; exact heap_alloc2_new _ _ _
  have d0 : W.cell? ⟨w.heap.size, 1, none⟩ = some (.int .i64 S) := (cell_of_row _ _ _ _ _ _ R0).trans rfl
  have d1 : W.cell? ⟨w.heap.size, 2, none⟩ = some (.int .i64 G) := (cell_of_row _ _ _ _ _ _ R0).trans rfl
  have d2 : W.cell? ⟨w.heap.size + 1, 3, none⟩ = some (.int .i64 seg) := (cell_of_row _ _ _ _ _ _ R1).trans rfl
  have d3 : W.cell? ⟨w.heap.size + 1, 4, none⟩ = some (.int .i64 pos) := (cell_of_row _ _ _ _ _ _ R1).trans rfl
  have HB : Hid (Below w.heap.size w W) := by rw [← hW]; exact ((Below.refl _ w).alloc (Nat.le_refl _) _).alloc (by simp) _
  clear hW R0 R1
  go_region_held3 (fun w' => w'.cell? ⟨w.heap.size, 1, none⟩ = some (.int .i64 S) ∧ w'.cell? ⟨w.heap.size, 2, none⟩ = some (.int .i64 G) ∧ w'.cell? ⟨w.heap.size + 1, 3, none⟩ = some (.int .i64 seg) ∧ w'.cell? ⟨w.heap.size + 1, 4, none⟩ = some (.int .i64 pos)) (go_keep)
    (first
      | (go_at_call 43; refine (start_four HC.out _ ⟨w.heap.size, 1, none⟩ ⟨w.heap.size, 2, none⟩ ⟨w.heap.size + 1, 3, none⟩ ⟨w.heap.size + 1, 4, none⟩ (.int .i64 S) (.int .i64 G) (.int .i64 seg) (.int .i64 pos) ?_ ?_ ?_ ?_).mono ?_; (first | assumption | simp [*]); (first | assumption | simp [*]); (first | assumption | simp [*]); (first | assumption | simp [*]); rintro e w1 ⟨rfl, hb1, hc1, hc2, hc3, hc4⟩))
  go_wp2_with fail
  go_ret
  exact ⟨geomEnd (by first | exact lgwrap F (by omega) (by omega) | exact hF | (rw [hF]; exact lgwrap F (by omega) (by omega)) | (rw [hF]; exact hwr)), HB.out.trans ((lo_undrew hb1.out).mono HB.out.size)⟩

theorem cells13 {w : World} {b : Nat} {num life clock seg pos next seq m0 m1 m2 m3 sb sn : Int} {t : TypeId} (h : w.heap[b]? = some (.cells #[.int .i64 num, .int .i64 life, .int .i64 clock, .int .i64 seg, .int .i64 pos, .int .i64 next, .int .i64 seq, .int .i64 m0, .int .i64 m1, .int .i64 m2, .int .i64 m3, .int .i64 sb, .int .i64 sn] t (0, 0))) :
    w.cell? ⟨b, 0, none⟩ = some (.int .i64 num) ∧ w.cell? ⟨b, 1, none⟩ = some (.int .i64 life) ∧ w.cell? ⟨b, 2, none⟩ = some (.int .i64 clock) ∧ w.cell? ⟨b, 3, none⟩ = some (.int .i64 seg) ∧ w.cell? ⟨b, 4, none⟩ = some (.int .i64 pos) ∧ w.cell? ⟨b, 5, none⟩ = some (.int .i64 next) ∧ w.cell? ⟨b, 6, none⟩ = some (.int .i64 seq) ∧ w.cell? ⟨b, 7, none⟩ = some (.int .i64 m0) ∧ w.cell? ⟨b, 8, none⟩ = some (.int .i64 m1) ∧ w.cell? ⟨b, 9, none⟩ = some (.int .i64 m2) ∧ w.cell? ⟨b, 10, none⟩ = some (.int .i64 m3) ∧ w.cell? ⟨b, 11, none⟩ = some (.int .i64 sb) ∧ w.cell? ⟨b, 12, none⟩ = some (.int .i64 sn) :=
  ⟨(cell_of_row w _ _ _ _ _ h).trans rfl, (cell_of_row w _ _ _ _ _ h).trans rfl, (cell_of_row w _ _ _ _ _ h).trans rfl, (cell_of_row w _ _ _ _ _ h).trans rfl, (cell_of_row w _ _ _ _ _ h).trans rfl, (cell_of_row w _ _ _ _ _ h).trans rfl, (cell_of_row w _ _ _ _ _ h).trans rfl, (cell_of_row w _ _ _ _ _ h).trans rfl, (cell_of_row w _ _ _ _ _ h).trans rfl, (cell_of_row w _ _ _ _ _ h).trans rfl, (cell_of_row w _ _ _ _ _ h).trans rfl, (cell_of_row w _ _ _ _ _ h).trans rfl, (cell_of_row w _ _ _ _ _ h).trans rfl⟩
theorem cells3 {w : World} {b : Nat} {p : Value} {S G : Int} {t : TypeId} (h : w.heap[b]? = some (.cells #[p, .int .i64 S, .int .i64 G] t (0, 0))) :
    w.cell? ⟨b, 0, none⟩ = some p ∧ w.cell? ⟨b, 1, none⟩ = some (.int .i64 S) ∧ w.cell? ⟨b, 2, none⟩ = some (.int .i64 G) :=
  ⟨(cell_of_row w _ _ _ _ _ h).trans rfl, (cell_of_row w _ _ _ _ _ h).trans rfl, (cell_of_row w _ _ _ _ _ h).trans rfl⟩
theorem row_on {w w' : World} {b : Nat} {o : Obj} (h : w.heap[b]? = some o) (hb : Below w.heap.size w w') : w'.heap[b]? = some o :=
  (hb.block b (Array.getElem?_eq_some_iff.1 h).1).trans h

end Go.Proofs.Ytaiebhkjkeadoaa
