/- The document's sameness: a state is the same as itself: Same walked. -/
import Derived.Test.YtgpjjbffndmhjaaSlotAwake
import Derived.Deep.QuietTactic
import Derived.BigQuiet
namespace Go.Proofs.Ytgpjjbffndmhjaa
open Go.RowKit Rec Slt

theorem below_drewN {B : Nat} {a w : World} (h : Below B a w) (n : Nat) : Below B a (w.drewN n) := ⟨h.os, h.tape, h.output, h.size, h.block⟩

set_option maxRecDepth 10000 in
set_option maxHeartbeats 4000000 in
theorem same_t (x : Sl) (w : World) : Calls Try.prog 14 #[slotV x, slotV x] w fun e w' => e = .returned (.bool true) ∧ Below w.heap.size w w' := by
  obtain ⟨num, life, clock, seg, at_, next, seq, m0, m1, m2, m3, sb, sn⟩ := x
  go_enter Try.func14, Try.ntmps14
  go_wp2_with fail
  generalize hW : (w.alloc _).alloc _ = W
  have a0 : W.cell? ⟨w.heap.size, 0, none⟩ = some (.int .i64 num) := by rw [← hW]; simp
  have b0 : W.cell? ⟨w.heap.size + 1, 0, none⟩ = some (.int .i64 num) := by rw [← hW]; simp
  have a1 : W.cell? ⟨w.heap.size, 1, none⟩ = some (.int .i64 life) := by rw [← hW]; simp
  have b1 : W.cell? ⟨w.heap.size + 1, 1, none⟩ = some (.int .i64 life) := by rw [← hW]; simp
  have a2 : W.cell? ⟨w.heap.size, 2, none⟩ = some (.int .i64 clock) := by rw [← hW]; simp
  have b2 : W.cell? ⟨w.heap.size + 1, 2, none⟩ = some (.int .i64 clock) := by rw [← hW]; simp
  have a3 : W.cell? ⟨w.heap.size, 3, none⟩ = some (.int .i64 seg) := by rw [← hW]; simp
  have b3 : W.cell? ⟨w.heap.size + 1, 3, none⟩ = some (.int .i64 seg) := by rw [← hW]; simp
  have a4 : W.cell? ⟨w.heap.size, 4, none⟩ = some (.int .i64 at_) := by rw [← hW]; simp
  have b4 : W.cell? ⟨w.heap.size + 1, 4, none⟩ = some (.int .i64 at_) := by rw [← hW]; simp
  have a5 : W.cell? ⟨w.heap.size, 5, none⟩ = some (.int .i64 next) := by rw [← hW]; simp
  have b5 : W.cell? ⟨w.heap.size + 1, 5, none⟩ = some (.int .i64 next) := by rw [← hW]; simp
  have a6 : W.cell? ⟨w.heap.size, 6, none⟩ = some (.int .i64 seq) := by rw [← hW]; simp
  have b6 : W.cell? ⟨w.heap.size + 1, 6, none⟩ = some (.int .i64 seq) := by rw [← hW]; simp
  have a7 : W.cell? ⟨w.heap.size, 7, none⟩ = some (.int .i64 m0) := by rw [← hW]; simp
  have b7 : W.cell? ⟨w.heap.size + 1, 7, none⟩ = some (.int .i64 m0) := by rw [← hW]; simp
  have a8 : W.cell? ⟨w.heap.size, 8, none⟩ = some (.int .i64 m1) := by rw [← hW]; simp
  have b8 : W.cell? ⟨w.heap.size + 1, 8, none⟩ = some (.int .i64 m1) := by rw [← hW]; simp
  have a9 : W.cell? ⟨w.heap.size, 9, none⟩ = some (.int .i64 m2) := by rw [← hW]; simp
  have b9 : W.cell? ⟨w.heap.size + 1, 9, none⟩ = some (.int .i64 m2) := by rw [← hW]; simp
  have a10 : W.cell? ⟨w.heap.size, 10, none⟩ = some (.int .i64 m3) := by rw [← hW]; simp
  have b10 : W.cell? ⟨w.heap.size + 1, 10, none⟩ = some (.int .i64 m3) := by rw [← hW]; simp
  have a11 : W.cell? ⟨w.heap.size, 11, none⟩ = some (.int .i64 sb) := by rw [← hW]; simp
  have b11 : W.cell? ⟨w.heap.size + 1, 11, none⟩ = some (.int .i64 sb) := by rw [← hW]; simp
  have a12 : W.cell? ⟨w.heap.size, 12, none⟩ = some (.int .i64 sn) := by rw [← hW]; simp
  have b12 : W.cell? ⟨w.heap.size + 1, 12, none⟩ = some (.int .i64 sn) := by rw [← hW]; simp
  have HB : Hid (Below w.heap.size w W) := by rw [← hW]; exact ((Below.refl _ w).alloc (Nat.le_refl _) _).alloc (by simp) _
  clear hW
  go_loopw [5] (fun c wr => ∃ k n : Nat, k ≤ 4 ∧ c = .int .i64 k ∧ wr = W.drewN n) (fun c _ => 4 - (intOf c).toNat)
  case atStart => exact ⟨0, 0, by omega, rfl, rfl⟩
  case round =>
    obtain ⟨k, n, hk, rfl, rfl⟩ := hrel
    have hc : k = 0 ∨ k = 1 ∨ k = 2 ∨ k = 3 ∨ k = 4 := by omega
    rcases hc with rfl | rfl | rfl | rfl | rfl
    · clear a0 b0 a1 b1 a2 b2 a3 b3 a4 b4 a5 b5 a6 b6 a8 b8 a9 b9 a10 b10 a11 b11 a12 b12
      go_wp2_with fail
      go_quiet (fail)
      go_wp2_with fail
      exact ⟨⟨1, _, by omega, rfl, rfl⟩, by simp [intOf]⟩
    · clear a0 b0 a1 b1 a2 b2 a3 b3 a4 b4 a5 b5 a6 b6 a7 b7 a9 b9 a10 b10 a11 b11 a12 b12
      go_wp2_with fail
      go_quiet (fail)
      go_wp2_with fail
      exact ⟨⟨2, _, by omega, rfl, rfl⟩, by simp [intOf]⟩
    · clear a0 b0 a1 b1 a2 b2 a3 b3 a4 b4 a5 b5 a6 b6 a7 b7 a8 b8 a10 b10 a11 b11 a12 b12
      go_wp2_with fail
      go_quiet (fail)
      go_wp2_with fail
      exact ⟨⟨3, _, by omega, rfl, rfl⟩, by simp [intOf]⟩
    · clear a0 b0 a1 b1 a2 b2 a3 b3 a4 b4 a5 b5 a6 b6 a7 b7 a8 b8 a9 b9 a11 b11 a12 b12
      go_wp2_with fail
      go_quiet (fail)
      go_wp2_with fail
      exact ⟨⟨4, _, by omega, rfl, rfl⟩, by simp [intOf]⟩
    · go_wp2_with fail
      go_ret
      exact ⟨rfl, below_drewN HB.out _⟩
end Go.Proofs.Ytgpjjbffndmhjaa
