/- The document's sameness: a node is the same as itself: Same walked. -/
import Derived.Test.YtclfpblnjdlnfaaNodeAwake
import Derived.Deep.QuietTactic
import Derived.BigQuiet
namespace Go.Proofs.Ytclfpblnjdlnfaa
open Go.RowKit Rec Nod

/-- A whole row is loaded, behind a guard too. -/
theorem wpList_load_any {P : Program} {ops : Array Oper} {rest : List Oper} {o : Oper} {a : Act} {w : World} {Q : Exit → Act → World → Prop} (hw : Region.wanted o (yielded ops a.tmps) = true) (ty : TypeId) (x : Operand) (ho : o.op = .load ty x)
    (g : Nat) (hx : a.eval x = .pointer (some ⟨g, 0, none⟩)) (t : TypeId) (cs : Array Value) (fr : Nat × Nat) (d : TypeDesc) (hg : w.heap[g]? = some (.cells cs t fr))
    (hu : P.underlying ty = some d) (hd : (match d with | .struct _ | .array _ _ => true | _ => false) = true) (hi : (P.info? ty).map (·.size) = some cs.size)
    (h : wpList P ops Q rest (a.put o.dst (.agg cs)) w) : wpList P ops Q (o :: rest) a w :=
  wpList_step fun K hK => by rw [if_pos hw]; exact wp_load_row ty x ho g hx t cs fr d hg hu hd hi (hK _ _ h)
theorem below_drewN {B : Nat} {a w : World} (h : Below B a w) (n : Nat) : Below B a (w.drewN n) := ⟨h.os, h.tape, h.output, h.size, h.block⟩

set_option maxRecDepth 10000 in
set_option maxHeartbeats 4000000 in
theorem same_t (x : Nd) (w : World) : Calls Try.prog 14 #[nodeV x, nodeV x] w fun e w' => e = .returned (.bool true) ∧ Below w.heap.size w w' := by
  go_enter Try.func14, Try.ntmps14
  go_wp2_with fail
  generalize hW : (w.alloc _).alloc _ = W
  have HA : Hid (W.heap[w.heap.size]? = some (.cells (nodeC x) 24 (0, 0))) := by rw [← hW]; show _ = _; rw [Below.heap_alloc _ _ _ (by simp)]; exact heap_alloc_new _ _
  have HD : Hid (W.heap[w.heap.size + 1]? = some (.cells (nodeC x) 24 (0, 0))) := by
    have e1 : ∀ o, w.heap.size + 1 = (w.alloc o).heap.size := by simp
    rw [← hW]; show _ = _; rw [e1]; exact heap_alloc_new _ _
  have HB : Hid (Below w.heap.size w W) := by rw [← hW]; exact ((Below.refl _ w).alloc (Nat.le_refl _) _).alloc (by simp) _
  clear hW
  go_loopw [5] (fun c wr => ∃ k n : Nat, k ≤ 14 ∧ c = .int .i64 k ∧ wr = W.drewN n) (fun c _ => 14 - (intOf c).toNat)
  case atStart => exact ⟨0, 0, by omega, rfl, rfl⟩
  case round =>
    obtain ⟨k, n, hk, rfl, rfl⟩ := hrel
    by_cases hk2 : k < 14
    · have a0 : W.cell? ⟨w.heap.size, 5 + k, none⟩ = some (.int .i64 (x.ptr k)) := (cell_of_row W _ _ _ _ _ HA.out).trans (node_cell x k hk2)
      have b0 : W.cell? ⟨w.heap.size + 1, 5 + k, none⟩ = some (.int .i64 (x.ptr k)) := (cell_of_row W _ _ _ _ _ HD.out).trans (node_cell x k hk2)
      generalize x.ptr k = q at *
      go_wp2_with fail
      go_quiet (fail)
      go_wp2_with fail
      exact ⟨⟨k + 1, _, by omega, rfl, rfl⟩, by simp [intOf]; omega⟩
    · have hk3 : k = 14 := by omega
      subst hk3
      clear hk hk2
      have a0 : W.cell? ⟨w.heap.size, 0, none⟩ = some (.int .i64 x.num) := (cell_of_row W _ _ _ _ _ HA.out).trans rfl
      have b0 : W.cell? ⟨w.heap.size + 1, 0, none⟩ = some (.int .i64 x.num) := (cell_of_row W _ _ _ _ _ HD.out).trans rfl
      have a1 : W.cell? ⟨w.heap.size, 1, none⟩ = some (.int .i64 x.kind) := (cell_of_row W _ _ _ _ _ HA.out).trans rfl
      have b1 : W.cell? ⟨w.heap.size + 1, 1, none⟩ = some (.int .i64 x.kind) := (cell_of_row W _ _ _ _ _ HD.out).trans rfl
      have a2 : W.cell? ⟨w.heap.size, 2, none⟩ = some (.int .i64 x.links) := (cell_of_row W _ _ _ _ _ HA.out).trans rfl
      have b2 : W.cell? ⟨w.heap.size + 1, 2, none⟩ = some (.int .i64 x.links) := (cell_of_row W _ _ _ _ _ HD.out).trans rfl
      have a3 : W.cell? ⟨w.heap.size, 3, none⟩ = some (.int .i64 x.size) := (cell_of_row W _ _ _ _ _ HA.out).trans rfl
      have b3 : W.cell? ⟨w.heap.size + 1, 3, none⟩ = some (.int .i64 x.size) := (cell_of_row W _ _ _ _ _ HD.out).trans rfl
      have a4 : W.cell? ⟨w.heap.size, 4, none⟩ = some (.int .i64 x.time) := (cell_of_row W _ _ _ _ _ HA.out).trans rfl
      have b4 : W.cell? ⟨w.heap.size + 1, 4, none⟩ = some (.int .i64 x.time) := (cell_of_row W _ _ _ _ _ HD.out).trans rfl
      go_wp2_with fail
      go_ret
      exact ⟨rfl, below_drewN HB.out _⟩
end Go.Proofs.Ytclfpblnjdlnfaa
