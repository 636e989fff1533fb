/- Which nodes may be: Check walked. -/
import Derived.Test.YtclfpblnjdlnfaaNodeBound
namespace Go.Proofs.Ytclfpblnjdlnfaa
open Go.RowKit Rec Nod

theorem bounded_t (x : Nd) (w : World) : Calls Try.prog 29 #[nodeV x] w fun e w' => e = .returned (nodeV (bnd x)) ∧ Below w.heap.size w w' := by
  by_cases h : clamp x.kind 1 2 = 2
  · exact bounded_dir x w h
  · exact bounded_file x w h
theorem Try.nodeGuard : Try.prog.eqGuardType Try.prog.depth 24 = false := by kernel_rfl
/-- A whole row is loaded, whatever comes first. -/
theorem yieldsIf_load_row {P : Program} {ops : Array Oper} {S : World → Prop} {o : Oper} {a : Act} (hw : Region.wanted o (yielded ops a.tmps) = true) (ty : TypeId) (x : Operand) (ho : o.op = .load ty x)
    (g : Nat) (hx : a.eval x = .pointer (some ⟨g, 0, none⟩)) (t : TypeId) (cs : Array Value) (fr : Nat × Nat) (d : TypeDesc) (hS : ∀ w, S w → w.heap[g]? = some (.cells cs t fr))
    (hu : P.underlying ty = some d) (hd : (match d with | .struct _ | .array _ _ => true | _ => false) = true) (hi : (P.info? ty).map (·.size) = some cs.size) : YieldsIf P ops S o (.agg cs) a :=
  .inl ⟨hw, fun w hw' => by
    unfold execOp
    simp only [ho, hx, Instr.loadAt, Instr.sureAddr, Sem.run_bind, Sem.run_pure, Result.andThen_ok, run_loadVar_row w g t ty cs fr d (hS w hw') hu hd hi]⟩
/-- Two rows are compared, whatever comes first. -/
theorem yieldsIf_eql_row {P : Program} {ops : Array Oper} {S : World → Prop} {o : Oper} {a : Act} (hw : Region.wanted o (yielded ops a.tmps) = true) (ty ty' : TypeId) (x y : Operand) (ho : o.op = .binOp .eql ty x y ty')
    (cx cy : Array Value) (b : Bool) (hx : a.eval x = .agg cx) (hy : a.eval y = .agg cy) (hg : P.eqGuardType P.depth ty = false) (hE : ∀ w, (binOp .eql ty (.agg cx) (.agg cy)).run P w = .ok (.bool b) w) : YieldsIf P ops S o (.bool b) a :=
  .inl ⟨hw, fun w _ => by
    unfold execOp
    simp only [ho, hx, hy, Sem.run_bind, run_eqGuard_agg w .eql ty x y cx cy hg, hE, Sem.run_pure, Result.andThen_ok]⟩

set_option maxRecDepth 10000 in
set_option maxHeartbeats 4000000 in
theorem check_t (x : Nd) (w : World) : Calls Try.prog 12 #[nodeV x] w fun e w' => e = .returned (.bool (okB x)) ∧ Below w.heap.size w w' := by
  have BD := ndhid (fun w1 => bounded_t x w1)
  have EQ := ndhid (fun w1 => node_eql x (bnd x) w1)
  rw [okB_bnd] at EQ
  generalize okB x = B at *
  generalize bnd x = Z at *
  go_enter Try.func12, Try.ntmps12
  go_wp2_with fail
  generalize hW : w.alloc _ = W
  have HX : Hid (W.heap[w.heap.size]? = some (.cells (nodeC x) 24 (0, 0))) := by rw [← hW]; exact heap_alloc_new _ _
  have HB : Hid (Below w.heap.size w W) := by rw [← hW]; exact (Below.refl _ w).alloc (Nat.le_refl _) _
  have hw0 : w.heap.size < W.heap.size := by rw [← hW]; simp
  clear hW
  refine wp_region_held_drew (S := fun w' => w'.heap[w.heap.size]? = some (.cells (nodeC x) 24 (0, 0))) (by kernel_rfl) HX.out (fun hHeld => ?_)
  refine wpAnyH_take (i := 0) (oi := _) (v := .agg (nodeC x)) rfl (by kernel_rfl) (by kernel_rfl) (by kernel_rfl) (fun _ _ _ h => h) (yieldsIf_load_row (by rfl) 24 (.tmp 1) rfl w.heap.size rfl 24 (nodeC x) (0, 0) _ (fun _ h => h) Try.underlying24 rfl Try.nodeSize) (by assumption) ?_
  simp only [Act.put, List.getElem_toArray, List.getElem_cons_zero, List.setIfInBounds_toArray, List.set_cons_zero, List.set_cons_succ]
  refine wpAnyH_take (i := 1) (oi := _) (v := .agg (nodeC x)) rfl (by kernel_rfl) (by kernel_rfl) (by kernel_rfl) (fun _ _ _ h => h) (yieldsIf_load_row (by rfl) 24 (.tmp 1) rfl w.heap.size rfl 24 (nodeC x) (0, 0) _ (fun _ h => h) Try.underlying24 rfl Try.nodeSize) (by assumption) ?_
  simp only [Act.put, List.getElem_toArray, List.getElem_cons_zero, List.getElem_cons_succ, List.setIfInBounds_toArray, List.set_cons_zero, List.set_cons_succ]
  refine wpAnyH_ready (rs := [2]) (by kernel_rfl) (by simp) ?_
  refine AllReadyH.cons (o := _) rfl (fun K hK => ?_) AllReadyH.nil
  simp only [List.getElem_toArray, List.getElem_cons_zero, List.getElem_cons_succ]
  go_simp
  refine (BD.out _).mono ?_
  rintro e q1 ⟨rfl, qb⟩
  go_wp2_with fail
  have hp : Below W.heap.size W q1 := ⟨qb.os, qb.tape, qb.output, qb.size, qb.block⟩
  refine hK.out _ _ ?_ (fun hHeld => ?_)
  · show _ = _
    rw [hp.block _ hw0]
    exact HX.out
  clear hK K
  refine wpAnyH_take (i := 3) (oi := _) (v := .bool B) rfl (by kernel_rfl) (by kernel_rfl) (by kernel_rfl) (fun _ _ _ h => h) (yieldsIf_eql_row (by rfl) 24 24 (.tmp 3) (.tmp 5) rfl (nodeC x) (nodeC Z) B rfl rfl Try.nodeGuard EQ.out) (by assumption) ?_
  simp only [Act.put, List.getElem_toArray, List.getElem_cons_zero, List.getElem_cons_succ, List.setIfInBounds_toArray, List.set_cons_zero, List.set_cons_succ]
  refine wpAnyH_take (i := 4) (oi := _) (v := .bool B) rfl (by kernel_rfl) (by kernel_rfl) (by kernel_rfl) (fun _ _ _ h => h) (Or.inl ⟨by rfl, fun w _ => rfl⟩) (by assumption) ?_
  simp only [Act.put, List.getElem_toArray, List.getElem_cons_zero, List.getElem_cons_succ, List.setIfInBounds_toArray, List.set_cons_zero, List.set_cons_succ]
  refine wpAnyH_done (by kernel_rfl) ?_ _
  have HBq : Hid (Below w.heap.size w q1) := HB.out.trans (hp.mono HB.out.size)
  clear hp HX HB EQ BD hHeld qb
  go_wp2_with fail
  go_ret
  exact ⟨rfl, HBq.out⟩
end Go.Proofs.Ytclfpblnjdlnfaa
