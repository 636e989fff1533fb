/- NodeAll walked: any node, any bytes: the program answers as the document does. -/
import Derived.Test.YtclfpblnjdlnfaaNodeRefGet
namespace Go.Proofs.Ytclfpblnjdlnfaa
open Go.RowKit Rec Nod

set_option maxRecDepth 10000 in
set_option maxHeartbeats 2000000 in
theorem nodeAll_long (x : Nd) (s : ByteArray) (w : World) (hs : 1000 < s.size) (_hl : s.size ≤ 9223372036854775807) :
    Calls Try.prog 3 #[nodeV x, .string s] w fun e w' => e = .returned (.bool true) ∧ Below w.heap.size w w' := by
  have hs2 : (1000 : Int) < (s.size : Int) := by omega
  have AW := ndhid awake_t
  go_enter Try.func3, Try.ntmps3
  go_wp2_with fail
  refine (AW.out _).mono ?_
  rintro e w1 ⟨rfl, hb1⟩
  have HB1 : Hid (Below w.heap.size w w1) := ((Below.refl _ _).alloc (Nat.le_refl _) _).trans (hb1.mono (by simp))
  clear hb1 AW
  go_wp2_with fail
  go_ret
  exact ⟨rfl, HB1.out⟩

set_option maxRecDepth 10000 in
set_option maxHeartbeats 16000000 in
theorem nodeAll_short (x : Nd) (s : ByteArray) (w : World) (hs : s.size ≤ 1000) :
    Calls Try.prog 3 #[nodeV x, .string s] w fun e w' => e = .returned (.bool true) ∧ Below w.heap.size w w' := by
  have hs2 : (s.size : Int) ≤ 1000 := by omega
  have PUT := ndhid (fun w1 => nput_t x w1)
  have RPUT := ndhid (fun w1 => rput_t x w1)
  have CK := ndhid (fun w1 => check_t x w1)
  have RCK := ndhid (fun w1 => rcheck_t x w1)
  have GET := ndhid (fun w1 => nget_t s w1 (by omega))
  have RGET := ndhid (fun w1 => dget_t s w1)
  have SAME := ndhid (fun w1 => same_t (gotX s) w1)
  have AW := ndhid awake_t
  generalize putS x = S at *
  generalize okB x = B at *
  generalize gotX s = GX at *
  generalize getB s = GB at *
  clear hs
  go_enter Try.func3, Try.ntmps3
  go_wp2_with (first | (refine wpList_load_row rfl 24 (.tmp 2) rfl w.heap.size rfl 24 (nodeC x) (0, 0) _ (heap_alloc_new _ _) Try.underlying24 rfl Try.nodeSize ?_) | fail)
  refine (PUT.out _).mono ?_
  rintro e w1 ⟨rfl, hb1⟩
  have HX1 : Hid (w1.heap[w.heap.size]? = some (.cells (nodeC x) 24 (0, 0))) := by show _ = _; rw [hb1.block _ (by simp)]; exact heap_alloc_new _ _
  have HB1 : Hid (Below w.heap.size w w1) := ((Below.refl _ _).alloc (Nat.le_refl _) _).trans (hb1.mono (by simp))
  have hw1 : w.heap.size < w1.heap.size := by have := hb1.size; simp at this; omega
  clear hb1 PUT
  go_wp2_with (first | (refine wpList_load_row rfl 24 (.tmp 2) rfl w.heap.size rfl 24 (nodeC x) (0, 0) _ HX1.out Try.underlying24 rfl Try.nodeSize ?_) | fail)
  refine (RPUT.out _).mono ?_
  rintro e w2 ⟨rfl, hb2⟩
  have HX2 : Hid (w2.heap[w.heap.size]? = some (.cells (nodeC x) 24 (0, 0))) := by show _ = _; rw [hb2.block _ hw1]; exact HX1.out
  have HB2 : Hid (Below w.heap.size w w2) := HB1.out.trans (hb2.mono HB1.out.size)
  have hw2 : w.heap.size < w2.heap.size := by have := hb2.size; omega
  clear hb2 RPUT HX1 HB1
  go_wp2_with fail
  refine (GET.out _).mono ?_
  rintro e w3 ⟨rfl, hb3⟩
  have HX3 : Hid (w3.heap[w.heap.size]? = some (.cells (nodeC x) 24 (0, 0))) := by show _ = _; rw [hb3.block _ hw2]; exact HX2.out
  have HB3 : Hid (Below w.heap.size w w3) := HB2.out.trans (hb3.mono HB2.out.size)
  have hw3 : w.heap.size < w3.heap.size := by have := hb3.size; omega
  clear hb3 GET HX2 HB2
  go_wp2_with (first | (refine wpList_store_row rfl 24 (.tmp 9) (.tmp 30) rfl w3.heap.size (nodeC GX) rfl rfl 24 (nodeC Nd.z) (heap_alloc_new _ _) Try.nodeSize rfl (nodeC_one GX) ?_; rw [World.setRow_alloc_new]) | fail)
  generalize hV : World.alloc _ _ = V
  have HXV : Hid (V.heap[w.heap.size]? = some (.cells (nodeC x) 24 (0, 0))) := by rw [← hV]; show _ = _; rw [Below.heap_alloc _ _ _ hw3]; exact HX3.out
  have HYV : Hid (V.heap[w3.heap.size]? = some (.cells (nodeC GX) 24 (0, 0))) := by rw [← hV]; exact heap_alloc_new _ _
  have HBV : Hid (Below w.heap.size w V) := by rw [← hV]; exact HB3.out.alloc HB3.out.size _
  have hwV : w3.heap.size < V.heap.size := by rw [← hV]; simp
  clear hV HX3 HB3
  refine (RGET.out _).mono ?_
  rintro e w4 ⟨rfl, hb4⟩
  have HX4 : Hid (w4.heap[w.heap.size]? = some (.cells (nodeC x) 24 (0, 0))) := by show _ = _; rw [hb4.block _ (by omega)]; exact HXV.out
  have HY4 : Hid (w4.heap[w3.heap.size]? = some (.cells (nodeC GX) 24 (0, 0))) := by show _ = _; rw [hb4.block _ hwV]; exact HYV.out
  have HB4 : Hid (Below w.heap.size w w4) := HBV.out.trans (hb4.mono HBV.out.size)
  have hw4 : w3.heap.size < w4.heap.size := by have := hb4.size; omega
  clear hb4 RGET HXV HYV HBV hwV
  go_wp2_with (first | (refine wpList_store_row rfl 24 (.tmp 11) (.tmp 35) rfl w4.heap.size (nodeC GX) rfl rfl 24 (nodeC Nd.z) (heap_alloc_new _ _) Try.nodeSize rfl (nodeC_one GX) ?_; rw [World.setRow_alloc_new]) | fail)
  generalize hU : World.alloc _ _ = U
  have HXU : Hid (U.heap[w.heap.size]? = some (.cells (nodeC x) 24 (0, 0))) := by rw [← hU]; show _ = _; rw [Below.heap_alloc _ _ _ (by omega)]; exact HX4.out
  have HYU : Hid (U.heap[w3.heap.size]? = some (.cells (nodeC GX) 24 (0, 0))) := by rw [← hU]; show _ = _; rw [Below.heap_alloc _ _ _ hw4]; exact HY4.out
  have HZU : Hid (U.heap[w4.heap.size]? = some (.cells (nodeC GX) 24 (0, 0))) := by rw [← hU]; exact heap_alloc_new _ _
  have HBU : Hid (Below w.heap.size w U) := by rw [← hU]; exact HB4.out.alloc HB4.out.size _
  have hwU : w4.heap.size < U.heap.size := by rw [← hU]; simp
  clear hU HX4 HY4 HB4 hw1 hw2
  refine wp_region_held_drew (S := fun w' => w'.heap[w.heap.size]? = some (.cells (nodeC x) 24 (0, 0)) ∧ w'.heap[w3.heap.size]? = some (.cells (nodeC GX) 24 (0, 0)) ∧ w'.heap[w4.heap.size]? = some (.cells (nodeC GX) 24 (0, 0))) (by kernel_rfl) ⟨HXU.out, HYU.out, HZU.out⟩ (fun hHeld => ?_)
  refine wpAnyH_take (i := 0) (oi := _) (v := .agg (nodeC x)) rfl (by kernel_rfl) (by kernel_rfl) (by kernel_rfl) (fun _ _ _ h => h) (yieldsIf_load_row (by rfl) 24 (.tmp 2) rfl w.heap.size rfl 24 (nodeC x) (0, 0) _ (fun _ h => h.1) Try.underlying24 rfl Try.nodeSize) (by assumption) ?_
  simp only [Act.put, List.getElem_toArray, List.getElem_cons_zero, List.setIfInBounds_toArray, List.set_cons_zero, List.set_cons_succ]
  refine wpAnyH_take (i := 2) (oi := _) (v := .agg (nodeC x)) rfl (by kernel_rfl) (by kernel_rfl) (by kernel_rfl) (fun _ _ _ h => h) (yieldsIf_load_row (by rfl) 24 (.tmp 2) rfl w.heap.size rfl 24 (nodeC x) (0, 0) _ (fun _ h => h.1) Try.underlying24 rfl Try.nodeSize) (by assumption) ?_
  simp only [Act.put, List.getElem_toArray, List.getElem_cons_zero, List.getElem_cons_succ, List.setIfInBounds_toArray, List.set_cons_zero, List.set_cons_succ]
  refine wpAnyH_ready (rs := [1]) (by kernel_rfl) (by simp) ?_
  refine AllReadyH.cons (o := _) rfl (fun K hK => ?_) AllReadyH.nil
  simp only [List.getElem_toArray, List.getElem_cons_zero, List.getElem_cons_succ]
  go_simp
  refine (CK.out _).mono ?_
  rintro e q1 ⟨rfl, qb⟩
  go_wp2_with fail
  have hq1 : Below U.heap.size U q1 := ⟨qb.os, qb.tape, qb.output, qb.size, qb.block⟩
  refine hK.out _ _ ?_ (fun hHeld => ?_)
  · exact ⟨by rw [hq1.block _ (by omega)]; exact HXU.out, by rw [hq1.block _ (by omega)]; exact HYU.out, by rw [hq1.block _ (by omega)]; exact HZU.out⟩
  clear hK K qb
  refine wpAnyH_ready (rs := [3]) (by kernel_rfl) (by simp) ?_
  refine AllReadyH.cons (o := _) rfl (fun K hK => ?_) AllReadyH.nil
  simp only [List.getElem_toArray, List.getElem_cons_zero, List.getElem_cons_succ]
  go_simp
  refine (RCK.out _).mono ?_
  rintro e q2 ⟨rfl, qb⟩
  go_wp2_with fail
  have hq2 : Below U.heap.size U q2 := hq1.trans (qb.mono hq1.size)
  refine hK.out _ _ ?_ (fun hHeld => ?_)
  · exact ⟨by rw [hq2.block _ (by omega)]; exact HXU.out, by rw [hq2.block _ (by omega)]; exact HYU.out, by rw [hq2.block _ (by omega)]; exact HZU.out⟩
  clear hK K qb
  refine wpAnyH_take (i := 4) (oi := _) (v := .bool true) rfl (by kernel_rfl) (by kernel_rfl) (by kernel_rfl) (fun _ _ _ h => h) (Or.inl ⟨by rfl, by intro w _; go_simp⟩) (by assumption) ?_
  simp only [Act.put, List.getElem_toArray, List.getElem_cons_zero, List.getElem_cons_succ, List.setIfInBounds_toArray, List.set_cons_zero, List.set_cons_succ]
  refine wpAnyH_take (i := 5) (oi := _) (v := .bool true) rfl (by kernel_rfl) (by kernel_rfl) (by kernel_rfl) (fun _ _ _ h => h) (Or.inl ⟨by rfl, by intro w _; go_simp⟩) (by assumption) ?_
  simp only [Act.put, List.getElem_toArray, List.getElem_cons_zero, List.getElem_cons_succ, List.setIfInBounds_toArray, List.set_cons_zero, List.set_cons_succ]
  refine wpAnyH_take (i := 6) (oi := _) (v := .string S) rfl (by kernel_rfl) (by kernel_rfl) (by kernel_rfl) (fun _ _ _ h => h) (Or.inl ⟨by rfl, by intro w _; go_simp⟩) (by assumption) ?_
  simp only [Act.put, List.getElem_toArray, List.getElem_cons_zero, List.getElem_cons_succ, List.setIfInBounds_toArray, List.set_cons_zero, List.set_cons_succ]
  refine wpAnyH_take (i := 7) (oi := _) (v := .string S) rfl (by kernel_rfl) (by kernel_rfl) (by kernel_rfl) (fun _ _ _ h => h) (Or.inl ⟨by rfl, by intro w _; go_simp⟩) (by assumption) ?_
  simp only [Act.put, List.getElem_toArray, List.getElem_cons_zero, List.getElem_cons_succ, List.setIfInBounds_toArray, List.set_cons_zero, List.set_cons_succ]
  refine wpAnyH_take (i := 8) (oi := _) (v := .bool true) rfl (by kernel_rfl) (by kernel_rfl) (by kernel_rfl) (fun _ _ _ h => h) (Or.inl ⟨by rfl, by intro w _; go_simp⟩) (by assumption) ?_
  simp only [Act.put, List.getElem_toArray, List.getElem_cons_zero, List.getElem_cons_succ, List.setIfInBounds_toArray, List.set_cons_zero, List.set_cons_succ]
  refine wpAnyH_take (i := 9) (oi := _) (v := .bool true) rfl (by kernel_rfl) (by kernel_rfl) (by kernel_rfl) (fun _ _ _ h => h) (Or.inl ⟨by rfl, by intro w _; go_simp⟩) (by assumption) ?_
  simp only [Act.put, List.getElem_toArray, List.getElem_cons_zero, List.getElem_cons_succ, List.setIfInBounds_toArray, List.set_cons_zero, List.set_cons_succ]
  refine wpAnyH_take (i := 10) (oi := _) (v := .bool true) rfl (by kernel_rfl) (by kernel_rfl) (by kernel_rfl) (fun _ _ _ h => h) (Or.inl ⟨by rfl, by intro w _; go_simp⟩) (by assumption) ?_
  simp only [Act.put, List.getElem_toArray, List.getElem_cons_zero, List.getElem_cons_succ, List.setIfInBounds_toArray, List.set_cons_zero, List.set_cons_succ]
  refine wpAnyH_take (i := 11) (oi := _) (v := .bool B) rfl (by kernel_rfl) (by kernel_rfl) (by kernel_rfl) (fun _ _ _ h => h) (Or.inl ⟨by rfl, by intro w _; go_simp⟩) (by assumption) ?_
  simp only [Act.put, List.getElem_toArray, List.getElem_cons_zero, List.getElem_cons_succ, List.setIfInBounds_toArray, List.set_cons_zero, List.set_cons_succ]
  refine wpAnyH_take (i := 12) (oi := _) (v := .bool B) rfl (by kernel_rfl) (by kernel_rfl) (by kernel_rfl) (fun _ _ _ h => h) (Or.inl ⟨by rfl, by intro w _; go_simp⟩) (by assumption) ?_
  simp only [Act.put, List.getElem_toArray, List.getElem_cons_zero, List.getElem_cons_succ, List.setIfInBounds_toArray, List.set_cons_zero, List.set_cons_succ]
  refine wpAnyH_take (i := 13) (oi := _) (v := .bool true) rfl (by kernel_rfl) (by kernel_rfl) (by kernel_rfl) (fun _ _ _ h => h) (Or.inl ⟨by rfl, by intro w _; go_simp⟩) (by assumption) ?_
  simp only [Act.put, List.getElem_toArray, List.getElem_cons_zero, List.getElem_cons_succ, List.setIfInBounds_toArray, List.set_cons_zero, List.set_cons_succ]
  refine wpAnyH_take (i := 14) (oi := _) (v := .bool true) rfl (by kernel_rfl) (by kernel_rfl) (by kernel_rfl) (fun _ _ _ h => h) (Or.inl ⟨by rfl, by intro w _; go_simp⟩) (by assumption) ?_
  simp only [Act.put, List.getElem_toArray, List.getElem_cons_zero, List.getElem_cons_succ, List.setIfInBounds_toArray, List.set_cons_zero, List.set_cons_succ]
  refine wpAnyH_take (i := 15) (oi := _) (v := .bool true) rfl (by kernel_rfl) (by kernel_rfl) (by kernel_rfl) (fun _ _ _ h => h) (Or.inl ⟨by rfl, by intro w _; go_simp⟩) (by assumption) ?_
  simp only [Act.put, List.getElem_toArray, List.getElem_cons_zero, List.getElem_cons_succ, List.setIfInBounds_toArray, List.set_cons_zero, List.set_cons_succ]
  refine wpAnyH_take (i := 16) (oi := _) (v := .agg (nodeC GX)) rfl (by kernel_rfl) (by kernel_rfl) (by kernel_rfl) (fun _ _ _ h => h) (yieldsIf_load_row (by rfl) 24 (.tmp 9) rfl w3.heap.size rfl 24 (nodeC GX) (0, 0) _ (fun _ h => h.2.1) Try.underlying24 rfl Try.nodeSize) (by assumption) ?_
  simp only [Act.put, List.getElem_toArray, List.getElem_cons_zero, List.getElem_cons_succ, List.setIfInBounds_toArray, List.set_cons_zero, List.set_cons_succ]
  refine wpAnyH_take (i := 17) (oi := _) (v := .agg (nodeC GX)) rfl (by kernel_rfl) (by kernel_rfl) (by kernel_rfl) (fun _ _ _ h => h) (yieldsIf_load_row (by rfl) 24 (.tmp 11) rfl w4.heap.size rfl 24 (nodeC GX) (0, 0) _ (fun _ h => h.2.2) Try.underlying24 rfl Try.nodeSize) (by assumption) ?_
  simp only [Act.put, List.getElem_toArray, List.getElem_cons_zero, List.getElem_cons_succ, List.setIfInBounds_toArray, List.set_cons_zero, List.set_cons_succ]
  refine wpAnyH_ready (rs := [18]) (by kernel_rfl) (by simp) ?_
  refine AllReadyH.cons (o := _) rfl (fun K hK => ?_) AllReadyH.nil
  simp only [List.getElem_toArray, List.getElem_cons_zero, List.getElem_cons_succ]
  go_simp
  refine (SAME.out _).mono ?_
  rintro e q3 ⟨rfl, qb⟩
  go_wp2_with fail
  have hq3 : Below U.heap.size U q3 := hq2.trans (qb.mono hq2.size)
  refine hK.out _ _ ?_ (fun hHeld => ?_)
  · exact ⟨by rw [hq3.block _ (by omega)]; exact HXU.out, by rw [hq3.block _ (by omega)]; exact HYU.out, by rw [hq3.block _ (by omega)]; exact HZU.out⟩
  clear hK K qb
  refine wpAnyH_take (i := 19) (oi := _) (v := .bool true) rfl (by kernel_rfl) (by kernel_rfl) (by kernel_rfl) (fun _ _ _ h => h) (Or.inl ⟨by rfl, by intro w _; go_simp⟩) (by assumption) ?_
  simp only [Act.put, List.getElem_toArray, List.getElem_cons_zero, List.getElem_cons_succ, List.setIfInBounds_toArray, List.set_cons_zero, List.set_cons_succ]
  refine wpAnyH_take (i := 20) (oi := _) (v := .bool true) rfl (by kernel_rfl) (by kernel_rfl) (by kernel_rfl) (fun _ _ _ h => h) (Or.inl ⟨by rfl, by intro w _; go_simp⟩) (by assumption) ?_
  simp only [Act.put, List.getElem_toArray, List.getElem_cons_zero, List.getElem_cons_succ, List.setIfInBounds_toArray, List.set_cons_zero, List.set_cons_succ]
  refine wpAnyH_take (i := 21) (oi := _) (v := .bool GB) rfl (by kernel_rfl) (by kernel_rfl) (by kernel_rfl) (fun _ _ _ h => h) (Or.inl ⟨by rfl, by intro w _; go_simp⟩) (by assumption) ?_
  simp only [Act.put, List.getElem_toArray, List.getElem_cons_zero, List.getElem_cons_succ, List.setIfInBounds_toArray, List.set_cons_zero, List.set_cons_succ]
  refine wpAnyH_take (i := 22) (oi := _) (v := .bool GB) rfl (by kernel_rfl) (by kernel_rfl) (by kernel_rfl) (fun _ _ _ h => h) (Or.inl ⟨by rfl, by intro w _; go_simp⟩) (by assumption) ?_
  simp only [Act.put, List.getElem_toArray, List.getElem_cons_zero, List.getElem_cons_succ, List.setIfInBounds_toArray, List.set_cons_zero, List.set_cons_succ]
  refine wpAnyH_take (i := 23) (oi := _) (v := .bool true) rfl (by kernel_rfl) (by kernel_rfl) (by kernel_rfl) (fun _ _ _ h => h) (Or.inl ⟨by rfl, by intro w _; go_simp⟩) (by assumption) ?_
  simp only [Act.put, List.getElem_toArray, List.getElem_cons_zero, List.getElem_cons_succ, List.setIfInBounds_toArray, List.set_cons_zero, List.set_cons_succ]
  refine wpAnyH_take (i := 24) (oi := _) (v := .bool true) rfl (by kernel_rfl) (by kernel_rfl) (by kernel_rfl) (fun _ _ _ h => h) (Or.inl ⟨by rfl, by intro w _; go_simp⟩) (by assumption) ?_
  simp only [Act.put, List.getElem_toArray, List.getElem_cons_zero, List.getElem_cons_succ, List.setIfInBounds_toArray, List.set_cons_zero, List.set_cons_succ]
  refine wpAnyH_take (i := 25) (oi := _) (v := .bool true) rfl (by kernel_rfl) (by kernel_rfl) (by kernel_rfl) (fun _ _ _ h => h) (Or.inl ⟨by rfl, by intro w _; go_simp⟩) (by assumption) ?_
  simp only [Act.put, List.getElem_toArray, List.getElem_cons_zero, List.getElem_cons_succ, List.setIfInBounds_toArray, List.set_cons_zero, List.set_cons_succ]
  refine wpAnyH_ready (rs := [26]) (by kernel_rfl) (by simp) ?_
  refine AllReadyH.cons (o := _) rfl (fun K hK => ?_) AllReadyH.nil
  simp only [List.getElem_toArray, List.getElem_cons_zero, List.getElem_cons_succ]
  go_simp
  refine (AW.out _).mono ?_
  rintro e q4 ⟨rfl, qb⟩
  go_wp2_with fail
  have hq4 : Below U.heap.size U q4 := hq3.trans (qb.mono hq3.size)
  refine hK.out _ _ ?_ (fun hHeld => ?_)
  · exact ⟨by rw [hq4.block _ (by omega)]; exact HXU.out, by rw [hq4.block _ (by omega)]; exact HYU.out, by rw [hq4.block _ (by omega)]; exact HZU.out⟩
  clear hK K qb
  refine wpAnyH_take (i := 27) (oi := _) (v := .bool true) rfl (by kernel_rfl) (by kernel_rfl) (by kernel_rfl) (fun _ _ _ h => h) (Or.inl ⟨by rfl, by intro w _; go_simp⟩) (by assumption) ?_
  simp only [Act.put, List.getElem_toArray, List.getElem_cons_zero, List.getElem_cons_succ, List.setIfInBounds_toArray, List.set_cons_zero, List.set_cons_succ]
  refine wpAnyH_take (i := 28) (oi := _) (v := .bool true) rfl (by kernel_rfl) (by kernel_rfl) (by kernel_rfl) (fun _ _ _ h => h) (Or.inl ⟨by rfl, by intro w _; go_simp⟩) (by assumption) ?_
  simp only [Act.put, List.getElem_toArray, List.getElem_cons_zero, List.getElem_cons_succ, List.setIfInBounds_toArray, List.set_cons_zero, List.set_cons_succ]
  refine wpAnyH_done (by kernel_rfl) ?_ _
  have HBq : Hid (Below w.heap.size w q4) := HBU.out.trans (hq4.mono HBU.out.size)
  clear HXU HYU HZU HBU CK RCK SAME AW hHeld
  go_wp2_with fail
  go_ret
  exact ⟨rfl, HBq.out⟩

theorem nodeAll_t (x : Nd) (s : ByteArray) (w : World) (hs : s.size ≤ 9223372036854775807) :
    Calls Try.prog 3 #[nodeV x, .string s] w fun e w' => e = .returned (.bool true) ∧ Below w.heap.size w w' := by
  by_cases hl : 1000 < s.size
  · exact nodeAll_long x s w hl hs
  · exact nodeAll_short x s w (by omega)
end Go.Proofs.Ytclfpblnjdlnfaa
