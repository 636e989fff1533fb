/- NodeEdges walked: each number at its last place is put and got; one beyond is none. -/
import Derived.Test.YtclfpblnjdlnfaaNodeSame
namespace Go.Proofs.Ytclfpblnjdlnfaa
open Go.RowKit Rec Nod

/-- What a node that may be keeps to. -/
theorem okB_spec {x : Nd} (h : okB x = true) : (0 ≤ x.p0 ∧ x.p0 ≤ 16383) ∧ (0 ≤ x.p1 ∧ x.p1 ≤ 16383) ∧ (0 ≤ x.p2 ∧ x.p2 ≤ 16383) ∧ (0 ≤ x.p3 ∧ x.p3 ≤ 16383) ∧ (0 ≤ x.p4 ∧ x.p4 ≤ 16383) ∧ (0 ≤ x.p5 ∧ x.p5 ≤ 16383) ∧ (0 ≤ x.p6 ∧ x.p6 ≤ 16383) ∧ (0 ≤ x.p7 ∧ x.p7 ≤ 16383) ∧ (0 ≤ x.p8 ∧ x.p8 ≤ 16383) ∧ (0 ≤ x.p9 ∧ x.p9 ≤ 16383) ∧ (0 ≤ x.p10 ∧ x.p10 ≤ 16383) ∧ (0 ≤ x.p11 ∧ x.p11 ≤ 16383) ∧ (0 ≤ x.p12 ∧ x.p12 ≤ 16383) ∧ (0 ≤ x.p13 ∧ x.p13 ≤ 16383) ∧ (1 ≤ x.num ∧ x.num ≤ 255) ∧ (1 ≤ x.kind ∧ x.kind ≤ 2) ∧ (0 ≤ x.links ∧ x.links ≤ 100) ∧ (0 ≤ x.size ∧ x.size ≤ 150528) ∧ (x.kind = 1 ∨ x.size % 256 = 0) ∧ (0 ≤ x.time ∧ x.time ≤ 1099511627776) := by
  simp only [okB, Bool.and_eq_true, Bool.or_eq_true, decide_eq_true_eq, inB_iff] at h
  obtain ⟨⟨⟨⟨⟨⟨⟨⟨⟨⟨⟨⟨⟨⟨⟨⟨⟨⟨⟨q0, q1⟩, q2⟩, q3⟩, q4⟩, q5⟩, q6⟩, q7⟩, q8⟩, q9⟩, q10⟩, q11⟩, q12⟩, q13⟩, h0⟩, h1⟩, h2⟩, h3⟩, h3b⟩, h4⟩ := h
  exact ⟨q0, q1, q2, q3, q4, q5, q6, q7, q8, q9, q10, q11, q12, q13, h0, h1, h2, h3, h3b, h4⟩

/-- The greatest node, its first k pointers laid. -/
def edgeK (k : Nat) : Nd := ⟨255, 1, 100, 150528, 1099511627776, if 0 < k then 16383 else 0, if 1 < k then 16382 else 0, if 2 < k then 16381 else 0, if 3 < k then 16380 else 0, if 4 < k then 16379 else 0, if 5 < k then 16378 else 0, if 6 < k then 16377 else 0, if 7 < k then 16376 else 0, if 8 < k then 16375 else 0, if 9 < k then 16374 else 0, if 10 < k then 16373 else 0, if 11 < k then 16372 else 0, if 12 < k then 16371 else 0, if 13 < k then 16370 else 0⟩
theorem edge_set (k : Nat) (hk : k < 14) : (nodeC (edgeK k)).setIfInBounds (5 + k) (.int .i64 (16383 - (k : Int))) = nodeC (edgeK (k + 1)) := by
  have hc : k = 0 ∨ k = 1 ∨ k = 2 ∨ k = 3 ∨ k = 4 ∨ k = 5 ∨ k = 6 ∨ k = 7 ∨ k = 8 ∨ k = 9 ∨ k = 10 ∨ k = 11 ∨ k = 12 ∨ k = 13 := by omega
  rcases hc with rfl | rfl | rfl | rfl | rfl | rfl | rfl | rfl | rfl | rfl | rfl | rfl | rfl | rfl <;> simp [edgeK]
theorem edge_0 : edgeK 0 = ⟨255, 1, 100, 150528, 1099511627776, 0, 0, 0, 0, 0, 0, 0, 0, 0, 0, 0, 0, 0, 0⟩ := rfl
abbrev edgeX : Nd := ⟨255, 1, 100, 150528, 1099511627776, 16383, 16382, 16381, 16380, 16379, 16378, 16377, 16376, 16375, 16374, 16373, 16372, 16371, 16370⟩
theorem edge_14 : edgeK 14 = edgeX := rfl
theorem edge_ok : okB edgeX = true := by decide
/-- A node, one of its pointers turned. -/
def setP (x : Nd) (k : Nat) (v : Int) : Nd := { x with p0 := if k = 0 then v else x.p0, p1 := if k = 1 then v else x.p1, p2 := if k = 2 then v else x.p2, p3 := if k = 3 then v else x.p3, p4 := if k = 4 then v else x.p4, p5 := if k = 5 then v else x.p5, p6 := if k = 6 then v else x.p6, p7 := if k = 7 then v else x.p7, p8 := if k = 8 then v else x.p8, p9 := if k = 9 then v else x.p9, p10 := if k = 10 then v else x.p10, p11 := if k = 11 then v else x.p11, p12 := if k = 12 then v else x.p12, p13 := if k = 13 then v else x.p13 }
theorem setP_set (x : Nd) (k : Nat) (v : Int) (hk : k < 14) : (nodeC x).setIfInBounds (5 + k) (.int .i64 v) = nodeC (setP x k v) := by
  have hc : k = 0 ∨ k = 1 ∨ k = 2 ∨ k = 3 ∨ k = 4 ∨ k = 5 ∨ k = 6 ∨ k = 7 ∨ k = 8 ∨ k = 9 ∨ k = 10 ∨ k = 11 ∨ k = 12 ∨ k = 13 := by omega
  rcases hc with rfl | rfl | rfl | rfl | rfl | rfl | rfl | rfl | rfl | rfl | rfl | rfl | rfl | rfl <;> simp [setP]
theorem setP_no (x : Nd) (k : Nat) (v : Int) (hk : k < 14) (hv : 16383 < v) : okB (setP x k v) = false := by
  rw [Bool.eq_false_iff]
  intro h
  have s := okB_spec h
  have hc : k = 0 ∨ k = 1 ∨ k = 2 ∨ k = 3 ∨ k = 4 ∨ k = 5 ∨ k = 6 ∨ k = 7 ∨ k = 8 ∨ k = 9 ∨ k = 10 ∨ k = 11 ∨ k = 12 ∨ k = 13 := by omega
  rcases hc with rfl | rfl | rfl | rfl | rfl | rfl | rfl | rfl | rfl | rfl | rfl | rfl | rfl | rfl <;> (simp [setP] at s; omega)
theorem edge_no0 (v : Int) (hv : 255 < v) : okB ⟨v, 1, 100, 150528, 1099511627776, 16383, 16382, 16381, 16380, 16379, 16378, 16377, 16376, 16375, 16374, 16373, 16372, 16371, 16370⟩ = false := by
  rw [Bool.eq_false_iff]
  intro h
  have s := okB_spec h
  simp at s
  omega
theorem edge_no1 (v : Int) (hv : 2 < v) : okB ⟨255, v, 100, 150528, 1099511627776, 16383, 16382, 16381, 16380, 16379, 16378, 16377, 16376, 16375, 16374, 16373, 16372, 16371, 16370⟩ = false := by
  rw [Bool.eq_false_iff]
  intro h
  have s := okB_spec h
  simp at s
  omega
theorem edge_no2 (v : Int) (hv : 100 < v) : okB ⟨255, 1, v, 150528, 1099511627776, 16383, 16382, 16381, 16380, 16379, 16378, 16377, 16376, 16375, 16374, 16373, 16372, 16371, 16370⟩ = false := by
  rw [Bool.eq_false_iff]
  intro h
  have s := okB_spec h
  simp at s
  omega
theorem edge_no3 (v : Int) (hv : 150528 < v) : okB ⟨255, 1, 100, v, 1099511627776, 16383, 16382, 16381, 16380, 16379, 16378, 16377, 16376, 16375, 16374, 16373, 16372, 16371, 16370⟩ = false := by
  rw [Bool.eq_false_iff]
  intro h
  have s := okB_spec h
  simp at s
  omega
theorem edge_no4 (v : Int) (hv : 1099511627776 < v) : okB ⟨255, 1, 100, 150528, v, 16383, 16382, 16381, 16380, 16379, 16378, 16377, 16376, 16375, 16374, 16373, 16372, 16371, 16370⟩ = false := by
  rw [Bool.eq_false_iff]
  intro h
  have s := okB_spec h
  simp at s
  omega
theorem edge_no6 (v : Int) (hv : v % 256 ≠ 0) : okB ⟨255, 2, 100, v, 1099511627776, 16383, 16382, 16381, 16380, 16379, 16378, 16377, 16376, 16375, 16374, 16373, 16372, 16371, 16370⟩ = false := by
  rw [Bool.eq_false_iff]
  intro h
  have s := okB_spec h
  simp at s
  omega
theorem edge_no7 (v : Int) (hv : v < 0) : okB ⟨255, 1, v, 150528, 1099511627776, 16383, 16382, 16381, 16380, 16379, 16378, 16377, 16376, 16375, 16374, 16373, 16372, 16371, 16370⟩ = false := by
  rw [Bool.eq_false_iff]
  intro h
  have s := okB_spec h
  simp at s
  omega
theorem noput_t (x : Nd) (w : World) (h : okB x = false) : Calls Try.prog 8 #[nodeV x] w fun e w' => e = .returned (.tuple #[.string ⟨#[]⟩, .bool false]) ∧ Below w.heap.size w w' := put_no x w h
theorem nocheck_t (x : Nd) (w : World) (h : okB x = false) : Calls Try.prog 12 #[nodeV x] w fun e w' => e = .returned (.bool false) ∧ Below w.heap.size w w' := by
  have := check_t x w
  rw [h] at this
  exact this

set_option maxRecDepth 10000 in
set_option maxHeartbeats 8000000 in
theorem nodeEdges_t (how v0 : Int) (w : World) : Calls Try.prog 5 #[.int .i64 how, .int .i64 v0] w fun e w' => e = .returned (.bool true) ∧ Below w.heap.size w w' := by
  have r0 := Int.emod_nonneg v0 (show (1000 : Int) ≠ 0 by decide)
  have r1 := Int.emod_lt_of_pos v0 (show (0 : Int) < 1000 by decide)
  have t0 := Int.emod_nonneg how (show (8 : Int) ≠ 0 by decide)
  have t1 := Int.emod_lt_of_pos how (show (0 : Int) < 8 by decide)
  have PLv := ndhid (fun w => gplace_t v0 1000 w (by decide) (by decide))
  have PLh := ndhid (fun w => gplace_t how 8 w (by decide) (by decide))
  obtain ⟨p, hp⟩ : ∃ p : Nat, v0 % 1000 = (p : Int) := ⟨(v0 % 1000).toNat, by omega⟩
  rw [hp] at PLv r0 r1
  have hp2 : p < 1000 := by omega
  clear hp r0 r1
  generalize how % 8 = h at *
  have HC : Hid (h = 0 ∨ h = 1 ∨ h = 2 ∨ h = 3 ∨ h = 4 ∨ h = 5 ∨ h = 6 ∨ h = 7) := by show _ ∨ _; omega
  clear t0 t1
  have PUT := ndhid (fun w1 => nput_t edgeX w1)
  rw [edge_ok] at PUT
  have GET := ndhid (fun w1 => rget_t edgeX w1 edge_ok)
  generalize putS edgeX = S at *
  have AW := ndhid awake_t
  have ES := ndhid edge_set
  go_enter Try.func5, Try.ntmps5
  go_wp2_with fail
  refine (PLv.out _).mono ?_
  rintro e w' ⟨rfl, rfl⟩
  clear PLv
  go_wp2_with (first | (refine wpList_store_row rfl 24 (.tmp 6) (.tmp 17) rfl w.heap.size (nodeC (edgeK 0)) rfl rfl 24 (nodeC Nd.z) (heap_alloc_new _ _) Try.nodeSize rfl (nodeC_one (edgeK 0)) ?_; rw [World.setRow_alloc_new]) | fail)
  generalize hW : w.alloc _ = W
  have HX0 : Hid (W.heap[w.heap.size]? = some (.cells (nodeC (edgeK 0)) 24 (0, 0))) := by rw [← hW]; exact heap_alloc_new _ _
  have HB0 : Hid (Below w.heap.size w W) := by rw [← hW]; exact (Below.refl _ w).alloc (Nat.le_refl _) _
  clear hW
  go_loopw [7] (fun c wr => ∃ k : Nat, k ≤ 14 ∧ c = .int .i64 k ∧ Hid (wr.heap[w.heap.size]? = some (.cells (nodeC (edgeK k)) 24 (0, 0))) ∧ Hid (Below w.heap.size w wr)) (fun c _ => 14 - (intOf c).toNat)
  case atStart => exact ⟨0, by omega, rfl, HX0, HB0⟩
  case round =>
    obtain ⟨k, hk, rfl, HX, HB⟩ := hrel
    clear HX0 HB0
    by_cases hk2 : k < 14
    · have HS := ndhid (ES.out k hk2)
      have c0 : wr.cell? ⟨w.heap.size, 5 + k, none⟩ = some (.int .i64 ((edgeK k).ptr k)) := (cell_of_row wr _ _ _ _ _ HX.out).trans (node_cell _ k hk2)
      have y0 := frozen_of_row wr w.heap.size (5 + k) _ _ HX.out
      clear ES PUT GET AW PLh HC
      go_wp2_with fail
      refine ⟨⟨k + 1, by omega, rfl, ?_, ?_⟩, by simp [intOf]; omega⟩
      · show _ = _
        rw [← HS.out]
        exact heap_setCell_same _ _ _ _ _ _ HX.out
      · exact HB.out.setCell (Nat.le_refl _) _
    · have hk3 : k = 14 := by omega
      subst hk3
      rw [edge_14] at HX
      have hwr : w.heap.size < wr.heap.size := (Array.getElem?_eq_some_iff.1 HX.out).1
      clear hk hk2 ES
      go_wp2_with (first | (refine wpList_load_row rfl 24 (.tmp 6) rfl w.heap.size rfl 24 (nodeC edgeX) (0, 0) _ HX.out Try.underlying24 rfl Try.nodeSize ?_) | fail)
      refine (PUT.out _).mono ?_
      rintro e w1 ⟨rfl, hb1⟩
      have HX1 : Hid (w1.heap[w.heap.size]? = some (.cells (nodeC edgeX) 24 (0, 0))) := by show _ = _; rw [hb1.block _ hwr]; exact HX.out
      have HB1 : Hid (Below w.heap.size w w1) := HB.out.trans (hb1.mono HB.out.size)
      have hw1 : w.heap.size < w1.heap.size := by have := hb1.size; omega
      clear hb1 HX HB PUT hwr
      go_wp2_with fail
      refine (GET.out _).mono ?_
      rintro e w2 ⟨rfl, hb2⟩
      have HX2 : Hid (w2.heap[w.heap.size]? = some (.cells (nodeC edgeX) 24 (0, 0))) := by show _ = _; rw [hb2.block _ hw1]; exact HX1.out
      have HB2 : Hid (Below w.heap.size w w2) := HB1.out.trans (hb2.mono HB1.out.size)
      have hw2 : w.heap.size < w2.heap.size := by have := hb2.size; omega
      have c13 : (w2.alloc (.cells (nodeC edgeX) 24)).cell? ⟨w2.heap.size, 18, none⟩ = some (.int .i64 16370) := (cell_of_row _ _ _ _ _ _ (heap_alloc_new _ _)).trans rfl
      have c3 : (w2.alloc (.cells (nodeC edgeX) 24)).cell? ⟨w2.heap.size, 3, none⟩ = some (.int .i64 150528) := (cell_of_row _ _ _ _ _ _ (heap_alloc_new _ _)).trans rfl
      clear hb2 HX1 HB1 GET hw1
      go_wp2_with (first | (refine wpList_store_row rfl 24 (.tmp 10) (.tmp 35) rfl w2.heap.size (nodeC edgeX) rfl rfl 24 (nodeC Nd.z) (heap_alloc_new _ _) Try.nodeSize rfl (nodeC_one edgeX) ?_; rw [World.setRow_alloc_new]) | fail)
      generalize hV : w2.alloc _ = V
      have HX3 : Hid (V.heap[w.heap.size]? = some (.cells (nodeC edgeX) 24 (0, 0))) := by rw [← hV]; show _ = _; rw [Below.heap_alloc _ _ _ hw2]; exact HX2.out
      have HB3 : Hid (Below w.heap.size w V) := by rw [← hV]; exact HB2.out.alloc HB2.out.size _
      have hw3 : w.heap.size < V.heap.size := by rw [← hV]; simp; omega
      clear hV HX2 HB2 hw2 c13 c3
      refine (PLh.out _).mono ?_
      rintro e w' ⟨rfl, rfl⟩
      clear PLh
      rcases HC.out with rfl | rfl | rfl | rfl | rfl | rfl | rfl | rfl
      · clear HC
        have d0 : V.cell? ⟨w.heap.size, 0, none⟩ = some (.int .i64 255) := (cell_of_row V _ _ _ _ _ HX3.out).trans rfl
        have y0 := frozen_of_row V w.heap.size 0 _ _ HX3.out
        have HY : Hid (∀ v : Int, (V.setCell ⟨w.heap.size, 0, none⟩ (.int .i64 v)).heap[w.heap.size]? = some (.cells (nodeC ⟨v, 1, 100, 150528, 1099511627776, 16383, 16382, 16381, 16380, 16379, 16378, 16377, 16376, 16375, 16374, 16373, 16372, 16371, 16370⟩) 24 (0, 0))) := fun v => (heap_setCell_same _ _ _ _ _ _ HX3.out)
        have PNO : Hid (∀ (v : Int) (w1 : World), 255 < v → Calls Try.prog 8 #[nodeV ⟨v, 1, 100, 150528, 1099511627776, 16383, 16382, 16381, 16380, 16379, 16378, 16377, 16376, 16375, 16374, 16373, 16372, 16371, 16370⟩] w1 fun e w' => e = .returned (.tuple #[.string ⟨#[]⟩, .bool false]) ∧ Below w1.heap.size w1 w') := fun v w1 hv => noput_t _ w1 (edge_no0 v hv)
        have CNO : Hid (∀ (v : Int) (w1 : World), 255 < v → Calls Try.prog 12 #[nodeV ⟨v, 1, 100, 150528, 1099511627776, 16383, 16382, 16381, 16380, 16379, 16378, 16377, 16376, 16375, 16374, 16373, 16372, 16371, 16370⟩] w1 fun e w' => e = .returned (.bool false) ∧ Below w1.heap.size w1 w') := fun v w1 hv => nocheck_t _ w1 (edge_no0 v hv)
        go_wp2_with (first | (refine wpList_load_row rfl 24 (.tmp 6) rfl w.heap.size rfl 24 _ (0, 0) _ (HY.out _) Try.underlying24 rfl Try.nodeSize ?_) | fail)
        refine (PNO.out _ _ (by omega)).mono ?_
        rintro e w4 ⟨rfl, hb4⟩
        have HX4 := ndhid ((hb4.block _ (by simp; omega)).trans (HY.out _))
        have HB4 : Hid (Below w.heap.size w w4) := (HB3.out.setCell (Nat.le_refl _) _).trans (hb4.mono (by simp; omega))
        clear hb4 HX3 HB3 PNO
        go_wp2_with (first | (refine wpList_load_any rfl 24 (.tmp 6) rfl w.heap.size rfl 24 _ (0, 0) _ HX4.out Try.underlying24 rfl Try.nodeSize ?_) | fail)
        refine (CNO.out _ _ (by omega)).mono ?_
        rintro e w5 ⟨rfl, hb5⟩
        have HB5 : Hid (Below w.heap.size w w5) := HB4.out.trans (hb5.mono HB4.out.size)
        clear hb5 HX4 HB4 CNO HY
        go_wp2_with fail
        refine (AW.out _).mono ?_
        rintro e w6 ⟨rfl, hb6⟩
        have HB6 : Hid (Below w.heap.size w w6) := HB5.out.trans (hb6.mono HB5.out.size)
        clear hb6 HB5 AW
        go_wp2_with fail
        go_ret
        exact ⟨rfl, HB6.out⟩
      · clear HC
        have d1 : V.cell? ⟨w.heap.size, 1, none⟩ = some (.int .i64 1) := (cell_of_row V _ _ _ _ _ HX3.out).trans rfl
        have y1 := frozen_of_row V w.heap.size 1 _ _ HX3.out
        have HY : Hid (∀ v : Int, (V.setCell ⟨w.heap.size, 1, none⟩ (.int .i64 v)).heap[w.heap.size]? = some (.cells (nodeC ⟨255, v, 100, 150528, 1099511627776, 16383, 16382, 16381, 16380, 16379, 16378, 16377, 16376, 16375, 16374, 16373, 16372, 16371, 16370⟩) 24 (0, 0))) := fun v => (heap_setCell_same _ _ _ _ _ _ HX3.out)
        have PNO : Hid (∀ (v : Int) (w1 : World), 2 < v → Calls Try.prog 8 #[nodeV ⟨255, v, 100, 150528, 1099511627776, 16383, 16382, 16381, 16380, 16379, 16378, 16377, 16376, 16375, 16374, 16373, 16372, 16371, 16370⟩] w1 fun e w' => e = .returned (.tuple #[.string ⟨#[]⟩, .bool false]) ∧ Below w1.heap.size w1 w') := fun v w1 hv => noput_t _ w1 (edge_no1 v hv)
        have CNO : Hid (∀ (v : Int) (w1 : World), 2 < v → Calls Try.prog 12 #[nodeV ⟨255, v, 100, 150528, 1099511627776, 16383, 16382, 16381, 16380, 16379, 16378, 16377, 16376, 16375, 16374, 16373, 16372, 16371, 16370⟩] w1 fun e w' => e = .returned (.bool false) ∧ Below w1.heap.size w1 w') := fun v w1 hv => nocheck_t _ w1 (edge_no1 v hv)
        go_wp2_with (first | (refine wpList_load_row rfl 24 (.tmp 6) rfl w.heap.size rfl 24 _ (0, 0) _ (HY.out _) Try.underlying24 rfl Try.nodeSize ?_) | fail)
        refine (PNO.out _ _ (by omega)).mono ?_
        rintro e w4 ⟨rfl, hb4⟩
        have HX4 := ndhid ((hb4.block _ (by simp; omega)).trans (HY.out _))
        have HB4 : Hid (Below w.heap.size w w4) := (HB3.out.setCell (Nat.le_refl _) _).trans (hb4.mono (by simp; omega))
        clear hb4 HX3 HB3 PNO
        go_wp2_with (first | (refine wpList_load_any rfl 24 (.tmp 6) rfl w.heap.size rfl 24 _ (0, 0) _ HX4.out Try.underlying24 rfl Try.nodeSize ?_) | fail)
        refine (CNO.out _ _ (by omega)).mono ?_
        rintro e w5 ⟨rfl, hb5⟩
        have HB5 : Hid (Below w.heap.size w w5) := HB4.out.trans (hb5.mono HB4.out.size)
        clear hb5 HX4 HB4 CNO HY
        go_wp2_with fail
        refine (AW.out _).mono ?_
        rintro e w6 ⟨rfl, hb6⟩
        have HB6 : Hid (Below w.heap.size w w6) := HB5.out.trans (hb6.mono HB5.out.size)
        clear hb6 HB5 AW
        go_wp2_with fail
        go_ret
        exact ⟨rfl, HB6.out⟩
      · clear HC
        have d2 : V.cell? ⟨w.heap.size, 2, none⟩ = some (.int .i64 100) := (cell_of_row V _ _ _ _ _ HX3.out).trans rfl
        have y2 := frozen_of_row V w.heap.size 2 _ _ HX3.out
        have HY : Hid (∀ v : Int, (V.setCell ⟨w.heap.size, 2, none⟩ (.int .i64 v)).heap[w.heap.size]? = some (.cells (nodeC ⟨255, 1, v, 150528, 1099511627776, 16383, 16382, 16381, 16380, 16379, 16378, 16377, 16376, 16375, 16374, 16373, 16372, 16371, 16370⟩) 24 (0, 0))) := fun v => (heap_setCell_same _ _ _ _ _ _ HX3.out)
        have PNO : Hid (∀ (v : Int) (w1 : World), 100 < v → Calls Try.prog 8 #[nodeV ⟨255, 1, v, 150528, 1099511627776, 16383, 16382, 16381, 16380, 16379, 16378, 16377, 16376, 16375, 16374, 16373, 16372, 16371, 16370⟩] w1 fun e w' => e = .returned (.tuple #[.string ⟨#[]⟩, .bool false]) ∧ Below w1.heap.size w1 w') := fun v w1 hv => noput_t _ w1 (edge_no2 v hv)
        have CNO : Hid (∀ (v : Int) (w1 : World), 100 < v → Calls Try.prog 12 #[nodeV ⟨255, 1, v, 150528, 1099511627776, 16383, 16382, 16381, 16380, 16379, 16378, 16377, 16376, 16375, 16374, 16373, 16372, 16371, 16370⟩] w1 fun e w' => e = .returned (.bool false) ∧ Below w1.heap.size w1 w') := fun v w1 hv => nocheck_t _ w1 (edge_no2 v hv)
        go_wp2_with (first | (refine wpList_load_row rfl 24 (.tmp 6) rfl w.heap.size rfl 24 _ (0, 0) _ (HY.out _) Try.underlying24 rfl Try.nodeSize ?_) | fail)
        refine (PNO.out _ _ (by omega)).mono ?_
        rintro e w4 ⟨rfl, hb4⟩
        have HX4 := ndhid ((hb4.block _ (by simp; omega)).trans (HY.out _))
        have HB4 : Hid (Below w.heap.size w w4) := (HB3.out.setCell (Nat.le_refl _) _).trans (hb4.mono (by simp; omega))
        clear hb4 HX3 HB3 PNO
        go_wp2_with (first | (refine wpList_load_any rfl 24 (.tmp 6) rfl w.heap.size rfl 24 _ (0, 0) _ HX4.out Try.underlying24 rfl Try.nodeSize ?_) | fail)
        refine (CNO.out _ _ (by omega)).mono ?_
        rintro e w5 ⟨rfl, hb5⟩
        have HB5 : Hid (Below w.heap.size w w5) := HB4.out.trans (hb5.mono HB4.out.size)
        clear hb5 HX4 HB4 CNO HY
        go_wp2_with fail
        refine (AW.out _).mono ?_
        rintro e w6 ⟨rfl, hb6⟩
        have HB6 : Hid (Below w.heap.size w w6) := HB5.out.trans (hb6.mono HB5.out.size)
        clear hb6 HB5 AW
        go_wp2_with fail
        go_ret
        exact ⟨rfl, HB6.out⟩
      · clear HC
        have d3 : V.cell? ⟨w.heap.size, 3, none⟩ = some (.int .i64 150528) := (cell_of_row V _ _ _ _ _ HX3.out).trans rfl
        have y3 := frozen_of_row V w.heap.size 3 _ _ HX3.out
        have HY : Hid (∀ v : Int, (V.setCell ⟨w.heap.size, 3, none⟩ (.int .i64 v)).heap[w.heap.size]? = some (.cells (nodeC ⟨255, 1, 100, v, 1099511627776, 16383, 16382, 16381, 16380, 16379, 16378, 16377, 16376, 16375, 16374, 16373, 16372, 16371, 16370⟩) 24 (0, 0))) := fun v => (heap_setCell_same _ _ _ _ _ _ HX3.out)
        have PNO : Hid (∀ (v : Int) (w1 : World), 150528 < v → Calls Try.prog 8 #[nodeV ⟨255, 1, 100, v, 1099511627776, 16383, 16382, 16381, 16380, 16379, 16378, 16377, 16376, 16375, 16374, 16373, 16372, 16371, 16370⟩] w1 fun e w' => e = .returned (.tuple #[.string ⟨#[]⟩, .bool false]) ∧ Below w1.heap.size w1 w') := fun v w1 hv => noput_t _ w1 (edge_no3 v hv)
        have CNO : Hid (∀ (v : Int) (w1 : World), 150528 < v → Calls Try.prog 12 #[nodeV ⟨255, 1, 100, v, 1099511627776, 16383, 16382, 16381, 16380, 16379, 16378, 16377, 16376, 16375, 16374, 16373, 16372, 16371, 16370⟩] w1 fun e w' => e = .returned (.bool false) ∧ Below w1.heap.size w1 w') := fun v w1 hv => nocheck_t _ w1 (edge_no3 v hv)
        go_wp2_with (first | (refine wpList_load_row rfl 24 (.tmp 6) rfl w.heap.size rfl 24 _ (0, 0) _ (HY.out _) Try.underlying24 rfl Try.nodeSize ?_) | fail)
        refine (PNO.out _ _ (by omega)).mono ?_
        rintro e w4 ⟨rfl, hb4⟩
        have HX4 := ndhid ((hb4.block _ (by simp; omega)).trans (HY.out _))
        have HB4 : Hid (Below w.heap.size w w4) := (HB3.out.setCell (Nat.le_refl _) _).trans (hb4.mono (by simp; omega))
        clear hb4 HX3 HB3 PNO
        go_wp2_with (first | (refine wpList_load_any rfl 24 (.tmp 6) rfl w.heap.size rfl 24 _ (0, 0) _ HX4.out Try.underlying24 rfl Try.nodeSize ?_) | fail)
        refine (CNO.out _ _ (by omega)).mono ?_
        rintro e w5 ⟨rfl, hb5⟩
        have HB5 : Hid (Below w.heap.size w w5) := HB4.out.trans (hb5.mono HB4.out.size)
        clear hb5 HX4 HB4 CNO HY
        go_wp2_with fail
        refine (AW.out _).mono ?_
        rintro e w6 ⟨rfl, hb6⟩
        have HB6 : Hid (Below w.heap.size w w6) := HB5.out.trans (hb6.mono HB5.out.size)
        clear hb6 HB5 AW
        go_wp2_with fail
        go_ret
        exact ⟨rfl, HB6.out⟩
      · clear HC
        have d4 : V.cell? ⟨w.heap.size, 4, none⟩ = some (.int .i64 1099511627776) := (cell_of_row V _ _ _ _ _ HX3.out).trans rfl
        have y4 := frozen_of_row V w.heap.size 4 _ _ HX3.out
        have HY : Hid (∀ v : Int, (V.setCell ⟨w.heap.size, 4, none⟩ (.int .i64 v)).heap[w.heap.size]? = some (.cells (nodeC ⟨255, 1, 100, 150528, v, 16383, 16382, 16381, 16380, 16379, 16378, 16377, 16376, 16375, 16374, 16373, 16372, 16371, 16370⟩) 24 (0, 0))) := fun v => (heap_setCell_same _ _ _ _ _ _ HX3.out)
        have PNO : Hid (∀ (v : Int) (w1 : World), 1099511627776 < v → Calls Try.prog 8 #[nodeV ⟨255, 1, 100, 150528, v, 16383, 16382, 16381, 16380, 16379, 16378, 16377, 16376, 16375, 16374, 16373, 16372, 16371, 16370⟩] w1 fun e w' => e = .returned (.tuple #[.string ⟨#[]⟩, .bool false]) ∧ Below w1.heap.size w1 w') := fun v w1 hv => noput_t _ w1 (edge_no4 v hv)
        have CNO : Hid (∀ (v : Int) (w1 : World), 1099511627776 < v → Calls Try.prog 12 #[nodeV ⟨255, 1, 100, 150528, v, 16383, 16382, 16381, 16380, 16379, 16378, 16377, 16376, 16375, 16374, 16373, 16372, 16371, 16370⟩] w1 fun e w' => e = .returned (.bool false) ∧ Below w1.heap.size w1 w') := fun v w1 hv => nocheck_t _ w1 (edge_no4 v hv)
        go_wp2_with (first | (refine wpList_load_row rfl 24 (.tmp 6) rfl w.heap.size rfl 24 _ (0, 0) _ (HY.out _) Try.underlying24 rfl Try.nodeSize ?_) | fail)
        refine (PNO.out _ _ (by omega)).mono ?_
        rintro e w4 ⟨rfl, hb4⟩
        have HX4 := ndhid ((hb4.block _ (by simp; omega)).trans (HY.out _))
        have HB4 : Hid (Below w.heap.size w w4) := (HB3.out.setCell (Nat.le_refl _) _).trans (hb4.mono (by simp; omega))
        clear hb4 HX3 HB3 PNO
        go_wp2_with (first | (refine wpList_load_any rfl 24 (.tmp 6) rfl w.heap.size rfl 24 _ (0, 0) _ HX4.out Try.underlying24 rfl Try.nodeSize ?_) | fail)
        refine (CNO.out _ _ (by omega)).mono ?_
        rintro e w5 ⟨rfl, hb5⟩
        have HB5 : Hid (Below w.heap.size w w5) := HB4.out.trans (hb5.mono HB4.out.size)
        clear hb5 HX4 HB4 CNO HY
        go_wp2_with fail
        refine (AW.out _).mono ?_
        rintro e w6 ⟨rfl, hb6⟩
        have HB6 : Hid (Below w.heap.size w w6) := HB5.out.trans (hb6.mono HB5.out.size)
        clear hb6 HB5 AW
        go_wp2_with fail
        go_ret
        exact ⟨rfl, HB6.out⟩
      · clear HC
        obtain ⟨j, hj⟩ : ∃ j : Nat, (1 + (p : Int)) % 14 = (j : Int) := ⟨((1 + (p : Int)) % 14).toNat, by omega⟩
        have hj2 : j < 14 := by omega
        have d0 : V.cell? ⟨w.heap.size, 5 + j, none⟩ = some (.int .i64 (edgeX.ptr j)) := (cell_of_row V _ _ _ _ _ HX3.out).trans (node_cell _ j hj2)
        have y0 := frozen_of_row V w.heap.size (5 + j) _ _ HX3.out
        have HY : Hid (∀ v : Int, (V.setCell ⟨w.heap.size, 5 + j, none⟩ (.int .i64 v)).heap[w.heap.size]? = some (.cells (nodeC (setP edgeX j v)) 24 (0, 0))) := fun v => by rw [← setP_set edgeX j v hj2]; exact heap_setCell_same _ _ _ _ _ _ HX3.out
        have PNO : Hid (∀ (v : Int) (w1 : World), 16383 < v → Calls Try.prog 8 #[nodeV (setP edgeX j v)] w1 fun e w' => e = .returned (.tuple #[.string ⟨#[]⟩, .bool false]) ∧ Below w1.heap.size w1 w') := fun v w1 hv => noput_t _ w1 (setP_no edgeX j v hj2 hv)
        have CNO : Hid (∀ (v : Int) (w1 : World), 16383 < v → Calls Try.prog 12 #[nodeV (setP edgeX j v)] w1 fun e w' => e = .returned (.bool false) ∧ Below w1.heap.size w1 w') := fun v w1 hv => nocheck_t _ w1 (setP_no edgeX j v hj2 hv)
        go_wp2_with (first | (refine wpList_load_row rfl 24 (.tmp 6) rfl w.heap.size rfl 24 _ (0, 0) _ (HY.out _) Try.underlying24 rfl Try.nodeSize ?_) | fail)
        refine (PNO.out _ _ (by omega)).mono ?_
        rintro e w4 ⟨rfl, hb4⟩
        have HX4 := ndhid ((hb4.block _ (by simp; omega)).trans (HY.out _))
        have HB4 : Hid (Below w.heap.size w w4) := (HB3.out.setCell (Nat.le_refl _) _).trans (hb4.mono (by simp; omega))
        clear hb4 HX3 HB3 PNO
        go_wp2_with (first | (refine wpList_load_any rfl 24 (.tmp 6) rfl w.heap.size rfl 24 _ (0, 0) _ HX4.out Try.underlying24 rfl Try.nodeSize ?_) | fail)
        refine (CNO.out _ _ (by omega)).mono ?_
        rintro e w5 ⟨rfl, hb5⟩
        have HB5 : Hid (Below w.heap.size w w5) := HB4.out.trans (hb5.mono HB4.out.size)
        clear hb5 HX4 HB4 CNO HY
        go_wp2_with fail
        refine (AW.out _).mono ?_
        rintro e w6 ⟨rfl, hb6⟩
        have HB6 : Hid (Below w.heap.size w w6) := HB5.out.trans (hb6.mono HB5.out.size)
        clear hb6 HB5 AW
        go_wp2_with fail
        go_ret
        exact ⟨rfl, HB6.out⟩
      · clear HC
        obtain ⟨a, ha⟩ : ∃ a : Nat, (1 + (p : Int)) % 100 = (a : Int) := ⟨((1 + (p : Int)) % 100).toNat, by omega⟩
        have ha2 : a < 100 := by omega
        obtain ⟨c, hc⟩ : ∃ c : Nat, (1 + (p : Int)) % 255 = (c : Int) := ⟨((1 + (p : Int)) % 255).toNat, by omega⟩
        have hc2 : c < 255 := by omega
        have d1 : V.cell? ⟨w.heap.size, 1, none⟩ = some (.int .i64 1) := (cell_of_row V _ _ _ _ _ HX3.out).trans rfl
        have y1 := frozen_of_row V w.heap.size 1 _ _ HX3.out
        have d3 : V.cell? ⟨w.heap.size, 3, none⟩ = some (.int .i64 150528) := (cell_of_row V _ _ _ _ _ HX3.out).trans rfl
        have y3 := frozen_of_row V w.heap.size 3 _ _ HX3.out
        have HY : Hid (∀ v : Int, ((V.setCell ⟨w.heap.size, 1, none⟩ (.int .i64 2)).setCell ⟨w.heap.size, 3, none⟩ (.int .i64 v)).heap[w.heap.size]? = some (.cells (nodeC ⟨255, 2, 100, v, 1099511627776, 16383, 16382, 16381, 16380, 16379, 16378, 16377, 16376, 16375, 16374, 16373, 16372, 16371, 16370⟩) 24 (0, 0))) := fun v => (heap_setCell_same _ _ _ _ _ _ (heap_setCell_same _ _ _ _ _ _ HX3.out))
        have PNO : Hid (∀ (v : Int) (w1 : World), v % 256 ≠ 0 → Calls Try.prog 8 #[nodeV ⟨255, 2, 100, v, 1099511627776, 16383, 16382, 16381, 16380, 16379, 16378, 16377, 16376, 16375, 16374, 16373, 16372, 16371, 16370⟩] w1 fun e w' => e = .returned (.tuple #[.string ⟨#[]⟩, .bool false]) ∧ Below w1.heap.size w1 w') := fun v w1 hv => noput_t _ w1 (edge_no6 v hv)
        have CNO : Hid (∀ (v : Int) (w1 : World), v % 256 ≠ 0 → Calls Try.prog 12 #[nodeV ⟨255, 2, 100, v, 1099511627776, 16383, 16382, 16381, 16380, 16379, 16378, 16377, 16376, 16375, 16374, 16373, 16372, 16371, 16370⟩] w1 fun e w' => e = .returned (.bool false) ∧ Below w1.heap.size w1 w') := fun v w1 hv => nocheck_t _ w1 (edge_no6 v hv)
        go_wp2_with (first | (refine wpList_load_row rfl 24 (.tmp 6) rfl w.heap.size rfl 24 _ (0, 0) _ (HY.out _) Try.underlying24 rfl Try.nodeSize ?_) | fail)
        refine (PNO.out _ _ (by omega)).mono ?_
        rintro e w4 ⟨rfl, hb4⟩
        have HX4 := ndhid ((hb4.block _ (by simp; omega)).trans (HY.out _))
        have HB4 : Hid (Below w.heap.size w w4) := ((HB3.out.setCell (Nat.le_refl _) _).setCell (Nat.le_refl _) _).trans (hb4.mono (by simp; omega))
        clear hb4 HX3 HB3 PNO
        go_wp2_with (first | (refine wpList_load_any rfl 24 (.tmp 6) rfl w.heap.size rfl 24 _ (0, 0) _ HX4.out Try.underlying24 rfl Try.nodeSize ?_) | fail)
        refine (CNO.out _ _ (by omega)).mono ?_
        rintro e w5 ⟨rfl, hb5⟩
        have HB5 : Hid (Below w.heap.size w w5) := HB4.out.trans (hb5.mono HB4.out.size)
        clear hb5 HX4 HB4 CNO HY
        go_wp2_with fail
        refine (AW.out _).mono ?_
        rintro e w6 ⟨rfl, hb6⟩
        have HB6 : Hid (Below w.heap.size w w6) := HB5.out.trans (hb6.mono HB5.out.size)
        clear hb6 HB5 AW
        go_wp2_with fail
        go_ret
        exact ⟨rfl, HB6.out⟩
      · clear HC
        have d2 : V.cell? ⟨w.heap.size, 2, none⟩ = some (.int .i64 100) := (cell_of_row V _ _ _ _ _ HX3.out).trans rfl
        have y2 := frozen_of_row V w.heap.size 2 _ _ HX3.out
        have HY : Hid (∀ v : Int, (V.setCell ⟨w.heap.size, 2, none⟩ (.int .i64 v)).heap[w.heap.size]? = some (.cells (nodeC ⟨255, 1, v, 150528, 1099511627776, 16383, 16382, 16381, 16380, 16379, 16378, 16377, 16376, 16375, 16374, 16373, 16372, 16371, 16370⟩) 24 (0, 0))) := fun v => (heap_setCell_same _ _ _ _ _ _ HX3.out)
        have PNO : Hid (∀ (v : Int) (w1 : World), v < 0 → Calls Try.prog 8 #[nodeV ⟨255, 1, v, 150528, 1099511627776, 16383, 16382, 16381, 16380, 16379, 16378, 16377, 16376, 16375, 16374, 16373, 16372, 16371, 16370⟩] w1 fun e w' => e = .returned (.tuple #[.string ⟨#[]⟩, .bool false]) ∧ Below w1.heap.size w1 w') := fun v w1 hv => noput_t _ w1 (edge_no7 v hv)
        have CNO : Hid (∀ (v : Int) (w1 : World), v < 0 → Calls Try.prog 12 #[nodeV ⟨255, 1, v, 150528, 1099511627776, 16383, 16382, 16381, 16380, 16379, 16378, 16377, 16376, 16375, 16374, 16373, 16372, 16371, 16370⟩] w1 fun e w' => e = .returned (.bool false) ∧ Below w1.heap.size w1 w') := fun v w1 hv => nocheck_t _ w1 (edge_no7 v hv)
        go_wp2_with (first | (refine wpList_load_row rfl 24 (.tmp 6) rfl w.heap.size rfl 24 _ (0, 0) _ (HY.out _) Try.underlying24 rfl Try.nodeSize ?_) | fail)
        refine (PNO.out _ _ (by omega)).mono ?_
        rintro e w4 ⟨rfl, hb4⟩
        have HX4 := ndhid ((hb4.block _ (by simp; omega)).trans (HY.out _))
        have HB4 : Hid (Below w.heap.size w w4) := (HB3.out.setCell (Nat.le_refl _) _).trans (hb4.mono (by simp; omega))
        clear hb4 HX3 HB3 PNO
        go_wp2_with (first | (refine wpList_load_any rfl 24 (.tmp 6) rfl w.heap.size rfl 24 _ (0, 0) _ HX4.out Try.underlying24 rfl Try.nodeSize ?_) | fail)
        refine (CNO.out _ _ (by omega)).mono ?_
        rintro e w5 ⟨rfl, hb5⟩
        have HB5 : Hid (Below w.heap.size w w5) := HB4.out.trans (hb5.mono HB4.out.size)
        clear hb5 HX4 HB4 CNO HY
        go_wp2_with fail
        refine (AW.out _).mono ?_
        rintro e w6 ⟨rfl, hb6⟩
        have HB6 : Hid (Below w.heap.size w w6) := HB5.out.trans (hb6.mono HB5.out.size)
        clear hb6 HB5 AW
        go_wp2_with fail
        go_ret
        exact ⟨rfl, HB6.out⟩
end Go.Proofs.Ytclfpblnjdlnfaa
