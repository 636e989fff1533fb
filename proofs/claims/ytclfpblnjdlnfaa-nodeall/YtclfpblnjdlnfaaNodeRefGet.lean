/- The document's own Get walked. -/
import Derived.Test.YtclfpblnjdlnfaaNodeRefPut
namespace Go.Proofs.Ytclfpblnjdlnfaa
open Go.RowKit Rec Nod

theorem offAt_ptr (k : Nat) (hk : k < 14) : offAt (5 + k) = 17 + 2 * k := by
  have hc : k = 0 ∨ k = 1 ∨ k = 2 ∨ k = 3 ∨ k = 4 ∨ k = 5 ∨ k = 6 ∨ k = 7 ∨ k = 8 ∨ k = 9 ∨ k = 10 ∨ k = 11 ∨ k = 12 ∨ k = 13 := by omega
  rcases hc with rfl | rfl | rfl | rfl | rfl | rfl | rfl | rfl | rfl | rfl | rfl | rfl | rfl | rfl <;> rfl
theorem gv_ptr (s : List UInt8) (k : Nat) (hk : k < 14) : gv s (5 + k + 1) (5 + k) = numAt s (17 + 2 * k) 2 := by
  rw [gv_new s (5 + k) (by omega), wids_ptr k hk, offAt_ptr k hk]

set_option maxRecDepth 10000 in
set_option maxHeartbeats 2000000 in
theorem dget_short (s : ByteArray) (w : World) (h : s.size ≠ 256) :
    Calls Try.prog 11 #[.string s] w fun e w' => e = .returned (.tuple #[nodeV Nd.z, .bool false]) ∧ Below w.heap.size w w' := by
  have hb : ((s.size : Int) == 256) = false := by rw [beq_eq_false_iff_ne]; omega
  have hb2 : ((s.size : Int) != 256) = true := by rw [bne, hb]; rfl
  clear h
  go_enter Try.func11, Try.ntmps11
  go_wp2_with (first | (refine wpList_store_row rfl 24 (.tmp 2) (.tmp 11) rfl w.heap.size (nodeC Nd.z) rfl rfl 24 (nodeC Nd.z) (heap_alloc_new _ _) Try.nodeSize rfl (nodeC_one Nd.z) ?_) | fail)
  refine bodyPost_ret (v := .tuple #[nodeV Nd.z, .bool false]) (results_cell_tmp_row Try.results11 _ _ w.heap.size 24 (nodeC Nd.z) (0, 0) _ rfl (setRow_heap _ _ _ _ _ _ (heap_alloc_new _ _)) Try.underlying24 rfl Try.nodeSize) rfl ⟨rfl, ?_⟩
  exact below_setRow ((Below.refl _ _).alloc (Nat.le_refl _) _) (by omega) _

set_option maxRecDepth 10000 in
set_option maxHeartbeats 8000000 in
theorem dget_full (s : ByteArray) (w : World) (hs : s.size = 256) :
    Calls Try.prog 11 #[.string s] w fun e w' => e = .returned (.tuple #[nodeV (gotX s), .bool (getB s)]) ∧ Below w.heap.size w w' := by
  have hs2 : (s.size : Int) = 256 := by omega
  obtain ⟨X, hX⟩ : ∃ X, X = getX s.data.toList := ⟨_, rfl⟩
  have HGB : Hid (getB s = (okB X && decide (putS X = s))) := by
    show _ = _
    unfold getB
    rw [hs, ← hX]
    rfl
  have HGX : Hid (gotX s = if getB s then X else Nd.z) := by show _ = _; rw [hX]; rfl
  have H19 : Hid (gx s.data.toList (5 + 14) = X) := by show _ = _; rw [hX]; rfl
  have PUT := ndhid (fun w1 => rput_t X w1)
  have GS : Hid (∀ k, k < 14 → (nodeC (gx s.data.toList (5 + k))).setIfInBounds (5 + k) (.int .i64 (numAt s.data.toList (17 + 2 * k) 2)) = nodeC (gx s.data.toList (5 + (k + 1)))) := fun k hk => by
    rw [← gv_ptr s.data.toList k hk]
    exact gx_set s.data.toList (5 + k) (by omega)
  have NP : Hid (∀ (k : Nat) (w1 : World), k < 14 → Calls Try.prog 28 #[.string s, .int .i64 (17 + 2 * (k : Int)), .int .i64 2] w1 fun e w' => e = .returned (.int .i64 (numAt s.data.toList (17 + 2 * k) 2)) ∧ w1 = w') := fun k w1 hk => by
    have := rnum_t s (17 + 2 * (k : Int)) 2 w1 (by omega) (by decide) (by decide) (by omega) (by omega)
    rw [show (17 + 2 * (k : Int)).toNat = 17 + 2 * k by omega] at this
    exact this
  have N0 : Hid (∀ w1, Calls Try.prog 28 #[.string s, .int .i64 4, .int .i64 1] w1 fun e w' => e = .returned (.int .i64 (numAt s.data.toList 4 1)) ∧ w1 = w') := fun w1 => rnum_t s 4 1 w1 (by decide) (by decide) (by decide) (by omega) (by omega)
  have N1 : Hid (∀ w1, Calls Try.prog 28 #[.string s, .int .i64 5, .int .i64 1] w1 fun e w' => e = .returned (.int .i64 (numAt s.data.toList 5 1)) ∧ w1 = w') := fun w1 => rnum_t s 5 1 w1 (by decide) (by decide) (by decide) (by omega) (by omega)
  have N2 : Hid (∀ w1, Calls Try.prog 28 #[.string s, .int .i64 6, .int .i64 1] w1 fun e w' => e = .returned (.int .i64 (numAt s.data.toList 6 1)) ∧ w1 = w') := fun w1 => rnum_t s 6 1 w1 (by decide) (by decide) (by decide) (by omega) (by omega)
  have N3 : Hid (∀ w1, Calls Try.prog 28 #[.string s, .int .i64 7, .int .i64 4] w1 fun e w' => e = .returned (.int .i64 (numAt s.data.toList 7 4)) ∧ w1 = w') := fun w1 => rnum_t s 7 4 w1 (by decide) (by decide) (by decide) (by omega) (by omega)
  have N4 : Hid (∀ w1, Calls Try.prog 28 #[.string s, .int .i64 11, .int .i64 6] w1 fun e w' => e = .returned (.int .i64 (numAt s.data.toList 11 6)) ∧ w1 = w') := fun w1 => rnum_t s 11 6 w1 (by decide) (by decide) (by decide) (by omega) (by omega)
  have H5 : Hid (gx s.data.toList (5 + 0) = ⟨numAt s.data.toList 4 1, numAt s.data.toList 5 1, numAt s.data.toList 6 1, numAt s.data.toList 7 4, numAt s.data.toList 11 6, 0, 0, 0, 0, 0, 0, 0, 0, 0, 0, 0, 0, 0, 0⟩) := rfl
  clear hX hs
  generalize numAt s.data.toList 4 1 = V0 at *
  generalize numAt s.data.toList 5 1 = V1 at *
  generalize numAt s.data.toList 6 1 = V2 at *
  generalize numAt s.data.toList 7 4 = V3 at *
  generalize numAt s.data.toList 11 6 = V4 at *
  generalize gotX s = GX at *
  generalize getB s = GB at *
  obtain ⟨G, hG⟩ : ∃ G : Nat → Nd, G = fun k => gx s.data.toList (5 + k) := ⟨_, rfl⟩
  have hG2 : ∀ k, gx s.data.toList (5 + k) = G k := fun k => by rw [hG]
  have GS2 : Hid (∀ k, k < 14 → (nodeC (G k)).setIfInBounds (5 + k) (.int .i64 (numAt s.data.toList (17 + 2 * k) 2)) = nodeC (G (k + 1))) := fun k hk => by rw [← hG2, ← hG2]; exact GS.out k hk
  have H52 : Hid (G 0 = ⟨V0, V1, V2, V3, V4, 0, 0, 0, 0, 0, 0, 0, 0, 0, 0, 0, 0, 0, 0⟩) := by show _ = _; rw [← hG2]; exact H5.out
  have H192 : Hid (G 14 = X) := by show _ = _; rw [← hG2]; exact H19.out
  clear hG hG2 GS H5 H19
  go_enter Try.func11, Try.ntmps11
  go_wp2_with fail
  refine (N0.out _).mono ?_
  rintro e w' ⟨rfl, rfl⟩
  clear N0
  go_wp2_with fail
  refine (N1.out _).mono ?_
  rintro e w' ⟨rfl, rfl⟩
  clear N1
  go_wp2_with fail
  refine (N2.out _).mono ?_
  rintro e w' ⟨rfl, rfl⟩
  clear N2
  go_wp2_with fail
  refine (N3.out _).mono ?_
  rintro e w' ⟨rfl, rfl⟩
  clear N3
  go_wp2_with fail
  refine (N4.out _).mono ?_
  rintro e w' ⟨rfl, rfl⟩
  clear N4
  go_wp2_with (first | (refine wpList_store_row rfl 24 (.tmp 4) (.tmp 22) rfl (w.heap.size + 1) (nodeC ⟨V0, V1, V2, V3, V4, 0, 0, 0, 0, 0, 0, 0, 0, 0, 0, 0, 0, 0, 0⟩) rfl rfl 24 (nodeC Nd.z) (heap_alloc2_new _ _ _) Try.nodeSize rfl (nodeC_one ⟨V0, V1, V2, V3, V4, 0, 0, 0, 0, 0, 0, 0, 0, 0, 0, 0, 0, 0, 0⟩) ?_) | fail)
  generalize hW : World.setRow _ _ _ = W
  have HR0 : Hid (W.heap[w.heap.size]? = some (.cells (nodeC Nd.z) 24 (0, 0))) := by rw [← hW]; show _ = _; rw [setRow_other _ _ _ _ (by omega)]; exact heap_alloc2_old _ _ _
  have HX0 : Hid (W.heap[w.heap.size + 1]? = some (.cells (nodeC (G 0)) 24 (0, 0))) := by rw [← hW, H52.out]; exact setRow_heap _ _ _ _ _ _ (heap_alloc2_new _ _ _)
  have HB0 : Hid (Below w.heap.size w W) := by rw [← hW]; exact below_setRow (((Below.refl _ w).alloc (Nat.le_refl _) _).alloc (by simp) _) (by omega) _
  clear hW H52
  go_loopw [5] (fun c wr => ∃ k : Nat, k ≤ 14 ∧ c = .int .i64 k ∧ Hid (wr.heap[w.heap.size + 1]? = some (.cells (nodeC (G k)) 24 (0, 0))) ∧ Hid (wr.heap[w.heap.size]? = some (.cells (nodeC Nd.z) 24 (0, 0))) ∧ Hid (Below w.heap.size w wr)) (fun c _ => 14 - (intOf c).toNat)
  case atStart => exact ⟨0, by omega, rfl, HX0, HR0, HB0⟩
  case round =>
    obtain ⟨k, hk, rfl, HX, HR, HB⟩ := hrel
    clear HX0 HR0 HB0
    by_cases hk2 : k < 14
    · have HS := ndhid (GS2.out k hk2)
      have HN := ndhid (fun w1 => NP.out k w1 hk2)
      have c0 : wr.cell? ⟨w.heap.size + 1, 5 + k, none⟩ = some (.int .i64 ((G k).ptr k)) := (cell_of_row wr _ _ _ _ _ HX.out).trans (node_cell _ k hk2)
      have y0 := frozen_of_row wr (w.heap.size + 1) (5 + k) _ _ HX.out
      clear GS2 NP PUT HGB HGX H192
      generalize numAt s.data.toList (17 + 2 * k) 2 = q at *
      go_wp2_with fail
      refine (HN.out _).mono ?_
      rintro e w' ⟨rfl, rfl⟩
      go_wp2_with fail
      refine ⟨⟨k + 1, by omega, rfl, ?_, ?_, ?_⟩, by simp [intOf]; omega⟩
      · show _ = _
        rw [← HS.out]
        exact heap_setCell_same _ _ _ _ _ _ HX.out
      · exact (heap_setCell_other _ _ _ _ (by simp)).trans HR.out
      · exact HB.out.setCell (by dsimp only; omega) _
    · have hk3 : k = 14 := by omega
      subst hk3
      rw [H192.out] at HX
      have hwr : w.heap.size + 1 < wr.heap.size := (Array.getElem?_eq_some_iff.1 HX.out).1
      clear hk hk2 GS2 NP H192
      go_wp2_with (first | (refine wpList_load_row rfl 24 (.tmp 4) rfl (w.heap.size + 1) rfl 24 (nodeC X) (0, 0) _ HX.out Try.underlying24 rfl Try.nodeSize ?_) | fail)
      refine (PUT.out _).mono ?_
      rintro e w2 ⟨rfl, hb2⟩
      have K3 : Hid (w2.heap[w.heap.size + 1]? = _) := (hb2.block _ hwr).trans HX.out
      have K6 : Hid (w2.heap[w.heap.size]? = _) := (hb2.block _ (by omega)).trans HR.out
      have HW2 : Hid (Below w.heap.size w w2) := HB.out.trans (hb2.mono HB.out.size)
      clear hb2 PUT HX HR HB
      generalize putS X = PS at *
      generalize okB X = PB at *
      cases PB
      · have hg : GB = false := HGB.out
        subst hg
        have hx : GX = Nd.z := HGX.out
        subst hx
        clear HGB HGX
        go_wp2_with (first | (refine wpList_store_row rfl 24 (.tmp 2) (.tmp 47) rfl w.heap.size (nodeC Nd.z) rfl rfl 24 (nodeC Nd.z) K6.out Try.nodeSize rfl (nodeC_one Nd.z) ?_) | fail)
        refine bodyPost_ret (v := .tuple #[nodeV Nd.z, .bool false]) (results_cell_tmp_row Try.results11 _ _ w.heap.size 24 (nodeC Nd.z) (0, 0) _ rfl (setRow_heap _ _ _ _ _ _ K6.out) Try.underlying24 rfl Try.nodeSize) rfl ⟨rfl, ?_⟩
        exact below_setRow HW2.out (by omega) _
      · by_cases he : PS = s
        · have hg : GB = true := by rw [HGB.out, decide_eq_true he]; rfl
          subst hg
          have hx : GX = X := HGX.out
          subst hx
          have hq : (PS.toList == s.toList) = true := by rw [he]; simp
          have hq2 : (PS.toList != s.toList) = false := by rw [bne, hq]; rfl
          clear HGB HGX he
          go_wp2_with (first | (refine wpList_load_row rfl 24 (.tmp 4) rfl (w.heap.size + 1) rfl 24 (nodeC GX) (0, 0) _ K3.out Try.underlying24 rfl Try.nodeSize ?_) | (refine wpList_store_row rfl 24 (.tmp 2) (.tmp 48) rfl w.heap.size (nodeC GX) rfl rfl 24 (nodeC Nd.z) K6.out Try.nodeSize rfl (nodeC_one GX) ?_) | fail)
          refine bodyPost_ret (v := .tuple #[nodeV GX, .bool true]) (results_cell_tmp_row Try.results11 _ _ w.heap.size 24 (nodeC GX) (0, 0) _ rfl (setRow_heap _ _ _ _ _ _ K6.out) Try.underlying24 rfl Try.nodeSize) rfl ⟨rfl, ?_⟩
          exact below_setRow HW2.out (by omega) _
        · have hg : GB = false := by rw [HGB.out, decide_eq_false he]; rfl
          subst hg
          have hx : GX = Nd.z := HGX.out
          subst hx
          have hq : (PS.toList == s.toList) = false := by
            rw [beq_eq_false_iff_ne]
            intro h
            apply he
            rw [ByteArray.toList_eq, ByteArray.toList_eq] at h
            exact ByteArray.ext (Array.toList_inj.1 h)
          have hq2 : (PS.toList != s.toList) = true := by rw [bne, hq]; rfl
          clear HGB HGX he
          go_wp2_with (first | (refine wpList_store_row rfl 24 (.tmp 2) (.tmp 47) rfl w.heap.size (nodeC Nd.z) rfl rfl 24 (nodeC Nd.z) K6.out Try.nodeSize rfl (nodeC_one Nd.z) ?_) | fail)
          refine bodyPost_ret (v := .tuple #[nodeV Nd.z, .bool false]) (results_cell_tmp_row Try.results11 _ _ w.heap.size 24 (nodeC Nd.z) (0, 0) _ rfl (setRow_heap _ _ _ _ _ _ K6.out) Try.underlying24 rfl Try.nodeSize) rfl ⟨rfl, ?_⟩
          exact below_setRow HW2.out (by omega) _

/-- The document's own Get: the node of bytes, or none. -/
theorem dget_t (s : ByteArray) (w : World) : Calls Try.prog 11 #[.string s] w fun e w' => e = .returned (.tuple #[nodeV (gotX s), .bool (getB s)]) ∧ Below w.heap.size w w' := by
  by_cases hs : s.size = 256
  · exact dget_full s w hs
  · have h1 := get_long hs
    have h2 : gotX s = Nd.z := by unfold gotX; rw [h1]; rfl
    rw [h1, h2]
    exact dget_short s w hs
end Go.Proofs.Ytclfpblnjdlnfaa
