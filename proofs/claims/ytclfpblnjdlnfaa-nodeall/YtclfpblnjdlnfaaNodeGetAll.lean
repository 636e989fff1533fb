/- The node of bytes: Get walked, whole. -/
import Derived.Test.YtclfpblnjdlnfaaNodeGet
import Derived.Laws.ResultCell
namespace Go.Proofs.Ytclfpblnjdlnfaa
open Go.RowKit Rec Nod

/-- The node that is got: the one of the bytes, or none. -/
def gotX (s : ByteArray) : Nd := if getB s then getX s.data.toList else Nd.z

/-- A result through a cell, and one beside it: the cell's whole row. -/
theorem results_cell_tmp_row {P : Program} {fn : Func} {p u : Tmp} {ty : TypeId} (h : fn.results = #[.cell p ty, .tmp u]) (tmps : Array Value) (w : World) (g : Nat) (t : TypeId) (cs : Array Value) (fr : Nat × Nat) (d : TypeDesc)
    (hp : tmps.getD p undef = .pointer (some ⟨g, 0, none⟩)) (hg : w.heap[g]? = some (.cells cs t fr))
    (hu : P.underlying ty = some d) (hd : (match d with | .struct _ | .array _ _ => true | _ => false) = true) (hi : (P.info? ty).map (·.size) = some cs.size) :
    (results fn tmps).run P w = .ok (.tuple #[.agg cs, tmps.getD u undef]) w := by
  rw [results_cell_tmp h, hp]
  simp only [asAddr, Sem.run_pure, Result.andThen_ok, run_loadVar_row w g t ty cs fr d hg hu hd hi]

theorem getW_got (s : ByteArray) (w : World) : GotK s w.heap.size 0 w ((((w.alloc (.cells #[.string s] 9)).alloc (.cells (nodeC Nd.z) 24)).alloc (.cells (nodeC Nd.z) 24)).alloc (.cells #[.int .i64 4] 3)) := by
  have e1 : w.heap.size + 1 = (w.alloc (.cells #[.string s] 9)).heap.size := by simp
  have e2 : w.heap.size + 2 = ((w.alloc (.cells #[.string s] 9)).alloc (.cells (nodeC Nd.z) 24)).heap.size := by simp
  have e3 : w.heap.size + 3 = (((w.alloc (.cells #[.string s] 9)).alloc (.cells (nodeC Nd.z) 24)).alloc (.cells (nodeC Nd.z) 24)).heap.size := by simp
  refine ⟨?_, ?_, ?_, ?_, ?_⟩
  · rw [Below.heap_alloc _ _ _ (by simp), e2]
    exact heap_alloc_new _ _
  · rw [Below.heap_alloc _ _ _ (by simp <;> omega), Below.heap_alloc _ _ _ (by simp <;> omega), Below.heap_alloc _ _ _ (by simp)]
    exact heap_alloc_new _ _
  · rw [e3]
    exact heap_alloc_new _ _
  · rw [Below.heap_alloc _ _ _ (by simp <;> omega), Below.heap_alloc _ _ _ (by simp), e1]
    exact heap_alloc_new _ _
  · exact ((((Below.refl _ _).alloc (Nat.le_refl _) _).alloc (by simp) _).alloc (by simp <;> omega) _).alloc (by simp <;> omega) _

set_option maxRecDepth 10000 in
set_option maxHeartbeats 2000000 in
theorem nget_short (s : ByteArray) (w : World) (h : s.size ≠ 256) (_hl : s.size ≤ 9223372036854775807) :
    Calls Try.prog 10 #[.string s] w fun e w' => e = .returned (.tuple #[nodeV Nd.z, .bool false]) ∧ Below w.heap.size w w' := by
  have hb : ((s.size : Int) == 256) = false := by rw [beq_eq_false_iff_ne]; omega
  have hb2 : ((s.size : Int) != 256) = true := by rw [bne, hb]; rfl
  have e1 : ∀ o, w.heap.size + 1 = (w.alloc o).heap.size := by simp
  have HZ : Hid (∀ o, ((w.alloc o).alloc (.cells (nodeC Nd.z) 24)).heap[w.heap.size + 1]? = some (.cells (nodeC Nd.z) 24 (0, 0))) := fun o => by rw [e1 o]; exact heap_alloc_new _ _
  clear h e1
  go_enter Try.func10, Try.ntmps10
  go_wp2_with (first | (refine wpList_store_row rfl 24 (.tmp 2) (.tmp 11) rfl (w.heap.size + 1) (nodeC Nd.z) rfl rfl 24 (nodeC Nd.z) (HZ.out _) Try.nodeSize rfl (nodeC_one Nd.z) ?_) | fail)
  refine bodyPost_ret (v := .tuple #[nodeV Nd.z, .bool false]) (results_cell_tmp_row Try.results10 _ _ (w.heap.size + 1) 24 (nodeC Nd.z) (0, 0) _ rfl (setRow_heap _ _ _ _ _ _ (HZ.out _)) Try.underlying24 rfl Try.nodeSize) rfl ⟨rfl, ?_⟩
  exact below_setRow (((Below.refl _ _).alloc (Nat.le_refl _) _).alloc (by simp) _) (by omega) _

set_option maxRecDepth 10000 in
set_option maxHeartbeats 4000000 in
theorem nget_full (s : ByteArray) (w : World) (hs : s.size = 256) :
    Calls Try.prog 10 #[.string s] w fun e w' => e = .returned (.tuple #[nodeV (gotX s), .bool (getB s)]) ∧ Below w.heap.size w w' := by
  have TURN := ndhid (getTurn_t s w.heap.size w _ (getW_got s w) hs)
  have hs2 : (s.size : Int) = 256 := by omega
  obtain ⟨X, hX⟩ : ∃ X, X = getX s.data.toList := ⟨_, rfl⟩
  have HGB : Hid (getB s = (okB X && decide (putS X = s))) := by
    show _ = _
    unfold getB
    rw [hs, ← hX]
    rfl
  have HGX : Hid (gotX s = if getB s then X else Nd.z) := by show _ = _; rw [hX]; rfl
  generalize gotX s = GX at *
  generalize getB s = GB at *
  have HPUT := ndhid (fun w1 => nput_t X w1)
  have HHX := ndhid hX
  clear hX hs
  go_enter Try.func10, Try.ntmps10
  go_wp2_with fail
  refine TURN.out.mono ?_
  rintro e w1 ⟨rfl, l3, l4, l5, l6, hb1⟩
  rw [gx_all, ← HHX.out] at l3
  have L3 := ndhid l3
  have L4 := ndhid l4
  have L6 := ndhid l6
  have HB1 := ndhid hb1
  have hsz : w.heap.size + 3 < w1.heap.size := (Array.getElem?_eq_some_iff.1 l5).1
  clear l3 l4 l5 l6 hb1 TURN HHX
  go_wp2_with (first | (refine wpList_load_row rfl 24 (.tmp 4) rfl (w.heap.size + 1 + 1) rfl 24 (nodeC X) (0, 0) _ L3.out Try.underlying24 rfl Try.nodeSize ?_) | fail)
  refine (HPUT.out _).mono ?_
  rintro e w2 ⟨rfl, hb2⟩
  have K3 : Hid (w2.heap[w.heap.size + 2]? = _) := (hb2.block _ (by omega)).trans L3.out
  have K6 : Hid (w2.heap[w.heap.size + 1]? = _) := (hb2.block _ (by omega)).trans L6.out
  have z : w2.cell? ⟨w.heap.size, 0, none⟩ = some (.string s) := (cell_of_row w2 _ _ _ _ _ ((hb2.block _ (by omega)).trans L4.out)).trans rfl
  have HW2 : Hid (Below w.heap.size w w2) := HB1.out.trans (hb2.mono (by omega))
  clear hb2 HPUT L3 L4 L6 HB1
  generalize putS X = PS at *
  generalize okB X = PB at *
  cases PB
  · have hg : GB = false := HGB.out
    subst hg
    have hx : GX = Nd.z := HGX.out
    subst hx
    clear HGB HGX
    go_wp2_with (first | (refine wpList_store_row rfl 24 (.tmp 2) (.tmp 26) rfl (w.heap.size + 1) (nodeC Nd.z) rfl rfl 24 (nodeC Nd.z) K6.out Try.nodeSize rfl (nodeC_one Nd.z) ?_) | fail)
    refine bodyPost_ret (v := .tuple #[nodeV Nd.z, .bool false]) (results_cell_tmp_row Try.results10 _ _ (w.heap.size + 1) 24 (nodeC Nd.z) (0, 0) _ rfl (setRow_heap _ _ _ _ _ _ K6.out) Try.underlying24 rfl Try.nodeSize) rfl ⟨rfl, ?_⟩
    exact below_setRow HW2.out (by omega) _
  · by_cases he : PS = s
    · have hg : GB = true := by rw [HGB.out, decide_eq_true he]; rfl
      subst hg
      have hx : GX = X := HGX.out
      subst hx
      have hq : (PS.toList == s.toList) = true := by rw [he]; simp
      have hq2 : (PS.toList != s.toList) = false := by rw [bne, hq]; rfl
      clear HGB HGX he
      go_wp2_with (first | (refine wpList_load_row rfl 24 (.tmp 4) rfl (w.heap.size + 1 + 1) rfl 24 (nodeC GX) (0, 0) _ K3.out Try.underlying24 rfl Try.nodeSize ?_) | (refine wpList_store_row rfl 24 (.tmp 2) (.tmp 27) rfl (w.heap.size + 1) (nodeC GX) rfl rfl 24 (nodeC Nd.z) K6.out Try.nodeSize rfl (nodeC_one GX) ?_) | fail)
      refine bodyPost_ret (v := .tuple #[nodeV GX, .bool true]) (results_cell_tmp_row Try.results10 _ _ (w.heap.size + 1) 24 (nodeC GX) (0, 0) _ rfl (setRow_heap _ _ _ _ _ _ K6.out) Try.underlying24 rfl Try.nodeSize) rfl ⟨rfl, ?_⟩
      exact below_setRow HW2.out (by omega) _
    · have hg : GB = false := by rw [HGB.out, decide_eq_false he]; rfl
      subst hg
      have hx : GX = Nd.z := HGX.out
      subst hx
      have hq : (PS.toList == s.toList) = false := by
        rw [beq_eq_false_iff_ne]
        intro h
        apply he
        rw [ByteArray.toList_eq, ByteArray.toList_eq] at h
        exact ByteArray.ext (Array.toList_inj.1 h)
      have hq2 : (PS.toList != s.toList) = true := by rw [bne, hq]; rfl
      clear HGB HGX he
      go_wp2_with (first | (refine wpList_store_row rfl 24 (.tmp 2) (.tmp 26) rfl (w.heap.size + 1) (nodeC Nd.z) rfl rfl 24 (nodeC Nd.z) K6.out Try.nodeSize rfl (nodeC_one Nd.z) ?_) | fail)
      refine bodyPost_ret (v := .tuple #[nodeV Nd.z, .bool false]) (results_cell_tmp_row Try.results10 _ _ (w.heap.size + 1) 24 (nodeC Nd.z) (0, 0) _ rfl (setRow_heap _ _ _ _ _ _ K6.out) Try.underlying24 rfl Try.nodeSize) rfl ⟨rfl, ?_⟩
      exact below_setRow HW2.out (by omega) _

/-- The node of bytes, or none. -/
theorem nget_t (s : ByteArray) (w : World) (hl : s.size ≤ 9223372036854775807) : Calls Try.prog 10 #[.string s] w fun e w' => e = .returned (.tuple #[nodeV (gotX s), .bool (getB s)]) ∧ Below w.heap.size w w' := by
  by_cases hs : s.size = 256
  · exact nget_full s w hs
  · have h1 := get_long hs
    have h2 : gotX s = Nd.z := by unfold gotX; rw [h1]; rfl
    rw [h1, h2]
    exact nget_short s w hs hl
end Go.Proofs.Ytclfpblnjdlnfaa
