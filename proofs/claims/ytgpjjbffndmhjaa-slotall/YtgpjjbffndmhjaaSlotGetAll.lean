/- The state of bytes: Get walked, whole. -/
import Derived.Test.YtgpjjbffndmhjaaSlotGet
namespace Go.Proofs.Ytgpjjbffndmhjaa
open Go.RowKit Rec Slt

/-- What Get answers: the state, or none. -/
def gotV (s : ByteArray) : Value := if getB s then .tuple #[.int .i64 (getH s.data.toList), .int .i64 (getG s.data.toList), slotV (getX s.data.toList), .bool true] else .tuple #[.int .i64 0, .int .i64 0, slotV Sl.z, .bool false]

/-- The blocks that Get makes. -/
abbrev getW (s : ByteArray) (w : World) : World := (((w.alloc (.cells #[.string s] 9)).alloc (.cells #[.int .i64 0] 3)).alloc (.cells #[.int .i64 0] 3)).alloc (.cells (slotC Sl.z) 24)

set_option maxRecDepth 10000 in
set_option maxHeartbeats 2000000 in
theorem sget_short (s : ByteArray) (w : World) (h : s.size ≠ 256) (_hl : s.size ≤ 9223372036854775807) :
    Calls Try.prog 10 #[.string s] w fun e w' => e = .returned (gotV s) ∧ Below w.heap.size w w' := by
  have hb : ((s.size : Int) == 256) = false := by rw [beq_eq_false_iff_ne]; omega
  have hb2 : ((s.size : Int) != 256) = true := by rw [bne, hb]; rfl
  have HG : Hid (gotV s = .tuple #[.int .i64 0, .int .i64 0, slotV Sl.z, .bool false]) := by show _ = _; unfold gotV; rw [get_long h]; rfl
  clear h
  go_enter Try.func10, Try.ntmps10
  go_wp2_with fail
  refine bodyPost_ret (v := .tuple #[.int .i64 0, .int .i64 0, slotV Sl.z, .bool false]) (by simp [results, Try.results10, go_sem, Sl.z]) rfl ⟨by rw [HG.out], ?_⟩
  exact ((((Below.refl _ _).alloc (Nat.le_refl _) _).alloc (by simp) _).alloc (by simp <;> omega) _).alloc (by simp <;> omega) _

theorem getW_got (s : ByteArray) (w : World) : GotK s w.heap.size 0 w ((getW s w).alloc (.cells #[.int .i64 4] 3)) := by
  have e1 : w.heap.size + 1 = (w.alloc (.cells #[.string s] 9)).heap.size := by simp
  have e2 : w.heap.size + 2 = ((w.alloc (.cells #[.string s] 9)).alloc (.cells #[.int .i64 0] 3)).heap.size := by simp
  have e3 : w.heap.size + 3 = (((w.alloc (.cells #[.string s] 9)).alloc (.cells #[.int .i64 0] 3)).alloc (.cells #[.int .i64 0] 3)).heap.size := by simp
  have e4 : w.heap.size + 4 = (getW s w).heap.size := by simp
  refine ⟨⟨?_, ?_, ?_⟩, ?_, ?_, ?_⟩
  · rw [Below.heap_alloc _ _ _ (by simp <;> omega), Below.heap_alloc _ _ _ (by simp <;> omega), Below.heap_alloc _ _ _ (by simp), e1]
    exact heap_alloc_new _ _
  · rw [Below.heap_alloc _ _ _ (by simp <;> omega), Below.heap_alloc _ _ _ (by simp), e2]
    exact heap_alloc_new _ _
  · rw [Below.heap_alloc _ _ _ (by simp), e3]
    exact heap_alloc_new _ _
  · rw [Below.heap_alloc _ _ _ (by simp <;> omega), Below.heap_alloc _ _ _ (by simp <;> omega), Below.heap_alloc _ _ _ (by simp <;> omega), Below.heap_alloc _ _ _ (by simp)]
    exact heap_alloc_new _ _
  · rw [e4]
    exact heap_alloc_new _ _
  · exact (((((Below.refl _ _).alloc (Nat.le_refl _) _).alloc (by simp) _).alloc (by simp <;> omega) _).alloc (by simp <;> omega) _).alloc (by simp <;> omega) _

set_option maxRecDepth 10000 in
set_option maxHeartbeats 4000000 in
theorem sget_full (s : ByteArray) (w : World) (hs : s.size = 256) :
    Calls Try.prog 10 #[.string s] w fun e w' => e = .returned (gotV s) ∧ Below w.heap.size w w' := by
  have TURN := slthid (getTurn_t s w.heap.size w _ (getW_got s w) hs)
  have hs2 : (s.size : Int) = 256 := by omega
  obtain ⟨H, hH⟩ : ∃ H, H = getH s.data.toList := ⟨_, rfl⟩
  obtain ⟨G, hG⟩ : ∃ G, G = getG s.data.toList := ⟨_, rfl⟩
  obtain ⟨X, hX⟩ : ∃ X, X = getX s.data.toList := ⟨_, rfl⟩
  have HGV : Hid (gotV s = if putB H G X && decide (putS H G X = s) then .tuple #[.int .i64 H, .int .i64 G, slotV X, .bool true] else .tuple #[.int .i64 0, .int .i64 0, slotV Sl.z, .bool false]) := by
    show _ = _
    unfold gotV getB
    rw [hs, ← hH, ← hG, ← hX]
    rfl
  have HPUT := slthid (fun w1 => sput_t H G X w1)
  have HHX : Hid (H = getH s.data.toList ∧ G = getG s.data.toList ∧ X = getX s.data.toList) := ⟨hH, hG, hX⟩
  clear hH hG hX
  go_enter Try.func10, Try.ntmps10
  go_wp2_with fail
  refine TURN.out.mono ?_
  rintro e w1 ⟨rfl, ⟨l1, l2, l3⟩, l4, l5, hb1⟩
  obtain ⟨g1, g2, g3⟩ := gv_all s.data.toList
  rw [g1, ← HHX.out.1] at l1
  rw [g2, ← HHX.out.2.1] at l2
  rw [g3, ← HHX.out.2.2] at l3
  have L1 := slthid l1
  have L2 := slthid l2
  have L3 := slthid l3
  have L4 := slthid l4
  have HB1 := slthid hb1
  have hsz : w.heap.size + 4 < w1.heap.size := (Array.getElem?_eq_some_iff.1 l5).1
  have x : w1.cell? ⟨w.heap.size + 1, 0, none⟩ = some (.int .i64 H) := (cell_of_row w1 _ _ _ _ _ l1).trans rfl
  have x' : w1.cell? ⟨w.heap.size + 1 + 1, 0, none⟩ = some (.int .i64 G) := (cell_of_row w1 _ _ _ _ _ l2).trans rfl
  clear l1 l2 l3 l4 l5 hb1 g1 g2 g3 TURN HHX
  obtain ⟨num, life, clock, seg, at_, next, seq, m0, m1, m2, m3, sb, sn⟩ := X
  have x0 : w1.cell? ⟨w.heap.size + 1 + 1 + 1, 0, none⟩ = some (.int .i64 num) := (cell_of_row w1 _ _ _ _ _ L3.out).trans rfl
  have x1 : w1.cell? ⟨w.heap.size + 1 + 1 + 1, 1, none⟩ = some (.int .i64 life) := (cell_of_row w1 _ _ _ _ _ L3.out).trans rfl
  have x2 : w1.cell? ⟨w.heap.size + 1 + 1 + 1, 2, none⟩ = some (.int .i64 clock) := (cell_of_row w1 _ _ _ _ _ L3.out).trans rfl
  have x3 : w1.cell? ⟨w.heap.size + 1 + 1 + 1, 3, none⟩ = some (.int .i64 seg) := (cell_of_row w1 _ _ _ _ _ L3.out).trans rfl
  have x4 : w1.cell? ⟨w.heap.size + 1 + 1 + 1, 4, none⟩ = some (.int .i64 at_) := (cell_of_row w1 _ _ _ _ _ L3.out).trans rfl
  have x5 : w1.cell? ⟨w.heap.size + 1 + 1 + 1, 5, none⟩ = some (.int .i64 next) := (cell_of_row w1 _ _ _ _ _ L3.out).trans rfl
  have x6 : w1.cell? ⟨w.heap.size + 1 + 1 + 1, 6, none⟩ = some (.int .i64 seq) := (cell_of_row w1 _ _ _ _ _ L3.out).trans rfl
  have x7 : w1.cell? ⟨w.heap.size + 1 + 1 + 1, 7, none⟩ = some (.int .i64 m0) := (cell_of_row w1 _ _ _ _ _ L3.out).trans rfl
  have x8 : w1.cell? ⟨w.heap.size + 1 + 1 + 1, 8, none⟩ = some (.int .i64 m1) := (cell_of_row w1 _ _ _ _ _ L3.out).trans rfl
  have x9 : w1.cell? ⟨w.heap.size + 1 + 1 + 1, 9, none⟩ = some (.int .i64 m2) := (cell_of_row w1 _ _ _ _ _ L3.out).trans rfl
  have x10 : w1.cell? ⟨w.heap.size + 1 + 1 + 1, 10, none⟩ = some (.int .i64 m3) := (cell_of_row w1 _ _ _ _ _ L3.out).trans rfl
  have x11 : w1.cell? ⟨w.heap.size + 1 + 1 + 1, 11, none⟩ = some (.int .i64 sb) := (cell_of_row w1 _ _ _ _ _ L3.out).trans rfl
  have x12 : w1.cell? ⟨w.heap.size + 1 + 1 + 1, 12, none⟩ = some (.int .i64 sn) := (cell_of_row w1 _ _ _ _ _ L3.out).trans rfl
  go_wp2_with fail
  refine (HPUT.out _).mono ?_
  rintro e w2 ⟨rfl, hb2⟩
  have K1 : Hid (w2.heap[w.heap.size + 1]? = _) := (hb2.block _ (by omega)).trans L1.out
  have K2 : Hid (w2.heap[w.heap.size + 2]? = _) := (hb2.block _ (by omega)).trans L2.out
  have K3 : Hid (w2.heap[w.heap.size + 3]? = _) := (hb2.block _ (by omega)).trans L3.out
  have K4 : Hid (w2.heap[w.heap.size]? = _) := (hb2.block _ (by omega)).trans L4.out
  have HW2 : Hid (Below w.heap.size w w2) := HB1.out.trans (hb2.mono (by omega))
  clear hb2 HPUT L1 L2 L3 L4 HB1 x x' x0 x1 x2 x3 x4 x5 x6 x7 x8 x9 x10 x11 x12
  generalize putS H G ⟨num, life, clock, seg, at_, next, seq, m0, m1, m2, m3, sb, sn⟩ = PS at *
  generalize putB H G ⟨num, life, clock, seg, at_, next, seq, m0, m1, m2, m3, sb, sn⟩ = PB at *
  have z : w2.cell? ⟨w.heap.size, 0, none⟩ = some (.string s) := (cell_of_row w2 _ _ _ _ _ K4.out).trans rfl
  have x : w2.cell? ⟨w.heap.size + 1, 0, none⟩ = some (.int .i64 H) := (cell_of_row w2 _ _ _ _ _ K1.out).trans rfl
  have y : w2.frozen? ⟨w.heap.size + 1, 0, none⟩ = false := frozen_of_row w2 _ _ _ _ K1.out
  have x' : w2.cell? ⟨w.heap.size + 1 + 1, 0, none⟩ = some (.int .i64 G) := (cell_of_row w2 _ _ _ _ _ K2.out).trans rfl
  have y' : w2.frozen? ⟨w.heap.size + 1 + 1, 0, none⟩ = false := frozen_of_row w2 _ _ _ _ K2.out
  have x0 : w2.cell? ⟨w.heap.size + 1 + 1 + 1, 0, none⟩ = some (.int .i64 num) := (cell_of_row w2 _ _ _ _ _ K3.out).trans rfl
  have y0 : w2.frozen? ⟨w.heap.size + 1 + 1 + 1, 0, none⟩ = false := frozen_of_row w2 _ _ _ _ K3.out
  have x1 : w2.cell? ⟨w.heap.size + 1 + 1 + 1, 1, none⟩ = some (.int .i64 life) := (cell_of_row w2 _ _ _ _ _ K3.out).trans rfl
  have y1 : w2.frozen? ⟨w.heap.size + 1 + 1 + 1, 1, none⟩ = false := frozen_of_row w2 _ _ _ _ K3.out
  have x2 : w2.cell? ⟨w.heap.size + 1 + 1 + 1, 2, none⟩ = some (.int .i64 clock) := (cell_of_row w2 _ _ _ _ _ K3.out).trans rfl
  have y2 : w2.frozen? ⟨w.heap.size + 1 + 1 + 1, 2, none⟩ = false := frozen_of_row w2 _ _ _ _ K3.out
  have x3 : w2.cell? ⟨w.heap.size + 1 + 1 + 1, 3, none⟩ = some (.int .i64 seg) := (cell_of_row w2 _ _ _ _ _ K3.out).trans rfl
  have y3 : w2.frozen? ⟨w.heap.size + 1 + 1 + 1, 3, none⟩ = false := frozen_of_row w2 _ _ _ _ K3.out
  have x4 : w2.cell? ⟨w.heap.size + 1 + 1 + 1, 4, none⟩ = some (.int .i64 at_) := (cell_of_row w2 _ _ _ _ _ K3.out).trans rfl
  have y4 : w2.frozen? ⟨w.heap.size + 1 + 1 + 1, 4, none⟩ = false := frozen_of_row w2 _ _ _ _ K3.out
  have x5 : w2.cell? ⟨w.heap.size + 1 + 1 + 1, 5, none⟩ = some (.int .i64 next) := (cell_of_row w2 _ _ _ _ _ K3.out).trans rfl
  have y5 : w2.frozen? ⟨w.heap.size + 1 + 1 + 1, 5, none⟩ = false := frozen_of_row w2 _ _ _ _ K3.out
  have x6 : w2.cell? ⟨w.heap.size + 1 + 1 + 1, 6, none⟩ = some (.int .i64 seq) := (cell_of_row w2 _ _ _ _ _ K3.out).trans rfl
  have y6 : w2.frozen? ⟨w.heap.size + 1 + 1 + 1, 6, none⟩ = false := frozen_of_row w2 _ _ _ _ K3.out
  have x7 : w2.cell? ⟨w.heap.size + 1 + 1 + 1, 7, none⟩ = some (.int .i64 m0) := (cell_of_row w2 _ _ _ _ _ K3.out).trans rfl
  have y7 : w2.frozen? ⟨w.heap.size + 1 + 1 + 1, 7, none⟩ = false := frozen_of_row w2 _ _ _ _ K3.out
  have x8 : w2.cell? ⟨w.heap.size + 1 + 1 + 1, 8, none⟩ = some (.int .i64 m1) := (cell_of_row w2 _ _ _ _ _ K3.out).trans rfl
  have y8 : w2.frozen? ⟨w.heap.size + 1 + 1 + 1, 8, none⟩ = false := frozen_of_row w2 _ _ _ _ K3.out
  have x9 : w2.cell? ⟨w.heap.size + 1 + 1 + 1, 9, none⟩ = some (.int .i64 m2) := (cell_of_row w2 _ _ _ _ _ K3.out).trans rfl
  have y9 : w2.frozen? ⟨w.heap.size + 1 + 1 + 1, 9, none⟩ = false := frozen_of_row w2 _ _ _ _ K3.out
  have x10 : w2.cell? ⟨w.heap.size + 1 + 1 + 1, 10, none⟩ = some (.int .i64 m3) := (cell_of_row w2 _ _ _ _ _ K3.out).trans rfl
  have y10 : w2.frozen? ⟨w.heap.size + 1 + 1 + 1, 10, none⟩ = false := frozen_of_row w2 _ _ _ _ K3.out
  have x11 : w2.cell? ⟨w.heap.size + 1 + 1 + 1, 11, none⟩ = some (.int .i64 sb) := (cell_of_row w2 _ _ _ _ _ K3.out).trans rfl
  have y11 : w2.frozen? ⟨w.heap.size + 1 + 1 + 1, 11, none⟩ = false := frozen_of_row w2 _ _ _ _ K3.out
  have x12 : w2.cell? ⟨w.heap.size + 1 + 1 + 1, 12, none⟩ = some (.int .i64 sn) := (cell_of_row w2 _ _ _ _ _ K3.out).trans rfl
  have y12 : w2.frozen? ⟨w.heap.size + 1 + 1 + 1, 12, none⟩ = false := frozen_of_row w2 _ _ _ _ K3.out
  clear K1 K2 K3 K4
  cases PB
  · have G0 : Hid (gotV s = .tuple #[.int .i64 0, .int .i64 0, slotV Sl.z, .bool false]) := by show _ = _; rw [HGV.out]; rfl
    clear HGV
    go_wp2_with fail
    refine bodyPost_ret (v := .tuple #[.int .i64 0, .int .i64 0, slotV Sl.z, .bool false]) (by simp [results, Try.results10, go_sem, Sl.z, x, x', x0, x1, x2, x3, x4, x5, x6, x7, x8, x9, x10, x11, x12]) rfl ⟨by rw [G0.out], ?_⟩
    iterate 15 refine Below.setCell ?_ (by dsimp only; omega) _
    exact HW2.out
  · by_cases he : PS = s
    · have G1 : Hid (gotV s = .tuple #[.int .i64 H, .int .i64 G, slotV ⟨num, life, clock, seg, at_, next, seq, m0, m1, m2, m3, sb, sn⟩, .bool true]) := by show _ = _; rw [HGV.out, decide_eq_true he]; rfl
      have hq : (PS.toList == s.toList) = true := by rw [he]; simp
      have hq2 : (PS.toList != s.toList) = false := by rw [bne, hq]; rfl
      clear HGV he
      go_wp2_with fail
      refine bodyPost_ret (v := .tuple #[.int .i64 H, .int .i64 G, slotV ⟨num, life, clock, seg, at_, next, seq, m0, m1, m2, m3, sb, sn⟩, .bool true]) (by simp [results, Try.results10, go_sem, x, x', x0, x1, x2, x3, x4, x5, x6, x7, x8, x9, x10, x11, x12]) rfl ⟨by rw [G1.out], ?_⟩
      iterate 15 refine Below.setCell ?_ (by dsimp only; omega) _
      exact HW2.out
    · have G0 : Hid (gotV s = .tuple #[.int .i64 0, .int .i64 0, slotV Sl.z, .bool false]) := by show _ = _; rw [HGV.out, decide_eq_false he]; rfl
      have hq : (PS.toList == s.toList) = false := by
        rw [beq_eq_false_iff_ne]
        intro h
        apply he
        rw [ByteArray.toList_eq, ByteArray.toList_eq] at h
        exact ByteArray.ext (Array.toList_inj.1 h)
      have hq2 : (PS.toList != s.toList) = true := by rw [bne, hq]; rfl
      clear HGV he
      go_wp2_with fail
      refine bodyPost_ret (v := .tuple #[.int .i64 0, .int .i64 0, slotV Sl.z, .bool false]) (by simp [results, Try.results10, go_sem, Sl.z, x, x', x0, x1, x2, x3, x4, x5, x6, x7, x8, x9, x10, x11, x12]) rfl ⟨by rw [G0.out], ?_⟩
      iterate 15 refine Below.setCell ?_ (by dsimp only; omega) _
      exact HW2.out

/-- The state of bytes, or none. -/
theorem sget_t (s : ByteArray) (w : World) (hl : s.size ≤ 9223372036854775807) : Calls Try.prog 10 #[.string s] w fun e w' => e = .returned (gotV s) ∧ Below w.heap.size w w' := by
  by_cases hs : s.size = 256
  · exact sget_full s w hs
  · exact sget_short s w hs hl
end Go.Proofs.Ytgpjjbffndmhjaa
