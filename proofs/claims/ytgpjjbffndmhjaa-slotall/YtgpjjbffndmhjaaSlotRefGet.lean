/- The document's own Get walked. -/
import Derived.Test.YtgpjjbffndmhjaaSlotRefPut
namespace Go.Proofs.Ytgpjjbffndmhjaa
open Go.RowKit Rec Slt

set_option maxRecDepth 10000 in
set_option maxHeartbeats 2000000 in
theorem rget_short (s : ByteArray) (w : World) (h : s.size ≠ 256) :
    Calls Try.prog 11 #[.string s] w fun e w' => e = .returned (gotV s) ∧ Below w.heap.size w w' := by
  have hb : ((s.size : Int) == 256) = false := by rw [beq_eq_false_iff_ne]; omega
  have hb2 : ((s.size : Int) != 256) = true := by rw [bne, hb]; rfl
  have HG : Hid (gotV s = .tuple #[.int .i64 0, .int .i64 0, slotV Sl.z, .bool false]) := by show _ = _; unfold gotV; rw [get_long h]; rfl
  clear h
  go_enter Try.func11, Try.ntmps11
  go_wp2_with fail
  refine bodyPost_ret (v := .tuple #[.int .i64 0, .int .i64 0, slotV Sl.z, .bool false]) (by simp [results, Try.results11, go_sem, Sl.z]) rfl ⟨by rw [HG.out], ?_⟩
  exact (Below.refl _ _).alloc (Nat.le_refl _) _

set_option maxRecDepth 10000 in
set_option maxHeartbeats 8000000 in
theorem rget_full (s : ByteArray) (w : World) (hs : s.size = 256) :
    Calls Try.prog 11 #[.string s] w fun e w' => e = .returned (gotV s) ∧ Below w.heap.size w w' := by
  have hs2 : (s.size : Int) = 256 := by omega
  have HGV : Hid (gotV s = if putB (getH s.data.toList) (getG s.data.toList) (getX s.data.toList) && decide (putS (getH s.data.toList) (getG s.data.toList) (getX s.data.toList) = s) then .tuple #[.int .i64 (getH s.data.toList), .int .i64 (getG s.data.toList), slotV (getX s.data.toList), .bool true] else .tuple #[.int .i64 0, .int .i64 0, slotV Sl.z, .bool false]) := by
    show _ = _
    unfold gotV getB
    rw [hs]
    rfl
  unfold getH getG getX at HGV
  have N0 : Hid (∀ w1, Calls Try.prog 30 #[.string s, .int .i64 4, .int .i64 1] w1 fun e w' => e = .returned (.int .i64 (numAt s.data.toList 4 1)) ∧ w1 = w') := fun w1 => rnum_t s 4 1 w1 (by decide) (by decide) (by decide) (by omega) (by omega)
  have N1 : Hid (∀ w1, Calls Try.prog 30 #[.string s, .int .i64 5, .int .i64 2] w1 fun e w' => e = .returned (.int .i64 (numAt s.data.toList 5 2)) ∧ w1 = w') := fun w1 => rnum_t s 5 2 w1 (by decide) (by decide) (by decide) (by omega) (by omega)
  have N2 : Hid (∀ w1, Calls Try.prog 30 #[.string s, .int .i64 7, .int .i64 6] w1 fun e w' => e = .returned (.int .i64 (numAt s.data.toList 7 6)) ∧ w1 = w') := fun w1 => rnum_t s 7 6 w1 (by decide) (by decide) (by decide) (by omega) (by omega)
  have N3 : Hid (∀ w1, Calls Try.prog 30 #[.string s, .int .i64 13, .int .i64 3] w1 fun e w' => e = .returned (.int .i64 (numAt s.data.toList 13 3)) ∧ w1 = w') := fun w1 => rnum_t s 13 3 w1 (by decide) (by decide) (by decide) (by omega) (by omega)
  have N4 : Hid (∀ w1, Calls Try.prog 30 #[.string s, .int .i64 16, .int .i64 6] w1 fun e w' => e = .returned (.int .i64 (numAt s.data.toList 16 6)) ∧ w1 = w') := fun w1 => rnum_t s 16 6 w1 (by decide) (by decide) (by decide) (by omega) (by omega)
  have N5 : Hid (∀ w1, Calls Try.prog 30 #[.string s, .int .i64 22, .int .i64 2] w1 fun e w' => e = .returned (.int .i64 (numAt s.data.toList 22 2)) ∧ w1 = w') := fun w1 => rnum_t s 22 2 w1 (by decide) (by decide) (by decide) (by omega) (by omega)
  have N6 : Hid (∀ w1, Calls Try.prog 30 #[.string s, .int .i64 24, .int .i64 2] w1 fun e w' => e = .returned (.int .i64 (numAt s.data.toList 24 2)) ∧ w1 = w') := fun w1 => rnum_t s 24 2 w1 (by decide) (by decide) (by decide) (by omega) (by omega)
  have N7 : Hid (∀ w1, Calls Try.prog 30 #[.string s, .int .i64 26, .int .i64 2] w1 fun e w' => e = .returned (.int .i64 (numAt s.data.toList 26 2)) ∧ w1 = w') := fun w1 => rnum_t s 26 2 w1 (by decide) (by decide) (by decide) (by omega) (by omega)
  have N8 : Hid (∀ w1, Calls Try.prog 30 #[.string s, .int .i64 28, .int .i64 6] w1 fun e w' => e = .returned (.int .i64 (numAt s.data.toList 28 6)) ∧ w1 = w') := fun w1 => rnum_t s 28 6 w1 (by decide) (by decide) (by decide) (by omega) (by omega)
  have N9 : Hid (∀ w1, Calls Try.prog 30 #[.string s, .int .i64 34, .int .i64 4] w1 fun e w' => e = .returned (.int .i64 (numAt s.data.toList 34 4)) ∧ w1 = w') := fun w1 => rnum_t s 34 4 w1 (by decide) (by decide) (by decide) (by omega) (by omega)
  have N10 : Hid (∀ w1, Calls Try.prog 30 #[.string s, .int .i64 38, .int .i64 4] w1 fun e w' => e = .returned (.int .i64 (numAt s.data.toList 38 4)) ∧ w1 = w') := fun w1 => rnum_t s 38 4 w1 (by decide) (by decide) (by decide) (by omega) (by omega)
  have N11 : Hid (∀ w1, Calls Try.prog 30 #[.string s, .int .i64 42, .int .i64 4] w1 fun e w' => e = .returned (.int .i64 (numAt s.data.toList 42 4)) ∧ w1 = w') := fun w1 => rnum_t s 42 4 w1 (by decide) (by decide) (by decide) (by omega) (by omega)
  have N12 : Hid (∀ w1, Calls Try.prog 30 #[.string s, .int .i64 46, .int .i64 4] w1 fun e w' => e = .returned (.int .i64 (numAt s.data.toList 46 4)) ∧ w1 = w') := fun w1 => rnum_t s 46 4 w1 (by decide) (by decide) (by decide) (by omega) (by omega)
  have N13 : Hid (∀ w1, Calls Try.prog 30 #[.string s, .int .i64 50, .int .i64 6] w1 fun e w' => e = .returned (.int .i64 (numAt s.data.toList 50 6)) ∧ w1 = w') := fun w1 => rnum_t s 50 6 w1 (by decide) (by decide) (by decide) (by omega) (by omega)
  have N14 : Hid (∀ w1, Calls Try.prog 30 #[.string s, .int .i64 56, .int .i64 6] w1 fun e w' => e = .returned (.int .i64 (numAt s.data.toList 56 6)) ∧ w1 = w') := fun w1 => rnum_t s 56 6 w1 (by decide) (by decide) (by decide) (by omega) (by omega)
  have NUM : Hid (∀ (a n : Int) (w1 : World), 0 ≤ a → 0 ≤ n → n ≤ 7 → a + n ≤ 256 → Calls Try.prog 30 #[.string s, .int .i64 a, .int .i64 n] w1 fun e w' => e = .returned (.int .i64 (numAt s.data.toList a.toNat n.toNat)) ∧ w1 = w') := fun a n w1 h1 h2 h3 h4 => rnum_t s a n w1 h1 h2 h3 (by omega) (by omega)
  obtain ⟨VV, hVV⟩ : ∃ VV : Int → Int → Int, VV = fun a n => numAt s.data.toList a.toNat n.toNat := ⟨_, rfl⟩
  have e0 : VV 4 1 = numAt s.data.toList 4 1 := by rw [hVV]; rfl
  have e1 : VV 5 2 = numAt s.data.toList 5 2 := by rw [hVV]; rfl
  have NUM2 : Hid (∀ (a n : Int) (w1 : World), 0 ≤ a → 0 ≤ n → n ≤ 7 → a + n ≤ 256 → Calls Try.prog 30 #[.string s, .int .i64 a, .int .i64 n] w1 fun e w' => e = .returned (.int .i64 (VV a n)) ∧ w1 = w') := by rw [hVV]; exact NUM
  clear NUM hVV
  generalize numAt s.data.toList 4 1 = V0 at *
  generalize numAt s.data.toList 5 2 = V1 at *
  generalize numAt s.data.toList 7 6 = V2 at *
  generalize numAt s.data.toList 13 3 = V3 at *
  generalize numAt s.data.toList 16 6 = V4 at *
  generalize numAt s.data.toList 22 2 = V5 at *
  generalize numAt s.data.toList 24 2 = V6 at *
  generalize numAt s.data.toList 26 2 = V7 at *
  generalize numAt s.data.toList 28 6 = V8 at *
  generalize numAt s.data.toList 34 4 = V9 at *
  generalize numAt s.data.toList 38 4 = V10 at *
  generalize numAt s.data.toList 42 4 = V11 at *
  generalize numAt s.data.toList 46 4 = V12 at *
  generalize numAt s.data.toList 50 6 = V13 at *
  generalize numAt s.data.toList 56 6 = V14 at *
  have E0 := slthid e0
  have E1 := slthid e1
  clear e0 e1
  have PUT := slthid (fun w1 => rput_t V0 V1 ⟨V2, V3, V4, V5, V6, V7, V8, V9, V10, V11, V12, V13, V14⟩ w1)
  have HS := slthid hs
  clear hs
  go_enter Try.func11, Try.ntmps11
  go_wp2_with fail
  refine (N2.out _).mono ?_
  rintro e w' ⟨rfl, rfl⟩
  clear N2
  go_wp2_with fail
  refine (N3.out _).mono ?_
  rintro e w' ⟨rfl, rfl⟩
  clear N3
  go_wp2_with fail
  refine (N4.out _).mono ?_
  rintro e w' ⟨rfl, rfl⟩
  clear N4
  go_wp2_with fail
  refine (N5.out _).mono ?_
  rintro e w' ⟨rfl, rfl⟩
  clear N5
  go_wp2_with fail
  refine (N6.out _).mono ?_
  rintro e w' ⟨rfl, rfl⟩
  clear N6
  go_wp2_with fail
  refine (N7.out _).mono ?_
  rintro e w' ⟨rfl, rfl⟩
  clear N7
  go_wp2_with fail
  refine (N8.out _).mono ?_
  rintro e w' ⟨rfl, rfl⟩
  clear N8
  go_wp2_with fail
  refine (N13.out _).mono ?_
  rintro e w' ⟨rfl, rfl⟩
  clear N13
  go_wp2_with fail
  refine (N14.out _).mono ?_
  rintro e w' ⟨rfl, rfl⟩
  clear N14
  go_wp2_with fail
  generalize hV : World.alloc _ _ = V
  have HR : Hid (V.heap[w.heap.size]? = some (.cells (slotC Sl.z) 24 (0, 0))) := by
    rw [← hV]
    show _ = _
    rw [Below.heap_alloc _ _ _ (by simp)]
    exact heap_alloc_new _ _
  have HX : Hid (V.heap[w.heap.size + 1]? = some (.cells (slotC ⟨V2, V3, V4, V5, V6, V7, V8, 0, 0, 0, 0, V13, V14⟩) 24 (0, 0))) := by
    rw [← hV]
    have : w.heap.size + 1 = (w.alloc (.cells (slotC Sl.z) 24)).heap.size := by simp
    rw [this]
    exact heap_alloc_new _ _
  have HB : Hid (Below w.heap.size w V) := by rw [← hV]; exact ((Below.refl _ w).alloc (Nat.le_refl _) _).alloc (by simp) _
  clear hV
  go_loopw [7] (fun c wr => ∃ k : Nat, k ≤ 4 ∧ c = .int .i64 k ∧ Hid (wr.heap[w.heap.size + 1]? = some (.cells (slotC ⟨V2, V3, V4, V5, V6, V7, V8, (if 0 < k then V9 else 0), (if 1 < k then V10 else 0), (if 2 < k then V11 else 0), (if 3 < k then V12 else 0), V13, V14⟩) 24 (0, 0))) ∧ Hid (wr.heap[w.heap.size]? = some (.cells (slotC Sl.z) 24 (0, 0))) ∧ Hid (Below w.heap.size w wr)) (fun c _ => 4 - (intOf c).toNat)
  case atStart => exact ⟨0, by omega, rfl, HX, HR, HB⟩
  case round =>
    clear HX HR HB
    obtain ⟨k, hk, rfl, HX, HR, HB⟩ := hrel
    have hc : k = 0 ∨ k = 1 ∨ k = 2 ∨ k = 3 ∨ k = 4 := by omega
    rcases hc with rfl | rfl | rfl | rfl | rfl
    · have HX' : Hid (wr.heap[w.heap.size + 1]? = some (.cells (slotC ⟨V2, V3, V4, V5, V6, V7, V8, 0, 0, 0, 0, V13, V14⟩) 24 (0, 0))) := HX
      have x : wr.cell? ⟨w.heap.size + 1, 7, none⟩ = some (.int .i64 0) := (cell_of_row wr _ _ _ _ _ HX'.out).trans rfl
      have f := frozen_of_row wr (w.heap.size + 1) 7 _ _ HX'.out
      clear HX
      go_wp2_with fail
      refine (N9.out _).mono ?_
      rintro e w' ⟨rfl, rfl⟩
      have HX2 : Hid ((wr.setCell ⟨w.heap.size + 1, 7, none⟩ (.int .i64 V9)).heap[w.heap.size + 1]? = some (.cells (slotC ⟨V2, V3, V4, V5, V6, V7, V8, V9, 0, 0, 0, V13, V14⟩) 24 (0, 0))) := (heap_setCell_same wr _ 7 _ _ _ HX'.out).trans rfl
      have HR2 : Hid ((wr.setCell ⟨w.heap.size + 1, 7, none⟩ (.int .i64 V9)).heap[w.heap.size]? = some (.cells (slotC Sl.z) 24 (0, 0))) := (heap_setCell_other wr _ _ _ (by simp)).trans HR.out
      have HB2 : Hid (Below w.heap.size w (wr.setCell ⟨w.heap.size + 1, 7, none⟩ (.int .i64 V9))) := HB.out.setCell (by simp) _
      clear HX' HR HB
      go_wp2_with fail
      exact ⟨⟨1, by omega, rfl, HX2, HR2, HB2⟩, by simp [intOf]⟩
    · have HX' : Hid (wr.heap[w.heap.size + 1]? = some (.cells (slotC ⟨V2, V3, V4, V5, V6, V7, V8, V9, 0, 0, 0, V13, V14⟩) 24 (0, 0))) := HX
      have x : wr.cell? ⟨w.heap.size + 1, 8, none⟩ = some (.int .i64 0) := (cell_of_row wr _ _ _ _ _ HX'.out).trans rfl
      have f := frozen_of_row wr (w.heap.size + 1) 8 _ _ HX'.out
      clear HX
      go_wp2_with fail
      refine (N10.out _).mono ?_
      rintro e w' ⟨rfl, rfl⟩
      have HX2 : Hid ((wr.setCell ⟨w.heap.size + 1, 8, none⟩ (.int .i64 V10)).heap[w.heap.size + 1]? = some (.cells (slotC ⟨V2, V3, V4, V5, V6, V7, V8, V9, V10, 0, 0, V13, V14⟩) 24 (0, 0))) := (heap_setCell_same wr _ 8 _ _ _ HX'.out).trans rfl
      have HR2 : Hid ((wr.setCell ⟨w.heap.size + 1, 8, none⟩ (.int .i64 V10)).heap[w.heap.size]? = some (.cells (slotC Sl.z) 24 (0, 0))) := (heap_setCell_other wr _ _ _ (by simp)).trans HR.out
      have HB2 : Hid (Below w.heap.size w (wr.setCell ⟨w.heap.size + 1, 8, none⟩ (.int .i64 V10))) := HB.out.setCell (by simp) _
      clear HX' HR HB
      go_wp2_with fail
      exact ⟨⟨2, by omega, rfl, HX2, HR2, HB2⟩, by simp [intOf]⟩
    · have HX' : Hid (wr.heap[w.heap.size + 1]? = some (.cells (slotC ⟨V2, V3, V4, V5, V6, V7, V8, V9, V10, 0, 0, V13, V14⟩) 24 (0, 0))) := HX
      have x : wr.cell? ⟨w.heap.size + 1, 9, none⟩ = some (.int .i64 0) := (cell_of_row wr _ _ _ _ _ HX'.out).trans rfl
      have f := frozen_of_row wr (w.heap.size + 1) 9 _ _ HX'.out
      clear HX
      go_wp2_with fail
      refine (N11.out _).mono ?_
      rintro e w' ⟨rfl, rfl⟩
      have HX2 : Hid ((wr.setCell ⟨w.heap.size + 1, 9, none⟩ (.int .i64 V11)).heap[w.heap.size + 1]? = some (.cells (slotC ⟨V2, V3, V4, V5, V6, V7, V8, V9, V10, V11, 0, V13, V14⟩) 24 (0, 0))) := (heap_setCell_same wr _ 9 _ _ _ HX'.out).trans rfl
      have HR2 : Hid ((wr.setCell ⟨w.heap.size + 1, 9, none⟩ (.int .i64 V11)).heap[w.heap.size]? = some (.cells (slotC Sl.z) 24 (0, 0))) := (heap_setCell_other wr _ _ _ (by simp)).trans HR.out
      have HB2 : Hid (Below w.heap.size w (wr.setCell ⟨w.heap.size + 1, 9, none⟩ (.int .i64 V11))) := HB.out.setCell (by simp) _
      clear HX' HR HB
      go_wp2_with fail
      exact ⟨⟨3, by omega, rfl, HX2, HR2, HB2⟩, by simp [intOf]⟩
    · have HX' : Hid (wr.heap[w.heap.size + 1]? = some (.cells (slotC ⟨V2, V3, V4, V5, V6, V7, V8, V9, V10, V11, 0, V13, V14⟩) 24 (0, 0))) := HX
      have x : wr.cell? ⟨w.heap.size + 1, 10, none⟩ = some (.int .i64 0) := (cell_of_row wr _ _ _ _ _ HX'.out).trans rfl
      have f := frozen_of_row wr (w.heap.size + 1) 10 _ _ HX'.out
      clear HX
      go_wp2_with fail
      refine (N12.out _).mono ?_
      rintro e w' ⟨rfl, rfl⟩
      have HX2 : Hid ((wr.setCell ⟨w.heap.size + 1, 10, none⟩ (.int .i64 V12)).heap[w.heap.size + 1]? = some (.cells (slotC ⟨V2, V3, V4, V5, V6, V7, V8, V9, V10, V11, V12, V13, V14⟩) 24 (0, 0))) := (heap_setCell_same wr _ 10 _ _ _ HX'.out).trans rfl
      have HR2 : Hid ((wr.setCell ⟨w.heap.size + 1, 10, none⟩ (.int .i64 V12)).heap[w.heap.size]? = some (.cells (slotC Sl.z) 24 (0, 0))) := (heap_setCell_other wr _ _ _ (by simp)).trans HR.out
      have HB2 : Hid (Below w.heap.size w (wr.setCell ⟨w.heap.size + 1, 10, none⟩ (.int .i64 V12))) := HB.out.setCell (by simp) _
      clear HX' HR HB
      go_wp2_with fail
      exact ⟨⟨4, by omega, rfl, HX2, HR2, HB2⟩, by simp [intOf]⟩
    · have HX' : Hid (wr.heap[w.heap.size + 1]? = some (.cells (slotC ⟨V2, V3, V4, V5, V6, V7, V8, V9, V10, V11, V12, V13, V14⟩) 24 (0, 0))) := HX
      clear HX
      have hw1 : w.heap.size + 1 < wr.heap.size := (Array.getElem?_eq_some_iff.1 HX'.out).1
      obtain ⟨x0, x1, x2, x3, x4, x5, x6, x7, x8, x9, x10, x11, x12⟩ := cells13 HX'.out
      have X0 := slthid x0
      have X1 := slthid x1
      have X2 := slthid x2
      have X3 := slthid x3
      have X4 := slthid x4
      have X5 := slthid x5
      have X6 := slthid x6
      have X7 := slthid x7
      have X8 := slthid x8
      have X9 := slthid x9
      have X10 := slthid x10
      have X11 := slthid x11
      have X12 := slthid x12
      have hp : Below wr.heap.size wr wr := Below.refl _ _
      go_wp2_with fail
      go_region_held3 (fun w' => w'.cell? ⟨w.heap.size + 1, 0, none⟩ = some (.int .i64 V2) ∧ w'.cell? ⟨w.heap.size + 1, 1, none⟩ = some (.int .i64 V3) ∧ w'.cell? ⟨w.heap.size + 1, 2, none⟩ = some (.int .i64 V4) ∧ w'.cell? ⟨w.heap.size + 1, 3, none⟩ = some (.int .i64 V5) ∧ w'.cell? ⟨w.heap.size + 1, 4, none⟩ = some (.int .i64 V6) ∧ w'.cell? ⟨w.heap.size + 1, 5, none⟩ = some (.int .i64 V7) ∧ w'.cell? ⟨w.heap.size + 1, 6, none⟩ = some (.int .i64 V8) ∧ w'.cell? ⟨w.heap.size + 1, 7, none⟩ = some (.int .i64 V9) ∧ w'.cell? ⟨w.heap.size + 1, 8, none⟩ = some (.int .i64 V10) ∧ w'.cell? ⟨w.heap.size + 1, 9, none⟩ = some (.int .i64 V11) ∧ w'.cell? ⟨w.heap.size + 1, 10, none⟩ = some (.int .i64 V12) ∧ w'.cell? ⟨w.heap.size + 1, 11, none⟩ = some (.int .i64 V13) ∧ w'.cell? ⟨w.heap.size + 1, 12, none⟩ = some (.int .i64 V14)) (first | go_keep)
        (first
          | (go_at_call 30; refine (NUM2.out _ _ _ ?_ ?_ ?_ ?_).mono ?_; (omega); (omega); (omega); (omega); rintro e w1 ⟨rfl, rfl⟩; (first | rw [E0.out] | rw [E1.out]))
          | (go_at_call 9; refine (PUT.out _).mono ?_; rintro e w1 ⟨rfl, hb1⟩; have hp := hp.trans (Below.mono (show Below _ _ w1 from ⟨hb1.os, hb1.tape, hb1.output, hb1.size, hb1.block⟩) hp.size); have x0 : w1.cell? ⟨w.heap.size + 1, 0, none⟩ = some (.int .i64 V2) := (by rw [hp.cell (by show w.heap.size + 1 < wr.heap.size; omega)]; exact X0.out); have x1 : w1.cell? ⟨w.heap.size + 1, 1, none⟩ = some (.int .i64 V3) := (by rw [hp.cell (by show w.heap.size + 1 < wr.heap.size; omega)]; exact X1.out); have x2 : w1.cell? ⟨w.heap.size + 1, 2, none⟩ = some (.int .i64 V4) := (by rw [hp.cell (by show w.heap.size + 1 < wr.heap.size; omega)]; exact X2.out); have x3 : w1.cell? ⟨w.heap.size + 1, 3, none⟩ = some (.int .i64 V5) := (by rw [hp.cell (by show w.heap.size + 1 < wr.heap.size; omega)]; exact X3.out); have x4 : w1.cell? ⟨w.heap.size + 1, 4, none⟩ = some (.int .i64 V6) := (by rw [hp.cell (by show w.heap.size + 1 < wr.heap.size; omega)]; exact X4.out); have x5 : w1.cell? ⟨w.heap.size + 1, 5, none⟩ = some (.int .i64 V7) := (by rw [hp.cell (by show w.heap.size + 1 < wr.heap.size; omega)]; exact X5.out); have x6 : w1.cell? ⟨w.heap.size + 1, 6, none⟩ = some (.int .i64 V8) := (by rw [hp.cell (by show w.heap.size + 1 < wr.heap.size; omega)]; exact X6.out); have x7 : w1.cell? ⟨w.heap.size + 1, 7, none⟩ = some (.int .i64 V9) := (by rw [hp.cell (by show w.heap.size + 1 < wr.heap.size; omega)]; exact X7.out); have x8 : w1.cell? ⟨w.heap.size + 1, 8, none⟩ = some (.int .i64 V10) := (by rw [hp.cell (by show w.heap.size + 1 < wr.heap.size; omega)]; exact X8.out); have x9 : w1.cell? ⟨w.heap.size + 1, 9, none⟩ = some (.int .i64 V11) := (by rw [hp.cell (by show w.heap.size + 1 < wr.heap.size; omega)]; exact X9.out); have x10 : w1.cell? ⟨w.heap.size + 1, 10, none⟩ = some (.int .i64 V12) := (by rw [hp.cell (by show w.heap.size + 1 < wr.heap.size; omega)]; exact X10.out); have x11 : w1.cell? ⟨w.heap.size + 1, 11, none⟩ = some (.int .i64 V13) := (by rw [hp.cell (by show w.heap.size + 1 < wr.heap.size; omega)]; exact X11.out); have x12 : w1.cell? ⟨w.heap.size + 1, 12, none⟩ = some (.int .i64 V14) := (by rw [hp.cell (by show w.heap.size + 1 < wr.heap.size; omega)]; exact X12.out)))
      have HX1 : Hid (w1.heap[w.heap.size + 1]? = some (.cells (slotC ⟨V2, V3, V4, V5, V6, V7, V8, V9, V10, V11, V12, V13, V14⟩) 24 (0, 0))) := by
        show _ = _
        rw [hp.block _ hw1]
        exact HX'.out
      have HR1 : Hid (w1.heap[w.heap.size]? = some (.cells (slotC Sl.z) 24 (0, 0))) := by
        show _ = _
        rw [hp.block _ (by omega)]
        exact HR.out
      have HB1 : Hid (Below w.heap.size w w1) := HB.out.trans (hp.mono HB.out.size)
      clear hp HX' HR HB hw1 PUT x0 x1 x2 x3 x4 x5 x6 x7 x8 x9 x10 x11 x12 X0 X1 X2 X3 X4 X5 X6 X7 X8 X9 X10 X11 X12
      generalize putS V0 V1 ⟨V2, V3, V4, V5, V6, V7, V8, V9, V10, V11, V12, V13, V14⟩ = PS at *
      generalize putB V0 V1 ⟨V2, V3, V4, V5, V6, V7, V8, V9, V10, V11, V12, V13, V14⟩ = PB at *
      have HR2 : Hid (w1.heap[w.heap.size]? = some (.cells (slotC ⟨0, 0, 0, 0, 0, 0, 0, 0, 0, 0, 0, 0, 0⟩) 24 (0, 0))) := HR1
      obtain ⟨r0, r1, r2, r3, r4, r5, r6, r7, r8, r9, r10, r11, r12⟩ := cells13 HR2.out
      have fz : ∀ j, w1.frozen? ⟨w.heap.size, j, none⟩ = false := fun j => frozen_of_row w1 _ j _ _ HR1.out
      have f0 := fz 0
      have f1 := fz 1
      have f2 := fz 2
      have f3 := fz 3
      have f4 := fz 4
      have f5 := fz 5
      have f6 := fz 6
      have f7 := fz 7
      have f8 := fz 8
      have f9 := fz 9
      have f10 := fz 10
      have f11 := fz 11
      have f12 := fz 12
      clear fz HR1
      cases PB
      · have G0 : Hid (gotV s = .tuple #[.int .i64 0, .int .i64 0, slotV Sl.z, .bool false]) := by show _ = _; rw [HGV.out]; rfl
        clear HGV
        go_wp2_with fail
        refine bodyPost_ret (v := .tuple #[.int .i64 0, .int .i64 0, slotV Sl.z, .bool false]) (by simp [results, Try.results11, go_sem, Sl.z, r0, r1, r2, r3, r4, r5, r6, r7, r8, r9, r10, r11, r12]) rfl ⟨by rw [G0.out], ?_⟩
        iterate 13 refine Below.setCell ?_ (by dsimp only; omega) _
        exact HB1.out
      · by_cases he : PS = s
        · have G1 : Hid (gotV s = .tuple #[.int .i64 V0, .int .i64 V1, slotV ⟨V2, V3, V4, V5, V6, V7, V8, V9, V10, V11, V12, V13, V14⟩, .bool true]) := by show _ = _; rw [HGV.out, decide_eq_true he]; rfl
          have hq : (PS.toList == s.toList) = true := by rw [he]; simp
          have hq2 : (PS.toList != s.toList) = false := by rw [bne, hq]; rfl
          obtain ⟨x0, x1, x2, x3, x4, x5, x6, x7, x8, x9, x10, x11, x12⟩ := cells13 HX1.out
          clear HGV he
          go_wp2_with fail
          go_region_held3 (fun w' => w'.cell? ⟨w.heap.size + 1, 0, none⟩ = some (.int .i64 V2) ∧ w'.cell? ⟨w.heap.size + 1, 1, none⟩ = some (.int .i64 V3) ∧ w'.cell? ⟨w.heap.size + 1, 2, none⟩ = some (.int .i64 V4) ∧ w'.cell? ⟨w.heap.size + 1, 3, none⟩ = some (.int .i64 V5) ∧ w'.cell? ⟨w.heap.size + 1, 4, none⟩ = some (.int .i64 V6) ∧ w'.cell? ⟨w.heap.size + 1, 5, none⟩ = some (.int .i64 V7) ∧ w'.cell? ⟨w.heap.size + 1, 6, none⟩ = some (.int .i64 V8) ∧ w'.cell? ⟨w.heap.size + 1, 7, none⟩ = some (.int .i64 V9) ∧ w'.cell? ⟨w.heap.size + 1, 8, none⟩ = some (.int .i64 V10) ∧ w'.cell? ⟨w.heap.size + 1, 9, none⟩ = some (.int .i64 V11) ∧ w'.cell? ⟨w.heap.size + 1, 10, none⟩ = some (.int .i64 V12) ∧ w'.cell? ⟨w.heap.size + 1, 11, none⟩ = some (.int .i64 V13) ∧ w'.cell? ⟨w.heap.size + 1, 12, none⟩ = some (.int .i64 V14)) (first | go_keep)
            (first
              | (go_at_call 30; refine (NUM2.out _ _ _ ?_ ?_ ?_ ?_).mono ?_; (omega); (omega); (omega); (omega); rintro e w1 ⟨rfl, rfl⟩; (first | rw [E0.out] | rw [E1.out])))
          go_wp2_with fail
          refine bodyPost_ret (v := .tuple #[.int .i64 V0, .int .i64 V1, slotV ⟨V2, V3, V4, V5, V6, V7, V8, V9, V10, V11, V12, V13, V14⟩, .bool true]) (by simp [results, Try.results11, go_sem, r0, r1, r2, r3, r4, r5, r6, r7, r8, r9, r10, r11, r12]) rfl ⟨by rw [G1.out], ?_⟩
          refine Below.drew ?_
          iterate 13 refine Below.setCell ?_ (by dsimp only; omega) _
          exact HB1.out
        · have G0 : Hid (gotV s = .tuple #[.int .i64 0, .int .i64 0, slotV Sl.z, .bool false]) := by show _ = _; rw [HGV.out, decide_eq_false he]; rfl
          have hq : (PS.toList == s.toList) = false := by
            rw [beq_eq_false_iff_ne]
            intro h
            apply he
            rw [ByteArray.toList_eq, ByteArray.toList_eq] at h
            exact ByteArray.ext (Array.toList_inj.1 h)
          have hq2 : (PS.toList != s.toList) = true := by rw [bne, hq]; rfl
          clear HGV he
          go_wp2_with fail
          refine bodyPost_ret (v := .tuple #[.int .i64 0, .int .i64 0, slotV Sl.z, .bool false]) (by simp [results, Try.results11, go_sem, Sl.z, r0, r1, r2, r3, r4, r5, r6, r7, r8, r9, r10, r11, r12]) rfl ⟨by rw [G0.out], ?_⟩
          iterate 13 refine Below.setCell ?_ (by dsimp only; omega) _
          exact HB1.out

/-- The document's own Get: the state of bytes, or none. -/
theorem rgetall_t (s : ByteArray) (w : World) : Calls Try.prog 11 #[.string s] w fun e w' => e = .returned (gotV s) ∧ Below w.heap.size w w' := by
  by_cases hs : s.size = 256
  · exact rget_full s w hs
  · exact rget_short s w hs
end Go.Proofs.Ytgpjjbffndmhjaa
