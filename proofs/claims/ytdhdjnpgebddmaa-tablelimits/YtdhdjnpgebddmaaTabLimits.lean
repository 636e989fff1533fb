/- TableLimits walked: each bound at its last place, and one beyond. -/
import Derived.Test.YtdhdjnpgebddmaaTabAwake
namespace Go.Proofs.Ytdhdjnpgebddmaa
open Go.RowKit Tab

/-- All houses none but the third, which has these bounds and no segments. -/
def limRow (x : Lm) : List (Ho × Value) := none16.set 2 (⟨1, 1, x, []⟩, .slice none 0 0)
theorem limRow_length (x : Lm) : (limRow x).length = 16 := rfl
theorem limRow_ints (x : Lm) (w : World) : ∀ p ∈ limRow x, Ints w p.2 p.1.segs := by
  intro p hp
  rcases List.mem_or_eq_of_mem_set hp with hp | rfl
  · exact none16_ints w p hp
  · exact Ints.nil w
theorem limRow_segs (x : Lm) : ∀ p ∈ limRow x, p.1.segs.length ≤ 1000 := by
  intro p hp
  rcases List.mem_or_eq_of_mem_set hp with hp | rfl
  · rw [List.eq_of_mem_replicate hp]
    decide
  · show 0 ≤ 1000
    decide
theorem limRow_no {n : Int} {x : Lm} (h : limB x = false) : checkB n ((limRow x).map (·.1)) = false := by
  have e : ((limRow x).map (·.1))[2]'(by simp [limRow_length]) = ⟨1, 1, x, []⟩ := rfl
  refine check_one (k := 2) (by simp [limRow_length]) ?_
  rw [e]
  simp [houseB, h]

set_option maxRecDepth 4000 in
set_option maxHeartbeats 4000000 in
theorem tableLimits_t (how v : Int) (w : World) :
    Calls Try.prog 5 #[.int .i64 how, .int .i64 v] w fun e w' => e = .returned (.bool true) ∧ Below w.heap.size w w' := by
  have h1 := Int.emod_nonneg v (show (1000 : Int) ≠ 0 by decide)
  have h2 := Int.emod_lt_of_pos v (show (0 : Int) < 1000 by decide)
  have h3 := Int.emod_nonneg how (show (10 : Int) ≠ 0 by decide)
  have h4 := Int.emod_lt_of_pos how (show (0 : Int) < 10 by decide)
  have PL1 := tabhid (fun w => gplace_t v 1000 w (by decide) (by decide))
  have PL2 := tabhid (fun w => gplace_t how 10 w (by decide) (by decide))
  generalize v % 1000 = k at *
  generalize how % 10 = m at *
  go_enter Try.func5, Try.ntmps5
  go_wp2_with fail
  refine (PL1.out _).mono ?_
  rintro e w' ⟨rfl, rfl⟩
  clear PL1
  go_wp2_with fail
  refine (checkLimit_t ⟨40, 100000, 100000, 255, 255, 1099511627776, 1000⟩ _).mono ?_
  rintro e w1 ⟨rfl, hb1⟩
  rw [show limB ⟨40, 100000, 100000, 255, 255, 1099511627776, 1000⟩ = true by decide]
  obtain ⟨hc1, hf1⟩ := bcell hb1
  have hz1 : w.heap.size + 1 < w1.heap.size := by have := hb1.size; simp at this; omega
  go_wp2_with fail
  refine (checkLimit_t ⟨8, 0, 0, 1, 1, 0, 0⟩ _).mono ?_
  rintro e w2 ⟨rfl, hb2⟩
  rw [show limB ⟨8, 0, 0, 1, 1, 0, 0⟩ = true by decide]
  have HL : Hid (w2.heap[w.heap.size]? = some (.cells #[.int .i64 40, .int .i64 100000, .int .i64 100000, .int .i64 255, .int .i64 255, .int .i64 1099511627776, .int .i64 1000] 24 (0, 0))) := by
    show _ = _
    rw [hb2.block _ (by omega), hb1.block _ (by simp; omega), Below.heap_alloc _ _ _ (by simp), heap_alloc_new]
  have HB : Hid (Below w.heap.size w w2) := (((Below.refl _ w).alloc (Nat.le_refl _) _).alloc (by simp) _).trans ((hb1.mono (by simp; omega)).trans (hb2.mono (by omega)))
  have c0 : w2.cell? ⟨w.heap.size, 0, none⟩ = some (.int .i64 40) := by rw [cell_of_row w2 _ _ _ _ _ HL.out]; rfl
  have c1 : w2.cell? ⟨w.heap.size, 1, none⟩ = some (.int .i64 100000) := by rw [cell_of_row w2 _ _ _ _ _ HL.out]; rfl
  have c2 : w2.cell? ⟨w.heap.size, 2, none⟩ = some (.int .i64 100000) := by rw [cell_of_row w2 _ _ _ _ _ HL.out]; rfl
  have c3 : w2.cell? ⟨w.heap.size, 3, none⟩ = some (.int .i64 255) := by rw [cell_of_row w2 _ _ _ _ _ HL.out]; rfl
  have c4 : w2.cell? ⟨w.heap.size, 4, none⟩ = some (.int .i64 255) := by rw [cell_of_row w2 _ _ _ _ _ HL.out]; rfl
  have c5 : w2.cell? ⟨w.heap.size, 5, none⟩ = some (.int .i64 1099511627776) := by rw [cell_of_row w2 _ _ _ _ _ HL.out]; rfl
  have c6 : w2.cell? ⟨w.heap.size, 6, none⟩ = some (.int .i64 1000) := by rw [cell_of_row w2 _ _ _ _ _ HL.out]; rfl
  have fz : ∀ j, w2.frozen? ⟨w.heap.size, j, none⟩ = false := fun j => frozen_of_row w2 _ _ _ _ HL.out
  have hlt : w.heap.size < w2.heap.size := (Array.getElem?_eq_some_iff.1 HL.out).1
  clear hb1 hb2 hc1 hf1 hz1
  go_wp2_with fail
  refine (PL2.out _).mono ?_
  rintro e w' ⟨rfl, rfl⟩
  clear PL2
  have hm : m = 0 ∨ m = 1 ∨ m = 2 ∨ m = 3 ∨ m = 4 ∨ m = 5 ∨ m = 6 ∨ m = 7 ∨ m = 8 ∨ m = 9 := by omega
  rcases hm with rfl | rfl | rfl | rfl | rfl | rfl | rfl | rfl | rfl | rfl
  · have HX : Hid (limB ⟨40 + (1 + k), 100000, 100000, 255, 255, 1099511627776, 1000⟩ = false) := by
      show _ = _
      rw [Bool.eq_false_iff]
      intro hl
      simp only [limB, Bool.and_eq_true, inB_iff] at hl
      omega
    go_wp2_with fail
    generalize hW : (w2.setCell ⟨w.heap.size, 0, none⟩ (.int .i64 (40 + (1 + k)))) = W
    have HLW : Hid (W.heap[w.heap.size]? = some (.cells #[.int .i64 (40 + (1 + k)), .int .i64 (100000), .int .i64 (100000), .int .i64 (255), .int .i64 (255), .int .i64 (1099511627776), .int .i64 (1000)] 24 (0, 0))) := by rw [← hW]; exact (heap_setCell_same _ _ 0 _ _ (.int .i64 (40 + (1 + k))) HL.out)
    have HBW : Hid (Below w.heap.size w W) := by rw [← hW]; exact (HB.out.setCell (Nat.le_refl _) _)
    clear hW c0 c1 c2 c3 c4 c5 c6 fz hlt HL HB
    have hltW : w.heap.size < W.heap.size := (Array.getElem?_eq_some_iff.1 HLW.out).1
    have hne : w.heap.size ≠ W.heap.size := by omega
    have hmk := make16 W
    obtain ⟨V, hV⟩ : ∃ V, V = W.alloc (.cells none16c 42) := ⟨_, rfl⟩
    rw [← hV] at hmk
    have HR : Hid (HRow V W.heap.size none16) := by rw [hV]; exact none16_row W
    have HLV : Hid (V.heap[w.heap.size]? = some (.cells #[.int .i64 (40 + (1 + k)), .int .i64 (100000), .int .i64 (100000), .int .i64 (255), .int .i64 (255), .int .i64 (1099511627776), .int .i64 (1000)] 24 (0, 0))) := by rw [hV]; show _ = _; rw [Below.heap_alloc _ _ _ hltW]; exact HLW.out
    have HBV : Hid (Below w.heap.size w V) := by rw [hV]; exact HBW.out.alloc HBW.out.size _
    have hVs : V.heap.size = W.heap.size + 1 := by rw [hV]; simp
    clear hV HLW HBW
    have d0 : V.cell? ⟨w.heap.size, 0, none⟩ = some (.int .i64 (40 + (1 + k))) := by rw [cell_of_row V _ _ _ _ _ HLV.out]; rfl
    have d1 : V.cell? ⟨w.heap.size, 1, none⟩ = some (.int .i64 (100000)) := by rw [cell_of_row V _ _ _ _ _ HLV.out]; rfl
    have d2 : V.cell? ⟨w.heap.size, 2, none⟩ = some (.int .i64 (100000)) := by rw [cell_of_row V _ _ _ _ _ HLV.out]; rfl
    have d3 : V.cell? ⟨w.heap.size, 3, none⟩ = some (.int .i64 (255)) := by rw [cell_of_row V _ _ _ _ _ HLV.out]; rfl
    have d4 : V.cell? ⟨w.heap.size, 4, none⟩ = some (.int .i64 (255)) := by rw [cell_of_row V _ _ _ _ _ HLV.out]; rfl
    have d5 : V.cell? ⟨w.heap.size, 5, none⟩ = some (.int .i64 (1099511627776)) := by rw [cell_of_row V _ _ _ _ _ HLV.out]; rfl
    have d6 : V.cell? ⟨w.heap.size, 6, none⟩ = some (.int .i64 (1000)) := by rw [cell_of_row V _ _ _ _ _ HLV.out]; rfl
    have z0 : V.cell? ⟨W.heap.size, 20, none⟩ = some (.int .i64 0) := HR.out.cell 2 0 (by decide) (by decide)
    have z1 : V.cell? ⟨W.heap.size, 21, none⟩ = some (.int .i64 0) := HR.out.cell 2 1 (by decide) (by decide)
    have z2 : V.cell? ⟨W.heap.size, 22, none⟩ = some (.int .i64 0) := HR.out.cell 2 2 (by decide) (by decide)
    have z3 : V.cell? ⟨W.heap.size, 23, none⟩ = some (.int .i64 0) := HR.out.cell 2 3 (by decide) (by decide)
    have z4 : V.cell? ⟨W.heap.size, 24, none⟩ = some (.int .i64 0) := HR.out.cell 2 4 (by decide) (by decide)
    have z5 : V.cell? ⟨W.heap.size, 25, none⟩ = some (.int .i64 0) := HR.out.cell 2 5 (by decide) (by decide)
    have z6 : V.cell? ⟨W.heap.size, 26, none⟩ = some (.int .i64 0) := HR.out.cell 2 6 (by decide) (by decide)
    have z7 : V.cell? ⟨W.heap.size, 27, none⟩ = some (.int .i64 0) := HR.out.cell 2 7 (by decide) (by decide)
    have z8 : V.cell? ⟨W.heap.size, 28, none⟩ = some (.int .i64 0) := HR.out.cell 2 8 (by decide) (by decide)
    have z9 : V.cell? ⟨W.heap.size, 29, none⟩ = some (.slice none 0 0) := HR.out.cell 2 9 (by decide) (by decide)
    have fz : ∀ j, V.frozen? ⟨W.heap.size, j, none⟩ = false := fun j => HR.out.frozen j
    rw [hmk]
    go_wp2_with fail
    refine (rput_t 1 W.heap.size (limRow ⟨40 + (1 + k), 100000, 100000, 255, 255, 1099511627776, 1000⟩) _ (HR.out.put 2 ⟨1, 1, ⟨40 + (1 + k), 100000, 100000, 255, 255, 1099511627776, 1000⟩, []⟩ (.slice none 0 0) (by decide)) (limRow_ints _ _) rfl (limRow_segs _)).mono ?_
    rintro e w3 ⟨rfl, hb3⟩
    rw [put_check (limRow_no HX.out)]
    have HR3 : Hid (HRow w3 W.heap.size (limRow ⟨40 + (1 + k), 100000, 100000, 255, 255, 1099511627776, 1000⟩)) := (HR.out.put 2 ⟨1, 1, ⟨40 + (1 + k), 100000, 100000, 255, 255, 1099511627776, 1000⟩, []⟩ (.slice none 0 0) (by decide)).on hb3
    have HL3 : Hid (w3.heap[w.heap.size]? = some (.cells #[.int .i64 (40 + (1 + k)), .int .i64 (100000), .int .i64 (100000), .int .i64 (255), .int .i64 (255), .int .i64 (1099511627776), .int .i64 (1000)] 24 (0, 0))) := by
      show _ = _
      rw [hb3.block _ (by simp [World.setCell]; omega)]
      repeat rw [Below.heap_setCell _ _ _ _ hne]
      exact HLV.out
    have HB3 : Hid (Below w.heap.size w w3) := by
      refine Below.trans ?_ (hb3.mono (by simp [World.setCell]; omega))
      iterate 10 refine Below.setCell ?_ (by show w.heap.size ≤ W.heap.size; omega) _
      exact HBV.out
    clear hb3 d0 d1 d2 d3 d4 d5 d6 z0 z1 z2 z3 z4 z5 z6 z7 z8 z9 fz HR HLV HBV hmk
    have d0 : w3.cell? ⟨w.heap.size, 0, none⟩ = some (.int .i64 (40 + (1 + k))) := by rw [cell_of_row w3 _ _ _ _ _ HL3.out]; rfl
    have d1 : w3.cell? ⟨w.heap.size, 1, none⟩ = some (.int .i64 (100000)) := by rw [cell_of_row w3 _ _ _ _ _ HL3.out]; rfl
    have d2 : w3.cell? ⟨w.heap.size, 2, none⟩ = some (.int .i64 (100000)) := by rw [cell_of_row w3 _ _ _ _ _ HL3.out]; rfl
    have d3 : w3.cell? ⟨w.heap.size, 3, none⟩ = some (.int .i64 (255)) := by rw [cell_of_row w3 _ _ _ _ _ HL3.out]; rfl
    have d4 : w3.cell? ⟨w.heap.size, 4, none⟩ = some (.int .i64 (255)) := by rw [cell_of_row w3 _ _ _ _ _ HL3.out]; rfl
    have d5 : w3.cell? ⟨w.heap.size, 5, none⟩ = some (.int .i64 (1099511627776)) := by rw [cell_of_row w3 _ _ _ _ _ HL3.out]; rfl
    have d6 : w3.cell? ⟨w.heap.size, 6, none⟩ = some (.int .i64 (1000)) := by rw [cell_of_row w3 _ _ _ _ _ HL3.out]; rfl
    go_wp2_with fail
    refine (checkLimit_t ⟨40 + (1 + k), 100000, 100000, 255, 255, 1099511627776, 1000⟩ _).mono ?_
    rintro e w4 ⟨rfl, hb4⟩
    rw [HX.out]
    have HR4 : Hid (HRow w4 W.heap.size (limRow ⟨40 + (1 + k), 100000, 100000, 255, 255, 1099511627776, 1000⟩)) := HR3.out.on hb4
    have HB4 : Hid (Below w.heap.size w w4) := HB3.out.trans (hb4.mono HB3.out.size)
    clear hb4 HR3 HB3 HL3 d0 d1 d2 d3 d4 d5 d6
    go_wp2_with fail
    refine (rcheck_t 1000 W.heap.size (limRow ⟨40 + (1 + k), 100000, 100000, 255, 255, 1099511627776, 1000⟩) _ HR4.out (limRow_ints _ _) rfl (limRow_segs _) (by decide)).mono ?_
    rintro e w5 ⟨rfl, hb5⟩
    rw [limRow_no HX.out]
    have HB5 : Hid (Below w.heap.size w w5) := HB4.out.trans (hb5.mono HB4.out.size)
    clear hb5 HR4 HB4
    go_wp2_with fail
    refine (awake_t _).mono ?_
    rintro e w6 ⟨rfl, hb6⟩
    have HB6 : Hid (Below w.heap.size w w6) := HB5.out.trans (hb6.mono HB5.out.size)
    clear hb6 HB5
    go_wp2_with fail
    go_ret
    exact ⟨rfl, HB6.out⟩
  · have HX : Hid (limB ⟨40, 100000 + (1 + k), 100000, 255, 255, 1099511627776, 1000⟩ = false) := by
      show _ = _
      rw [Bool.eq_false_iff]
      intro hl
      simp only [limB, Bool.and_eq_true, inB_iff] at hl
      omega
    go_wp2_with fail
    generalize hW : (w2.setCell ⟨w.heap.size, 1, none⟩ (.int .i64 (100000 + (1 + k)))) = W
    have HLW : Hid (W.heap[w.heap.size]? = some (.cells #[.int .i64 (40), .int .i64 (100000 + (1 + k)), .int .i64 (100000), .int .i64 (255), .int .i64 (255), .int .i64 (1099511627776), .int .i64 (1000)] 24 (0, 0))) := by rw [← hW]; exact (heap_setCell_same _ _ 1 _ _ (.int .i64 (100000 + (1 + k))) HL.out)
    have HBW : Hid (Below w.heap.size w W) := by rw [← hW]; exact (HB.out.setCell (Nat.le_refl _) _)
    clear hW c0 c1 c2 c3 c4 c5 c6 fz hlt HL HB
    have hltW : w.heap.size < W.heap.size := (Array.getElem?_eq_some_iff.1 HLW.out).1
    have hne : w.heap.size ≠ W.heap.size := by omega
    have hmk := make16 W
    obtain ⟨V, hV⟩ : ∃ V, V = W.alloc (.cells none16c 42) := ⟨_, rfl⟩
    rw [← hV] at hmk
    have HR : Hid (HRow V W.heap.size none16) := by rw [hV]; exact none16_row W
    have HLV : Hid (V.heap[w.heap.size]? = some (.cells #[.int .i64 (40), .int .i64 (100000 + (1 + k)), .int .i64 (100000), .int .i64 (255), .int .i64 (255), .int .i64 (1099511627776), .int .i64 (1000)] 24 (0, 0))) := by rw [hV]; show _ = _; rw [Below.heap_alloc _ _ _ hltW]; exact HLW.out
    have HBV : Hid (Below w.heap.size w V) := by rw [hV]; exact HBW.out.alloc HBW.out.size _
    have hVs : V.heap.size = W.heap.size + 1 := by rw [hV]; simp
    clear hV HLW HBW
    have d0 : V.cell? ⟨w.heap.size, 0, none⟩ = some (.int .i64 (40)) := by rw [cell_of_row V _ _ _ _ _ HLV.out]; rfl
    have d1 : V.cell? ⟨w.heap.size, 1, none⟩ = some (.int .i64 (100000 + (1 + k))) := by rw [cell_of_row V _ _ _ _ _ HLV.out]; rfl
    have d2 : V.cell? ⟨w.heap.size, 2, none⟩ = some (.int .i64 (100000)) := by rw [cell_of_row V _ _ _ _ _ HLV.out]; rfl
    have d3 : V.cell? ⟨w.heap.size, 3, none⟩ = some (.int .i64 (255)) := by rw [cell_of_row V _ _ _ _ _ HLV.out]; rfl
    have d4 : V.cell? ⟨w.heap.size, 4, none⟩ = some (.int .i64 (255)) := by rw [cell_of_row V _ _ _ _ _ HLV.out]; rfl
    have d5 : V.cell? ⟨w.heap.size, 5, none⟩ = some (.int .i64 (1099511627776)) := by rw [cell_of_row V _ _ _ _ _ HLV.out]; rfl
    have d6 : V.cell? ⟨w.heap.size, 6, none⟩ = some (.int .i64 (1000)) := by rw [cell_of_row V _ _ _ _ _ HLV.out]; rfl
    have z0 : V.cell? ⟨W.heap.size, 20, none⟩ = some (.int .i64 0) := HR.out.cell 2 0 (by decide) (by decide)
    have z1 : V.cell? ⟨W.heap.size, 21, none⟩ = some (.int .i64 0) := HR.out.cell 2 1 (by decide) (by decide)
    have z2 : V.cell? ⟨W.heap.size, 22, none⟩ = some (.int .i64 0) := HR.out.cell 2 2 (by decide) (by decide)
    have z3 : V.cell? ⟨W.heap.size, 23, none⟩ = some (.int .i64 0) := HR.out.cell 2 3 (by decide) (by decide)
    have z4 : V.cell? ⟨W.heap.size, 24, none⟩ = some (.int .i64 0) := HR.out.cell 2 4 (by decide) (by decide)
    have z5 : V.cell? ⟨W.heap.size, 25, none⟩ = some (.int .i64 0) := HR.out.cell 2 5 (by decide) (by decide)
    have z6 : V.cell? ⟨W.heap.size, 26, none⟩ = some (.int .i64 0) := HR.out.cell 2 6 (by decide) (by decide)
    have z7 : V.cell? ⟨W.heap.size, 27, none⟩ = some (.int .i64 0) := HR.out.cell 2 7 (by decide) (by decide)
    have z8 : V.cell? ⟨W.heap.size, 28, none⟩ = some (.int .i64 0) := HR.out.cell 2 8 (by decide) (by decide)
    have z9 : V.cell? ⟨W.heap.size, 29, none⟩ = some (.slice none 0 0) := HR.out.cell 2 9 (by decide) (by decide)
    have fz : ∀ j, V.frozen? ⟨W.heap.size, j, none⟩ = false := fun j => HR.out.frozen j
    rw [hmk]
    go_wp2_with fail
    refine (rput_t 1 W.heap.size (limRow ⟨40, 100000 + (1 + k), 100000, 255, 255, 1099511627776, 1000⟩) _ (HR.out.put 2 ⟨1, 1, ⟨40, 100000 + (1 + k), 100000, 255, 255, 1099511627776, 1000⟩, []⟩ (.slice none 0 0) (by decide)) (limRow_ints _ _) rfl (limRow_segs _)).mono ?_
    rintro e w3 ⟨rfl, hb3⟩
    rw [put_check (limRow_no HX.out)]
    have HR3 : Hid (HRow w3 W.heap.size (limRow ⟨40, 100000 + (1 + k), 100000, 255, 255, 1099511627776, 1000⟩)) := (HR.out.put 2 ⟨1, 1, ⟨40, 100000 + (1 + k), 100000, 255, 255, 1099511627776, 1000⟩, []⟩ (.slice none 0 0) (by decide)).on hb3
    have HL3 : Hid (w3.heap[w.heap.size]? = some (.cells #[.int .i64 (40), .int .i64 (100000 + (1 + k)), .int .i64 (100000), .int .i64 (255), .int .i64 (255), .int .i64 (1099511627776), .int .i64 (1000)] 24 (0, 0))) := by
      show _ = _
      rw [hb3.block _ (by simp [World.setCell]; omega)]
      repeat rw [Below.heap_setCell _ _ _ _ hne]
      exact HLV.out
    have HB3 : Hid (Below w.heap.size w w3) := by
      refine Below.trans ?_ (hb3.mono (by simp [World.setCell]; omega))
      iterate 10 refine Below.setCell ?_ (by show w.heap.size ≤ W.heap.size; omega) _
      exact HBV.out
    clear hb3 d0 d1 d2 d3 d4 d5 d6 z0 z1 z2 z3 z4 z5 z6 z7 z8 z9 fz HR HLV HBV hmk
    have d0 : w3.cell? ⟨w.heap.size, 0, none⟩ = some (.int .i64 (40)) := by rw [cell_of_row w3 _ _ _ _ _ HL3.out]; rfl
    have d1 : w3.cell? ⟨w.heap.size, 1, none⟩ = some (.int .i64 (100000 + (1 + k))) := by rw [cell_of_row w3 _ _ _ _ _ HL3.out]; rfl
    have d2 : w3.cell? ⟨w.heap.size, 2, none⟩ = some (.int .i64 (100000)) := by rw [cell_of_row w3 _ _ _ _ _ HL3.out]; rfl
    have d3 : w3.cell? ⟨w.heap.size, 3, none⟩ = some (.int .i64 (255)) := by rw [cell_of_row w3 _ _ _ _ _ HL3.out]; rfl
    have d4 : w3.cell? ⟨w.heap.size, 4, none⟩ = some (.int .i64 (255)) := by rw [cell_of_row w3 _ _ _ _ _ HL3.out]; rfl
    have d5 : w3.cell? ⟨w.heap.size, 5, none⟩ = some (.int .i64 (1099511627776)) := by rw [cell_of_row w3 _ _ _ _ _ HL3.out]; rfl
    have d6 : w3.cell? ⟨w.heap.size, 6, none⟩ = some (.int .i64 (1000)) := by rw [cell_of_row w3 _ _ _ _ _ HL3.out]; rfl
    go_wp2_with fail
    refine (checkLimit_t ⟨40, 100000 + (1 + k), 100000, 255, 255, 1099511627776, 1000⟩ _).mono ?_
    rintro e w4 ⟨rfl, hb4⟩
    rw [HX.out]
    have HR4 : Hid (HRow w4 W.heap.size (limRow ⟨40, 100000 + (1 + k), 100000, 255, 255, 1099511627776, 1000⟩)) := HR3.out.on hb4
    have HB4 : Hid (Below w.heap.size w w4) := HB3.out.trans (hb4.mono HB3.out.size)
    clear hb4 HR3 HB3 HL3 d0 d1 d2 d3 d4 d5 d6
    go_wp2_with fail
    refine (rcheck_t 1000 W.heap.size (limRow ⟨40, 100000 + (1 + k), 100000, 255, 255, 1099511627776, 1000⟩) _ HR4.out (limRow_ints _ _) rfl (limRow_segs _) (by decide)).mono ?_
    rintro e w5 ⟨rfl, hb5⟩
    rw [limRow_no HX.out]
    have HB5 : Hid (Below w.heap.size w w5) := HB4.out.trans (hb5.mono HB4.out.size)
    clear hb5 HR4 HB4
    go_wp2_with fail
    refine (awake_t _).mono ?_
    rintro e w6 ⟨rfl, hb6⟩
    have HB6 : Hid (Below w.heap.size w w6) := HB5.out.trans (hb6.mono HB5.out.size)
    clear hb6 HB5
    go_wp2_with fail
    go_ret
    exact ⟨rfl, HB6.out⟩
  · have HX : Hid (limB ⟨40, 100000, 100000 + (1 + k), 255, 255, 1099511627776, 1000⟩ = false) := by
      show _ = _
      rw [Bool.eq_false_iff]
      intro hl
      simp only [limB, Bool.and_eq_true, inB_iff] at hl
      omega
    go_wp2_with fail
    generalize hW : (w2.setCell ⟨w.heap.size, 2, none⟩ (.int .i64 (100000 + (1 + k)))) = W
    have HLW : Hid (W.heap[w.heap.size]? = some (.cells #[.int .i64 (40), .int .i64 (100000), .int .i64 (100000 + (1 + k)), .int .i64 (255), .int .i64 (255), .int .i64 (1099511627776), .int .i64 (1000)] 24 (0, 0))) := by rw [← hW]; exact (heap_setCell_same _ _ 2 _ _ (.int .i64 (100000 + (1 + k))) HL.out)
    have HBW : Hid (Below w.heap.size w W) := by rw [← hW]; exact (HB.out.setCell (Nat.le_refl _) _)
    clear hW c0 c1 c2 c3 c4 c5 c6 fz hlt HL HB
    have hltW : w.heap.size < W.heap.size := (Array.getElem?_eq_some_iff.1 HLW.out).1
    have hne : w.heap.size ≠ W.heap.size := by omega
    have hmk := make16 W
    obtain ⟨V, hV⟩ : ∃ V, V = W.alloc (.cells none16c 42) := ⟨_, rfl⟩
    rw [← hV] at hmk
    have HR : Hid (HRow V W.heap.size none16) := by rw [hV]; exact none16_row W
    have HLV : Hid (V.heap[w.heap.size]? = some (.cells #[.int .i64 (40), .int .i64 (100000), .int .i64 (100000 + (1 + k)), .int .i64 (255), .int .i64 (255), .int .i64 (1099511627776), .int .i64 (1000)] 24 (0, 0))) := by rw [hV]; show _ = _; rw [Below.heap_alloc _ _ _ hltW]; exact HLW.out
    have HBV : Hid (Below w.heap.size w V) := by rw [hV]; exact HBW.out.alloc HBW.out.size _
    have hVs : V.heap.size = W.heap.size + 1 := by rw [hV]; simp
    clear hV HLW HBW
    have d0 : V.cell? ⟨w.heap.size, 0, none⟩ = some (.int .i64 (40)) := by rw [cell_of_row V _ _ _ _ _ HLV.out]; rfl
    have d1 : V.cell? ⟨w.heap.size, 1, none⟩ = some (.int .i64 (100000)) := by rw [cell_of_row V _ _ _ _ _ HLV.out]; rfl
    have d2 : V.cell? ⟨w.heap.size, 2, none⟩ = some (.int .i64 (100000 + (1 + k))) := by rw [cell_of_row V _ _ _ _ _ HLV.out]; rfl
    have d3 : V.cell? ⟨w.heap.size, 3, none⟩ = some (.int .i64 (255)) := by rw [cell_of_row V _ _ _ _ _ HLV.out]; rfl
    have d4 : V.cell? ⟨w.heap.size, 4, none⟩ = some (.int .i64 (255)) := by rw [cell_of_row V _ _ _ _ _ HLV.out]; rfl
    have d5 : V.cell? ⟨w.heap.size, 5, none⟩ = some (.int .i64 (1099511627776)) := by rw [cell_of_row V _ _ _ _ _ HLV.out]; rfl
    have d6 : V.cell? ⟨w.heap.size, 6, none⟩ = some (.int .i64 (1000)) := by rw [cell_of_row V _ _ _ _ _ HLV.out]; rfl
    have z0 : V.cell? ⟨W.heap.size, 20, none⟩ = some (.int .i64 0) := HR.out.cell 2 0 (by decide) (by decide)
    have z1 : V.cell? ⟨W.heap.size, 21, none⟩ = some (.int .i64 0) := HR.out.cell 2 1 (by decide) (by decide)
    have z2 : V.cell? ⟨W.heap.size, 22, none⟩ = some (.int .i64 0) := HR.out.cell 2 2 (by decide) (by decide)
    have z3 : V.cell? ⟨W.heap.size, 23, none⟩ = some (.int .i64 0) := HR.out.cell 2 3 (by decide) (by decide)
    have z4 : V.cell? ⟨W.heap.size, 24, none⟩ = some (.int .i64 0) := HR.out.cell 2 4 (by decide) (by decide)
    have z5 : V.cell? ⟨W.heap.size, 25, none⟩ = some (.int .i64 0) := HR.out.cell 2 5 (by decide) (by decide)
    have z6 : V.cell? ⟨W.heap.size, 26, none⟩ = some (.int .i64 0) := HR.out.cell 2 6 (by decide) (by decide)
    have z7 : V.cell? ⟨W.heap.size, 27, none⟩ = some (.int .i64 0) := HR.out.cell 2 7 (by decide) (by decide)
    have z8 : V.cell? ⟨W.heap.size, 28, none⟩ = some (.int .i64 0) := HR.out.cell 2 8 (by decide) (by decide)
    have z9 : V.cell? ⟨W.heap.size, 29, none⟩ = some (.slice none 0 0) := HR.out.cell 2 9 (by decide) (by decide)
    have fz : ∀ j, V.frozen? ⟨W.heap.size, j, none⟩ = false := fun j => HR.out.frozen j
    rw [hmk]
    go_wp2_with fail
    refine (rput_t 1 W.heap.size (limRow ⟨40, 100000, 100000 + (1 + k), 255, 255, 1099511627776, 1000⟩) _ (HR.out.put 2 ⟨1, 1, ⟨40, 100000, 100000 + (1 + k), 255, 255, 1099511627776, 1000⟩, []⟩ (.slice none 0 0) (by decide)) (limRow_ints _ _) rfl (limRow_segs _)).mono ?_
    rintro e w3 ⟨rfl, hb3⟩
    rw [put_check (limRow_no HX.out)]
    have HR3 : Hid (HRow w3 W.heap.size (limRow ⟨40, 100000, 100000 + (1 + k), 255, 255, 1099511627776, 1000⟩)) := (HR.out.put 2 ⟨1, 1, ⟨40, 100000, 100000 + (1 + k), 255, 255, 1099511627776, 1000⟩, []⟩ (.slice none 0 0) (by decide)).on hb3
    have HL3 : Hid (w3.heap[w.heap.size]? = some (.cells #[.int .i64 (40), .int .i64 (100000), .int .i64 (100000 + (1 + k)), .int .i64 (255), .int .i64 (255), .int .i64 (1099511627776), .int .i64 (1000)] 24 (0, 0))) := by
      show _ = _
      rw [hb3.block _ (by simp [World.setCell]; omega)]
      repeat rw [Below.heap_setCell _ _ _ _ hne]
      exact HLV.out
    have HB3 : Hid (Below w.heap.size w w3) := by
      refine Below.trans ?_ (hb3.mono (by simp [World.setCell]; omega))
      iterate 10 refine Below.setCell ?_ (by show w.heap.size ≤ W.heap.size; omega) _
      exact HBV.out
    clear hb3 d0 d1 d2 d3 d4 d5 d6 z0 z1 z2 z3 z4 z5 z6 z7 z8 z9 fz HR HLV HBV hmk
    have d0 : w3.cell? ⟨w.heap.size, 0, none⟩ = some (.int .i64 (40)) := by rw [cell_of_row w3 _ _ _ _ _ HL3.out]; rfl
    have d1 : w3.cell? ⟨w.heap.size, 1, none⟩ = some (.int .i64 (100000)) := by rw [cell_of_row w3 _ _ _ _ _ HL3.out]; rfl
    have d2 : w3.cell? ⟨w.heap.size, 2, none⟩ = some (.int .i64 (100000 + (1 + k))) := by rw [cell_of_row w3 _ _ _ _ _ HL3.out]; rfl
    have d3 : w3.cell? ⟨w.heap.size, 3, none⟩ = some (.int .i64 (255)) := by rw [cell_of_row w3 _ _ _ _ _ HL3.out]; rfl
    have d4 : w3.cell? ⟨w.heap.size, 4, none⟩ = some (.int .i64 (255)) := by rw [cell_of_row w3 _ _ _ _ _ HL3.out]; rfl
    have d5 : w3.cell? ⟨w.heap.size, 5, none⟩ = some (.int .i64 (1099511627776)) := by rw [cell_of_row w3 _ _ _ _ _ HL3.out]; rfl
    have d6 : w3.cell? ⟨w.heap.size, 6, none⟩ = some (.int .i64 (1000)) := by rw [cell_of_row w3 _ _ _ _ _ HL3.out]; rfl
    go_wp2_with fail
    refine (checkLimit_t ⟨40, 100000, 100000 + (1 + k), 255, 255, 1099511627776, 1000⟩ _).mono ?_
    rintro e w4 ⟨rfl, hb4⟩
    rw [HX.out]
    have HR4 : Hid (HRow w4 W.heap.size (limRow ⟨40, 100000, 100000 + (1 + k), 255, 255, 1099511627776, 1000⟩)) := HR3.out.on hb4
    have HB4 : Hid (Below w.heap.size w w4) := HB3.out.trans (hb4.mono HB3.out.size)
    clear hb4 HR3 HB3 HL3 d0 d1 d2 d3 d4 d5 d6
    go_wp2_with fail
    refine (rcheck_t 1000 W.heap.size (limRow ⟨40, 100000, 100000 + (1 + k), 255, 255, 1099511627776, 1000⟩) _ HR4.out (limRow_ints _ _) rfl (limRow_segs _) (by decide)).mono ?_
    rintro e w5 ⟨rfl, hb5⟩
    rw [limRow_no HX.out]
    have HB5 : Hid (Below w.heap.size w w5) := HB4.out.trans (hb5.mono HB4.out.size)
    clear hb5 HR4 HB4
    go_wp2_with fail
    refine (awake_t _).mono ?_
    rintro e w6 ⟨rfl, hb6⟩
    have HB6 : Hid (Below w.heap.size w w6) := HB5.out.trans (hb6.mono HB5.out.size)
    clear hb6 HB5
    go_wp2_with fail
    go_ret
    exact ⟨rfl, HB6.out⟩
  · have HX : Hid (limB ⟨40, 100000, 100000, 255 + (1 + k), 255, 1099511627776, 1000⟩ = false) := by
      show _ = _
      rw [Bool.eq_false_iff]
      intro hl
      simp only [limB, Bool.and_eq_true, inB_iff] at hl
      omega
    go_wp2_with fail
    generalize hW : (w2.setCell ⟨w.heap.size, 3, none⟩ (.int .i64 (255 + (1 + k)))) = W
    have HLW : Hid (W.heap[w.heap.size]? = some (.cells #[.int .i64 (40), .int .i64 (100000), .int .i64 (100000), .int .i64 (255 + (1 + k)), .int .i64 (255), .int .i64 (1099511627776), .int .i64 (1000)] 24 (0, 0))) := by rw [← hW]; exact (heap_setCell_same _ _ 3 _ _ (.int .i64 (255 + (1 + k))) HL.out)
    have HBW : Hid (Below w.heap.size w W) := by rw [← hW]; exact (HB.out.setCell (Nat.le_refl _) _)
    clear hW c0 c1 c2 c3 c4 c5 c6 fz hlt HL HB
    have hltW : w.heap.size < W.heap.size := (Array.getElem?_eq_some_iff.1 HLW.out).1
    have hne : w.heap.size ≠ W.heap.size := by omega
    have hmk := make16 W
    obtain ⟨V, hV⟩ : ∃ V, V = W.alloc (.cells none16c 42) := ⟨_, rfl⟩
    rw [← hV] at hmk
    have HR : Hid (HRow V W.heap.size none16) := by rw [hV]; exact none16_row W
    have HLV : Hid (V.heap[w.heap.size]? = some (.cells #[.int .i64 (40), .int .i64 (100000), .int .i64 (100000), .int .i64 (255 + (1 + k)), .int .i64 (255), .int .i64 (1099511627776), .int .i64 (1000)] 24 (0, 0))) := by rw [hV]; show _ = _; rw [Below.heap_alloc _ _ _ hltW]; exact HLW.out
    have HBV : Hid (Below w.heap.size w V) := by rw [hV]; exact HBW.out.alloc HBW.out.size _
    have hVs : V.heap.size = W.heap.size + 1 := by rw [hV]; simp
    clear hV HLW HBW
    have d0 : V.cell? ⟨w.heap.size, 0, none⟩ = some (.int .i64 (40)) := by rw [cell_of_row V _ _ _ _ _ HLV.out]; rfl
    have d1 : V.cell? ⟨w.heap.size, 1, none⟩ = some (.int .i64 (100000)) := by rw [cell_of_row V _ _ _ _ _ HLV.out]; rfl
    have d2 : V.cell? ⟨w.heap.size, 2, none⟩ = some (.int .i64 (100000)) := by rw [cell_of_row V _ _ _ _ _ HLV.out]; rfl
    have d3 : V.cell? ⟨w.heap.size, 3, none⟩ = some (.int .i64 (255 + (1 + k))) := by rw [cell_of_row V _ _ _ _ _ HLV.out]; rfl
    have d4 : V.cell? ⟨w.heap.size, 4, none⟩ = some (.int .i64 (255)) := by rw [cell_of_row V _ _ _ _ _ HLV.out]; rfl
    have d5 : V.cell? ⟨w.heap.size, 5, none⟩ = some (.int .i64 (1099511627776)) := by rw [cell_of_row V _ _ _ _ _ HLV.out]; rfl
    have d6 : V.cell? ⟨w.heap.size, 6, none⟩ = some (.int .i64 (1000)) := by rw [cell_of_row V _ _ _ _ _ HLV.out]; rfl
    have z0 : V.cell? ⟨W.heap.size, 20, none⟩ = some (.int .i64 0) := HR.out.cell 2 0 (by decide) (by decide)
    have z1 : V.cell? ⟨W.heap.size, 21, none⟩ = some (.int .i64 0) := HR.out.cell 2 1 (by decide) (by decide)
    have z2 : V.cell? ⟨W.heap.size, 22, none⟩ = some (.int .i64 0) := HR.out.cell 2 2 (by decide) (by decide)
    have z3 : V.cell? ⟨W.heap.size, 23, none⟩ = some (.int .i64 0) := HR.out.cell 2 3 (by decide) (by decide)
    have z4 : V.cell? ⟨W.heap.size, 24, none⟩ = some (.int .i64 0) := HR.out.cell 2 4 (by decide) (by decide)
    have z5 : V.cell? ⟨W.heap.size, 25, none⟩ = some (.int .i64 0) := HR.out.cell 2 5 (by decide) (by decide)
    have z6 : V.cell? ⟨W.heap.size, 26, none⟩ = some (.int .i64 0) := HR.out.cell 2 6 (by decide) (by decide)
    have z7 : V.cell? ⟨W.heap.size, 27, none⟩ = some (.int .i64 0) := HR.out.cell 2 7 (by decide) (by decide)
    have z8 : V.cell? ⟨W.heap.size, 28, none⟩ = some (.int .i64 0) := HR.out.cell 2 8 (by decide) (by decide)
    have z9 : V.cell? ⟨W.heap.size, 29, none⟩ = some (.slice none 0 0) := HR.out.cell 2 9 (by decide) (by decide)
    have fz : ∀ j, V.frozen? ⟨W.heap.size, j, none⟩ = false := fun j => HR.out.frozen j
    rw [hmk]
    go_wp2_with fail
    refine (rput_t 1 W.heap.size (limRow ⟨40, 100000, 100000, 255 + (1 + k), 255, 1099511627776, 1000⟩) _ (HR.out.put 2 ⟨1, 1, ⟨40, 100000, 100000, 255 + (1 + k), 255, 1099511627776, 1000⟩, []⟩ (.slice none 0 0) (by decide)) (limRow_ints _ _) rfl (limRow_segs _)).mono ?_
    rintro e w3 ⟨rfl, hb3⟩
    rw [put_check (limRow_no HX.out)]
    have HR3 : Hid (HRow w3 W.heap.size (limRow ⟨40, 100000, 100000, 255 + (1 + k), 255, 1099511627776, 1000⟩)) := (HR.out.put 2 ⟨1, 1, ⟨40, 100000, 100000, 255 + (1 + k), 255, 1099511627776, 1000⟩, []⟩ (.slice none 0 0) (by decide)).on hb3
    have HL3 : Hid (w3.heap[w.heap.size]? = some (.cells #[.int .i64 (40), .int .i64 (100000), .int .i64 (100000), .int .i64 (255 + (1 + k)), .int .i64 (255), .int .i64 (1099511627776), .int .i64 (1000)] 24 (0, 0))) := by
      show _ = _
      rw [hb3.block _ (by simp [World.setCell]; omega)]
      repeat rw [Below.heap_setCell _ _ _ _ hne]
      exact HLV.out
    have HB3 : Hid (Below w.heap.size w w3) := by
      refine Below.trans ?_ (hb3.mono (by simp [World.setCell]; omega))
      iterate 10 refine Below.setCell ?_ (by show w.heap.size ≤ W.heap.size; omega) _
      exact HBV.out
    clear hb3 d0 d1 d2 d3 d4 d5 d6 z0 z1 z2 z3 z4 z5 z6 z7 z8 z9 fz HR HLV HBV hmk
    have d0 : w3.cell? ⟨w.heap.size, 0, none⟩ = some (.int .i64 (40)) := by rw [cell_of_row w3 _ _ _ _ _ HL3.out]; rfl
    have d1 : w3.cell? ⟨w.heap.size, 1, none⟩ = some (.int .i64 (100000)) := by rw [cell_of_row w3 _ _ _ _ _ HL3.out]; rfl
    have d2 : w3.cell? ⟨w.heap.size, 2, none⟩ = some (.int .i64 (100000)) := by rw [cell_of_row w3 _ _ _ _ _ HL3.out]; rfl
    have d3 : w3.cell? ⟨w.heap.size, 3, none⟩ = some (.int .i64 (255 + (1 + k))) := by rw [cell_of_row w3 _ _ _ _ _ HL3.out]; rfl
    have d4 : w3.cell? ⟨w.heap.size, 4, none⟩ = some (.int .i64 (255)) := by rw [cell_of_row w3 _ _ _ _ _ HL3.out]; rfl
    have d5 : w3.cell? ⟨w.heap.size, 5, none⟩ = some (.int .i64 (1099511627776)) := by rw [cell_of_row w3 _ _ _ _ _ HL3.out]; rfl
    have d6 : w3.cell? ⟨w.heap.size, 6, none⟩ = some (.int .i64 (1000)) := by rw [cell_of_row w3 _ _ _ _ _ HL3.out]; rfl
    go_wp2_with fail
    refine (checkLimit_t ⟨40, 100000, 100000, 255 + (1 + k), 255, 1099511627776, 1000⟩ _).mono ?_
    rintro e w4 ⟨rfl, hb4⟩
    rw [HX.out]
    have HR4 : Hid (HRow w4 W.heap.size (limRow ⟨40, 100000, 100000, 255 + (1 + k), 255, 1099511627776, 1000⟩)) := HR3.out.on hb4
    have HB4 : Hid (Below w.heap.size w w4) := HB3.out.trans (hb4.mono HB3.out.size)
    clear hb4 HR3 HB3 HL3 d0 d1 d2 d3 d4 d5 d6
    go_wp2_with fail
    refine (rcheck_t 1000 W.heap.size (limRow ⟨40, 100000, 100000, 255 + (1 + k), 255, 1099511627776, 1000⟩) _ HR4.out (limRow_ints _ _) rfl (limRow_segs _) (by decide)).mono ?_
    rintro e w5 ⟨rfl, hb5⟩
    rw [limRow_no HX.out]
    have HB5 : Hid (Below w.heap.size w w5) := HB4.out.trans (hb5.mono HB4.out.size)
    clear hb5 HR4 HB4
    go_wp2_with fail
    refine (awake_t _).mono ?_
    rintro e w6 ⟨rfl, hb6⟩
    have HB6 : Hid (Below w.heap.size w w6) := HB5.out.trans (hb6.mono HB5.out.size)
    clear hb6 HB5
    go_wp2_with fail
    go_ret
    exact ⟨rfl, HB6.out⟩
  · have HX : Hid (limB ⟨40, 100000, 100000, (1 + k) % 200, 1 + (1 + k) % 200, 1099511627776, 1000⟩ = false) := by
      show _ = _
      rw [Bool.eq_false_iff]
      intro hl
      simp only [limB, Bool.and_eq_true, inB_iff] at hl
      omega
    go_wp2_with fail
    generalize hW : ((w2.setCell ⟨w.heap.size, 4, none⟩ (.int .i64 (1 + (1 + k) % 200))).setCell ⟨w.heap.size, 3, none⟩ (.int .i64 ((1 + k) % 200))) = W
    have HLW : Hid (W.heap[w.heap.size]? = some (.cells #[.int .i64 (40), .int .i64 (100000), .int .i64 (100000), .int .i64 ((1 + k) % 200), .int .i64 (1 + (1 + k) % 200), .int .i64 (1099511627776), .int .i64 (1000)] 24 (0, 0))) := by rw [← hW]; exact (heap_setCell_same _ _ 3 _ _ (.int .i64 ((1 + k) % 200)) (heap_setCell_same _ _ 4 _ _ (.int .i64 (1 + (1 + k) % 200)) HL.out))
    have HBW : Hid (Below w.heap.size w W) := by rw [← hW]; exact ((HB.out.setCell (Nat.le_refl _) _).setCell (Nat.le_refl _) _)
    clear hW c0 c1 c2 c3 c4 c5 c6 fz hlt HL HB
    have hltW : w.heap.size < W.heap.size := (Array.getElem?_eq_some_iff.1 HLW.out).1
    have hne : w.heap.size ≠ W.heap.size := by omega
    have hmk := make16 W
    obtain ⟨V, hV⟩ : ∃ V, V = W.alloc (.cells none16c 42) := ⟨_, rfl⟩
    rw [← hV] at hmk
    have HR : Hid (HRow V W.heap.size none16) := by rw [hV]; exact none16_row W
    have HLV : Hid (V.heap[w.heap.size]? = some (.cells #[.int .i64 (40), .int .i64 (100000), .int .i64 (100000), .int .i64 ((1 + k) % 200), .int .i64 (1 + (1 + k) % 200), .int .i64 (1099511627776), .int .i64 (1000)] 24 (0, 0))) := by rw [hV]; show _ = _; rw [Below.heap_alloc _ _ _ hltW]; exact HLW.out
    have HBV : Hid (Below w.heap.size w V) := by rw [hV]; exact HBW.out.alloc HBW.out.size _
    have hVs : V.heap.size = W.heap.size + 1 := by rw [hV]; simp
    clear hV HLW HBW
    have d0 : V.cell? ⟨w.heap.size, 0, none⟩ = some (.int .i64 (40)) := by rw [cell_of_row V _ _ _ _ _ HLV.out]; rfl
    have d1 : V.cell? ⟨w.heap.size, 1, none⟩ = some (.int .i64 (100000)) := by rw [cell_of_row V _ _ _ _ _ HLV.out]; rfl
    have d2 : V.cell? ⟨w.heap.size, 2, none⟩ = some (.int .i64 (100000)) := by rw [cell_of_row V _ _ _ _ _ HLV.out]; rfl
    have d3 : V.cell? ⟨w.heap.size, 3, none⟩ = some (.int .i64 ((1 + k) % 200)) := by rw [cell_of_row V _ _ _ _ _ HLV.out]; rfl
    have d4 : V.cell? ⟨w.heap.size, 4, none⟩ = some (.int .i64 (1 + (1 + k) % 200)) := by rw [cell_of_row V _ _ _ _ _ HLV.out]; rfl
    have d5 : V.cell? ⟨w.heap.size, 5, none⟩ = some (.int .i64 (1099511627776)) := by rw [cell_of_row V _ _ _ _ _ HLV.out]; rfl
    have d6 : V.cell? ⟨w.heap.size, 6, none⟩ = some (.int .i64 (1000)) := by rw [cell_of_row V _ _ _ _ _ HLV.out]; rfl
    have z0 : V.cell? ⟨W.heap.size, 20, none⟩ = some (.int .i64 0) := HR.out.cell 2 0 (by decide) (by decide)
    have z1 : V.cell? ⟨W.heap.size, 21, none⟩ = some (.int .i64 0) := HR.out.cell 2 1 (by decide) (by decide)
    have z2 : V.cell? ⟨W.heap.size, 22, none⟩ = some (.int .i64 0) := HR.out.cell 2 2 (by decide) (by decide)
    have z3 : V.cell? ⟨W.heap.size, 23, none⟩ = some (.int .i64 0) := HR.out.cell 2 3 (by decide) (by decide)
    have z4 : V.cell? ⟨W.heap.size, 24, none⟩ = some (.int .i64 0) := HR.out.cell 2 4 (by decide) (by decide)
    have z5 : V.cell? ⟨W.heap.size, 25, none⟩ = some (.int .i64 0) := HR.out.cell 2 5 (by decide) (by decide)
    have z6 : V.cell? ⟨W.heap.size, 26, none⟩ = some (.int .i64 0) := HR.out.cell 2 6 (by decide) (by decide)
    have z7 : V.cell? ⟨W.heap.size, 27, none⟩ = some (.int .i64 0) := HR.out.cell 2 7 (by decide) (by decide)
    have z8 : V.cell? ⟨W.heap.size, 28, none⟩ = some (.int .i64 0) := HR.out.cell 2 8 (by decide) (by decide)
    have z9 : V.cell? ⟨W.heap.size, 29, none⟩ = some (.slice none 0 0) := HR.out.cell 2 9 (by decide) (by decide)
    have fz : ∀ j, V.frozen? ⟨W.heap.size, j, none⟩ = false := fun j => HR.out.frozen j
    rw [hmk]
    go_wp2_with fail
    refine (rput_t 1 W.heap.size (limRow ⟨40, 100000, 100000, (1 + k) % 200, 1 + (1 + k) % 200, 1099511627776, 1000⟩) _ (HR.out.put 2 ⟨1, 1, ⟨40, 100000, 100000, (1 + k) % 200, 1 + (1 + k) % 200, 1099511627776, 1000⟩, []⟩ (.slice none 0 0) (by decide)) (limRow_ints _ _) rfl (limRow_segs _)).mono ?_
    rintro e w3 ⟨rfl, hb3⟩
    rw [put_check (limRow_no HX.out)]
    have HR3 : Hid (HRow w3 W.heap.size (limRow ⟨40, 100000, 100000, (1 + k) % 200, 1 + (1 + k) % 200, 1099511627776, 1000⟩)) := (HR.out.put 2 ⟨1, 1, ⟨40, 100000, 100000, (1 + k) % 200, 1 + (1 + k) % 200, 1099511627776, 1000⟩, []⟩ (.slice none 0 0) (by decide)).on hb3
    have HL3 : Hid (w3.heap[w.heap.size]? = some (.cells #[.int .i64 (40), .int .i64 (100000), .int .i64 (100000), .int .i64 ((1 + k) % 200), .int .i64 (1 + (1 + k) % 200), .int .i64 (1099511627776), .int .i64 (1000)] 24 (0, 0))) := by
      show _ = _
      rw [hb3.block _ (by simp [World.setCell]; omega)]
      repeat rw [Below.heap_setCell _ _ _ _ hne]
      exact HLV.out
    have HB3 : Hid (Below w.heap.size w w3) := by
      refine Below.trans ?_ (hb3.mono (by simp [World.setCell]; omega))
      iterate 10 refine Below.setCell ?_ (by show w.heap.size ≤ W.heap.size; omega) _
      exact HBV.out
    clear hb3 d0 d1 d2 d3 d4 d5 d6 z0 z1 z2 z3 z4 z5 z6 z7 z8 z9 fz HR HLV HBV hmk
    have d0 : w3.cell? ⟨w.heap.size, 0, none⟩ = some (.int .i64 (40)) := by rw [cell_of_row w3 _ _ _ _ _ HL3.out]; rfl
    have d1 : w3.cell? ⟨w.heap.size, 1, none⟩ = some (.int .i64 (100000)) := by rw [cell_of_row w3 _ _ _ _ _ HL3.out]; rfl
    have d2 : w3.cell? ⟨w.heap.size, 2, none⟩ = some (.int .i64 (100000)) := by rw [cell_of_row w3 _ _ _ _ _ HL3.out]; rfl
    have d3 : w3.cell? ⟨w.heap.size, 3, none⟩ = some (.int .i64 ((1 + k) % 200)) := by rw [cell_of_row w3 _ _ _ _ _ HL3.out]; rfl
    have d4 : w3.cell? ⟨w.heap.size, 4, none⟩ = some (.int .i64 (1 + (1 + k) % 200)) := by rw [cell_of_row w3 _ _ _ _ _ HL3.out]; rfl
    have d5 : w3.cell? ⟨w.heap.size, 5, none⟩ = some (.int .i64 (1099511627776)) := by rw [cell_of_row w3 _ _ _ _ _ HL3.out]; rfl
    have d6 : w3.cell? ⟨w.heap.size, 6, none⟩ = some (.int .i64 (1000)) := by rw [cell_of_row w3 _ _ _ _ _ HL3.out]; rfl
    go_wp2_with fail
    refine (checkLimit_t ⟨40, 100000, 100000, (1 + k) % 200, 1 + (1 + k) % 200, 1099511627776, 1000⟩ _).mono ?_
    rintro e w4 ⟨rfl, hb4⟩
    rw [HX.out]
    have HR4 : Hid (HRow w4 W.heap.size (limRow ⟨40, 100000, 100000, (1 + k) % 200, 1 + (1 + k) % 200, 1099511627776, 1000⟩)) := HR3.out.on hb4
    have HB4 : Hid (Below w.heap.size w w4) := HB3.out.trans (hb4.mono HB3.out.size)
    clear hb4 HR3 HB3 HL3 d0 d1 d2 d3 d4 d5 d6
    go_wp2_with fail
    refine (rcheck_t 1000 W.heap.size (limRow ⟨40, 100000, 100000, (1 + k) % 200, 1 + (1 + k) % 200, 1099511627776, 1000⟩) _ HR4.out (limRow_ints _ _) rfl (limRow_segs _) (by decide)).mono ?_
    rintro e w5 ⟨rfl, hb5⟩
    rw [limRow_no HX.out]
    have HB5 : Hid (Below w.heap.size w w5) := HB4.out.trans (hb5.mono HB4.out.size)
    clear hb5 HR4 HB4
    go_wp2_with fail
    refine (awake_t _).mono ?_
    rintro e w6 ⟨rfl, hb6⟩
    have HB6 : Hid (Below w.heap.size w w6) := HB5.out.trans (hb6.mono HB5.out.size)
    clear hb6 HB5
    go_wp2_with fail
    go_ret
    exact ⟨rfl, HB6.out⟩
  · have HX : Hid (limB ⟨40, 100000, 100000, 255, 255, 1099511627776 + (1 + k), 1000⟩ = false) := by
      show _ = _
      rw [Bool.eq_false_iff]
      intro hl
      simp only [limB, Bool.and_eq_true, inB_iff] at hl
      omega
    go_wp2_with fail
    generalize hW : (w2.setCell ⟨w.heap.size, 5, none⟩ (.int .i64 (1099511627776 + (1 + k)))) = W
    have HLW : Hid (W.heap[w.heap.size]? = some (.cells #[.int .i64 (40), .int .i64 (100000), .int .i64 (100000), .int .i64 (255), .int .i64 (255), .int .i64 (1099511627776 + (1 + k)), .int .i64 (1000)] 24 (0, 0))) := by rw [← hW]; exact (heap_setCell_same _ _ 5 _ _ (.int .i64 (1099511627776 + (1 + k))) HL.out)
    have HBW : Hid (Below w.heap.size w W) := by rw [← hW]; exact (HB.out.setCell (Nat.le_refl _) _)
    clear hW c0 c1 c2 c3 c4 c5 c6 fz hlt HL HB
    have hltW : w.heap.size < W.heap.size := (Array.getElem?_eq_some_iff.1 HLW.out).1
    have hne : w.heap.size ≠ W.heap.size := by omega
    have hmk := make16 W
    obtain ⟨V, hV⟩ : ∃ V, V = W.alloc (.cells none16c 42) := ⟨_, rfl⟩
    rw [← hV] at hmk
    have HR : Hid (HRow V W.heap.size none16) := by rw [hV]; exact none16_row W
    have HLV : Hid (V.heap[w.heap.size]? = some (.cells #[.int .i64 (40), .int .i64 (100000), .int .i64 (100000), .int .i64 (255), .int .i64 (255), .int .i64 (1099511627776 + (1 + k)), .int .i64 (1000)] 24 (0, 0))) := by rw [hV]; show _ = _; rw [Below.heap_alloc _ _ _ hltW]; exact HLW.out
    have HBV : Hid (Below w.heap.size w V) := by rw [hV]; exact HBW.out.alloc HBW.out.size _
    have hVs : V.heap.size = W.heap.size + 1 := by rw [hV]; simp
    clear hV HLW HBW
    have d0 : V.cell? ⟨w.heap.size, 0, none⟩ = some (.int .i64 (40)) := by rw [cell_of_row V _ _ _ _ _ HLV.out]; rfl
    have d1 : V.cell? ⟨w.heap.size, 1, none⟩ = some (.int .i64 (100000)) := by rw [cell_of_row V _ _ _ _ _ HLV.out]; rfl
    have d2 : V.cell? ⟨w.heap.size, 2, none⟩ = some (.int .i64 (100000)) := by rw [cell_of_row V _ _ _ _ _ HLV.out]; rfl
    have d3 : V.cell? ⟨w.heap.size, 3, none⟩ = some (.int .i64 (255)) := by rw [cell_of_row V _ _ _ _ _ HLV.out]; rfl
    have d4 : V.cell? ⟨w.heap.size, 4, none⟩ = some (.int .i64 (255)) := by rw [cell_of_row V _ _ _ _ _ HLV.out]; rfl
    have d5 : V.cell? ⟨w.heap.size, 5, none⟩ = some (.int .i64 (1099511627776 + (1 + k))) := by rw [cell_of_row V _ _ _ _ _ HLV.out]; rfl
    have d6 : V.cell? ⟨w.heap.size, 6, none⟩ = some (.int .i64 (1000)) := by rw [cell_of_row V _ _ _ _ _ HLV.out]; rfl
    have z0 : V.cell? ⟨W.heap.size, 20, none⟩ = some (.int .i64 0) := HR.out.cell 2 0 (by decide) (by decide)
    have z1 : V.cell? ⟨W.heap.size, 21, none⟩ = some (.int .i64 0) := HR.out.cell 2 1 (by decide) (by decide)
    have z2 : V.cell? ⟨W.heap.size, 22, none⟩ = some (.int .i64 0) := HR.out.cell 2 2 (by decide) (by decide)
    have z3 : V.cell? ⟨W.heap.size, 23, none⟩ = some (.int .i64 0) := HR.out.cell 2 3 (by decide) (by decide)
    have z4 : V.cell? ⟨W.heap.size, 24, none⟩ = some (.int .i64 0) := HR.out.cell 2 4 (by decide) (by decide)
    have z5 : V.cell? ⟨W.heap.size, 25, none⟩ = some (.int .i64 0) := HR.out.cell 2 5 (by decide) (by decide)
    have z6 : V.cell? ⟨W.heap.size, 26, none⟩ = some (.int .i64 0) := HR.out.cell 2 6 (by decide) (by decide)
    have z7 : V.cell? ⟨W.heap.size, 27, none⟩ = some (.int .i64 0) := HR.out.cell 2 7 (by decide) (by decide)
    have z8 : V.cell? ⟨W.heap.size, 28, none⟩ = some (.int .i64 0) := HR.out.cell 2 8 (by decide) (by decide)
    have z9 : V.cell? ⟨W.heap.size, 29, none⟩ = some (.slice none 0 0) := HR.out.cell 2 9 (by decide) (by decide)
    have fz : ∀ j, V.frozen? ⟨W.heap.size, j, none⟩ = false := fun j => HR.out.frozen j
    rw [hmk]
    go_wp2_with fail
    refine (rput_t 1 W.heap.size (limRow ⟨40, 100000, 100000, 255, 255, 1099511627776 + (1 + k), 1000⟩) _ (HR.out.put 2 ⟨1, 1, ⟨40, 100000, 100000, 255, 255, 1099511627776 + (1 + k), 1000⟩, []⟩ (.slice none 0 0) (by decide)) (limRow_ints _ _) rfl (limRow_segs _)).mono ?_
    rintro e w3 ⟨rfl, hb3⟩
    rw [put_check (limRow_no HX.out)]
    have HR3 : Hid (HRow w3 W.heap.size (limRow ⟨40, 100000, 100000, 255, 255, 1099511627776 + (1 + k), 1000⟩)) := (HR.out.put 2 ⟨1, 1, ⟨40, 100000, 100000, 255, 255, 1099511627776 + (1 + k), 1000⟩, []⟩ (.slice none 0 0) (by decide)).on hb3
    have HL3 : Hid (w3.heap[w.heap.size]? = some (.cells #[.int .i64 (40), .int .i64 (100000), .int .i64 (100000), .int .i64 (255), .int .i64 (255), .int .i64 (1099511627776 + (1 + k)), .int .i64 (1000)] 24 (0, 0))) := by
      show _ = _
      rw [hb3.block _ (by simp [World.setCell]; omega)]
      repeat rw [Below.heap_setCell _ _ _ _ hne]
      exact HLV.out
    have HB3 : Hid (Below w.heap.size w w3) := by
      refine Below.trans ?_ (hb3.mono (by simp [World.setCell]; omega))
      iterate 10 refine Below.setCell ?_ (by show w.heap.size ≤ W.heap.size; omega) _
      exact HBV.out
    clear hb3 d0 d1 d2 d3 d4 d5 d6 z0 z1 z2 z3 z4 z5 z6 z7 z8 z9 fz HR HLV HBV hmk
    have d0 : w3.cell? ⟨w.heap.size, 0, none⟩ = some (.int .i64 (40)) := by rw [cell_of_row w3 _ _ _ _ _ HL3.out]; rfl
    have d1 : w3.cell? ⟨w.heap.size, 1, none⟩ = some (.int .i64 (100000)) := by rw [cell_of_row w3 _ _ _ _ _ HL3.out]; rfl
    have d2 : w3.cell? ⟨w.heap.size, 2, none⟩ = some (.int .i64 (100000)) := by rw [cell_of_row w3 _ _ _ _ _ HL3.out]; rfl
    have d3 : w3.cell? ⟨w.heap.size, 3, none⟩ = some (.int .i64 (255)) := by rw [cell_of_row w3 _ _ _ _ _ HL3.out]; rfl
    have d4 : w3.cell? ⟨w.heap.size, 4, none⟩ = some (.int .i64 (255)) := by rw [cell_of_row w3 _ _ _ _ _ HL3.out]; rfl
    have d5 : w3.cell? ⟨w.heap.size, 5, none⟩ = some (.int .i64 (1099511627776 + (1 + k))) := by rw [cell_of_row w3 _ _ _ _ _ HL3.out]; rfl
    have d6 : w3.cell? ⟨w.heap.size, 6, none⟩ = some (.int .i64 (1000)) := by rw [cell_of_row w3 _ _ _ _ _ HL3.out]; rfl
    go_wp2_with fail
    refine (checkLimit_t ⟨40, 100000, 100000, 255, 255, 1099511627776 + (1 + k), 1000⟩ _).mono ?_
    rintro e w4 ⟨rfl, hb4⟩
    rw [HX.out]
    have HR4 : Hid (HRow w4 W.heap.size (limRow ⟨40, 100000, 100000, 255, 255, 1099511627776 + (1 + k), 1000⟩)) := HR3.out.on hb4
    have HB4 : Hid (Below w.heap.size w w4) := HB3.out.trans (hb4.mono HB3.out.size)
    clear hb4 HR3 HB3 HL3 d0 d1 d2 d3 d4 d5 d6
    go_wp2_with fail
    refine (rcheck_t 1000 W.heap.size (limRow ⟨40, 100000, 100000, 255, 255, 1099511627776 + (1 + k), 1000⟩) _ HR4.out (limRow_ints _ _) rfl (limRow_segs _) (by decide)).mono ?_
    rintro e w5 ⟨rfl, hb5⟩
    rw [limRow_no HX.out]
    have HB5 : Hid (Below w.heap.size w w5) := HB4.out.trans (hb5.mono HB4.out.size)
    clear hb5 HR4 HB4
    go_wp2_with fail
    refine (awake_t _).mono ?_
    rintro e w6 ⟨rfl, hb6⟩
    have HB6 : Hid (Below w.heap.size w w6) := HB5.out.trans (hb6.mono HB5.out.size)
    clear hb6 HB5
    go_wp2_with fail
    go_ret
    exact ⟨rfl, HB6.out⟩
  · have HX : Hid (limB ⟨40, 100000, 100000, 255, 255, 1099511627776, 1000 + (1 + k)⟩ = false) := by
      show _ = _
      rw [Bool.eq_false_iff]
      intro hl
      simp only [limB, Bool.and_eq_true, inB_iff] at hl
      omega
    go_wp2_with fail
    generalize hW : (w2.setCell ⟨w.heap.size, 6, none⟩ (.int .i64 (1000 + (1 + k)))) = W
    have HLW : Hid (W.heap[w.heap.size]? = some (.cells #[.int .i64 (40), .int .i64 (100000), .int .i64 (100000), .int .i64 (255), .int .i64 (255), .int .i64 (1099511627776), .int .i64 (1000 + (1 + k))] 24 (0, 0))) := by rw [← hW]; exact (heap_setCell_same _ _ 6 _ _ (.int .i64 (1000 + (1 + k))) HL.out)
    have HBW : Hid (Below w.heap.size w W) := by rw [← hW]; exact (HB.out.setCell (Nat.le_refl _) _)
    clear hW c0 c1 c2 c3 c4 c5 c6 fz hlt HL HB
    have hltW : w.heap.size < W.heap.size := (Array.getElem?_eq_some_iff.1 HLW.out).1
    have hne : w.heap.size ≠ W.heap.size := by omega
    have hmk := make16 W
    obtain ⟨V, hV⟩ : ∃ V, V = W.alloc (.cells none16c 42) := ⟨_, rfl⟩
    rw [← hV] at hmk
    have HR : Hid (HRow V W.heap.size none16) := by rw [hV]; exact none16_row W
    have HLV : Hid (V.heap[w.heap.size]? = some (.cells #[.int .i64 (40), .int .i64 (100000), .int .i64 (100000), .int .i64 (255), .int .i64 (255), .int .i64 (1099511627776), .int .i64 (1000 + (1 + k))] 24 (0, 0))) := by rw [hV]; show _ = _; rw [Below.heap_alloc _ _ _ hltW]; exact HLW.out
    have HBV : Hid (Below w.heap.size w V) := by rw [hV]; exact HBW.out.alloc HBW.out.size _
    have hVs : V.heap.size = W.heap.size + 1 := by rw [hV]; simp
    clear hV HLW HBW
    have d0 : V.cell? ⟨w.heap.size, 0, none⟩ = some (.int .i64 (40)) := by rw [cell_of_row V _ _ _ _ _ HLV.out]; rfl
    have d1 : V.cell? ⟨w.heap.size, 1, none⟩ = some (.int .i64 (100000)) := by rw [cell_of_row V _ _ _ _ _ HLV.out]; rfl
    have d2 : V.cell? ⟨w.heap.size, 2, none⟩ = some (.int .i64 (100000)) := by rw [cell_of_row V _ _ _ _ _ HLV.out]; rfl
    have d3 : V.cell? ⟨w.heap.size, 3, none⟩ = some (.int .i64 (255)) := by rw [cell_of_row V _ _ _ _ _ HLV.out]; rfl
    have d4 : V.cell? ⟨w.heap.size, 4, none⟩ = some (.int .i64 (255)) := by rw [cell_of_row V _ _ _ _ _ HLV.out]; rfl
    have d5 : V.cell? ⟨w.heap.size, 5, none⟩ = some (.int .i64 (1099511627776)) := by rw [cell_of_row V _ _ _ _ _ HLV.out]; rfl
    have d6 : V.cell? ⟨w.heap.size, 6, none⟩ = some (.int .i64 (1000 + (1 + k))) := by rw [cell_of_row V _ _ _ _ _ HLV.out]; rfl
    have z0 : V.cell? ⟨W.heap.size, 20, none⟩ = some (.int .i64 0) := HR.out.cell 2 0 (by decide) (by decide)
    have z1 : V.cell? ⟨W.heap.size, 21, none⟩ = some (.int .i64 0) := HR.out.cell 2 1 (by decide) (by decide)
    have z2 : V.cell? ⟨W.heap.size, 22, none⟩ = some (.int .i64 0) := HR.out.cell 2 2 (by decide) (by decide)
    have z3 : V.cell? ⟨W.heap.size, 23, none⟩ = some (.int .i64 0) := HR.out.cell 2 3 (by decide) (by decide)
    have z4 : V.cell? ⟨W.heap.size, 24, none⟩ = some (.int .i64 0) := HR.out.cell 2 4 (by decide) (by decide)
    have z5 : V.cell? ⟨W.heap.size, 25, none⟩ = some (.int .i64 0) := HR.out.cell 2 5 (by decide) (by decide)
    have z6 : V.cell? ⟨W.heap.size, 26, none⟩ = some (.int .i64 0) := HR.out.cell 2 6 (by decide) (by decide)
    have z7 : V.cell? ⟨W.heap.size, 27, none⟩ = some (.int .i64 0) := HR.out.cell 2 7 (by decide) (by decide)
    have z8 : V.cell? ⟨W.heap.size, 28, none⟩ = some (.int .i64 0) := HR.out.cell 2 8 (by decide) (by decide)
    have z9 : V.cell? ⟨W.heap.size, 29, none⟩ = some (.slice none 0 0) := HR.out.cell 2 9 (by decide) (by decide)
    have fz : ∀ j, V.frozen? ⟨W.heap.size, j, none⟩ = false := fun j => HR.out.frozen j
    rw [hmk]
    go_wp2_with fail
    refine (rput_t 1 W.heap.size (limRow ⟨40, 100000, 100000, 255, 255, 1099511627776, 1000 + (1 + k)⟩) _ (HR.out.put 2 ⟨1, 1, ⟨40, 100000, 100000, 255, 255, 1099511627776, 1000 + (1 + k)⟩, []⟩ (.slice none 0 0) (by decide)) (limRow_ints _ _) rfl (limRow_segs _)).mono ?_
    rintro e w3 ⟨rfl, hb3⟩
    rw [put_check (limRow_no HX.out)]
    have HR3 : Hid (HRow w3 W.heap.size (limRow ⟨40, 100000, 100000, 255, 255, 1099511627776, 1000 + (1 + k)⟩)) := (HR.out.put 2 ⟨1, 1, ⟨40, 100000, 100000, 255, 255, 1099511627776, 1000 + (1 + k)⟩, []⟩ (.slice none 0 0) (by decide)).on hb3
    have HL3 : Hid (w3.heap[w.heap.size]? = some (.cells #[.int .i64 (40), .int .i64 (100000), .int .i64 (100000), .int .i64 (255), .int .i64 (255), .int .i64 (1099511627776), .int .i64 (1000 + (1 + k))] 24 (0, 0))) := by
      show _ = _
      rw [hb3.block _ (by simp [World.setCell]; omega)]
      repeat rw [Below.heap_setCell _ _ _ _ hne]
      exact HLV.out
    have HB3 : Hid (Below w.heap.size w w3) := by
      refine Below.trans ?_ (hb3.mono (by simp [World.setCell]; omega))
      iterate 10 refine Below.setCell ?_ (by show w.heap.size ≤ W.heap.size; omega) _
      exact HBV.out
    clear hb3 d0 d1 d2 d3 d4 d5 d6 z0 z1 z2 z3 z4 z5 z6 z7 z8 z9 fz HR HLV HBV hmk
    have d0 : w3.cell? ⟨w.heap.size, 0, none⟩ = some (.int .i64 (40)) := by rw [cell_of_row w3 _ _ _ _ _ HL3.out]; rfl
    have d1 : w3.cell? ⟨w.heap.size, 1, none⟩ = some (.int .i64 (100000)) := by rw [cell_of_row w3 _ _ _ _ _ HL3.out]; rfl
    have d2 : w3.cell? ⟨w.heap.size, 2, none⟩ = some (.int .i64 (100000)) := by rw [cell_of_row w3 _ _ _ _ _ HL3.out]; rfl
    have d3 : w3.cell? ⟨w.heap.size, 3, none⟩ = some (.int .i64 (255)) := by rw [cell_of_row w3 _ _ _ _ _ HL3.out]; rfl
    have d4 : w3.cell? ⟨w.heap.size, 4, none⟩ = some (.int .i64 (255)) := by rw [cell_of_row w3 _ _ _ _ _ HL3.out]; rfl
    have d5 : w3.cell? ⟨w.heap.size, 5, none⟩ = some (.int .i64 (1099511627776)) := by rw [cell_of_row w3 _ _ _ _ _ HL3.out]; rfl
    have d6 : w3.cell? ⟨w.heap.size, 6, none⟩ = some (.int .i64 (1000 + (1 + k))) := by rw [cell_of_row w3 _ _ _ _ _ HL3.out]; rfl
    go_wp2_with fail
    refine (checkLimit_t ⟨40, 100000, 100000, 255, 255, 1099511627776, 1000 + (1 + k)⟩ _).mono ?_
    rintro e w4 ⟨rfl, hb4⟩
    rw [HX.out]
    have HR4 : Hid (HRow w4 W.heap.size (limRow ⟨40, 100000, 100000, 255, 255, 1099511627776, 1000 + (1 + k)⟩)) := HR3.out.on hb4
    have HB4 : Hid (Below w.heap.size w w4) := HB3.out.trans (hb4.mono HB3.out.size)
    clear hb4 HR3 HB3 HL3 d0 d1 d2 d3 d4 d5 d6
    go_wp2_with fail
    refine (rcheck_t 1000 W.heap.size (limRow ⟨40, 100000, 100000, 255, 255, 1099511627776, 1000 + (1 + k)⟩) _ HR4.out (limRow_ints _ _) rfl (limRow_segs _) (by decide)).mono ?_
    rintro e w5 ⟨rfl, hb5⟩
    rw [limRow_no HX.out]
    have HB5 : Hid (Below w.heap.size w w5) := HB4.out.trans (hb5.mono HB4.out.size)
    clear hb5 HR4 HB4
    go_wp2_with fail
    refine (awake_t _).mono ?_
    rintro e w6 ⟨rfl, hb6⟩
    have HB6 : Hid (Below w.heap.size w w6) := HB5.out.trans (hb6.mono HB5.out.size)
    clear hb6 HB5
    go_wp2_with fail
    go_ret
    exact ⟨rfl, HB6.out⟩
  · have HX : Hid (limB ⟨40, 100000, 100000, 255, 255, -(1 + k), 1000⟩ = false) := by
      show _ = _
      rw [Bool.eq_false_iff]
      intro hl
      simp only [limB, Bool.and_eq_true, inB_iff] at hl
      omega
    go_wp2_with fail
    generalize hW : (w2.setCell ⟨w.heap.size, 5, none⟩ (.int .i64 (-(1 + k)))) = W
    have HLW : Hid (W.heap[w.heap.size]? = some (.cells #[.int .i64 (40), .int .i64 (100000), .int .i64 (100000), .int .i64 (255), .int .i64 (255), .int .i64 (-(1 + k)), .int .i64 (1000)] 24 (0, 0))) := by rw [← hW]; exact (heap_setCell_same _ _ 5 _ _ (.int .i64 (-(1 + k))) HL.out)
    have HBW : Hid (Below w.heap.size w W) := by rw [← hW]; exact (HB.out.setCell (Nat.le_refl _) _)
    clear hW c0 c1 c2 c3 c4 c5 c6 fz hlt HL HB
    have hltW : w.heap.size < W.heap.size := (Array.getElem?_eq_some_iff.1 HLW.out).1
    have hne : w.heap.size ≠ W.heap.size := by omega
    have hmk := make16 W
    obtain ⟨V, hV⟩ : ∃ V, V = W.alloc (.cells none16c 42) := ⟨_, rfl⟩
    rw [← hV] at hmk
    have HR : Hid (HRow V W.heap.size none16) := by rw [hV]; exact none16_row W
    have HLV : Hid (V.heap[w.heap.size]? = some (.cells #[.int .i64 (40), .int .i64 (100000), .int .i64 (100000), .int .i64 (255), .int .i64 (255), .int .i64 (-(1 + k)), .int .i64 (1000)] 24 (0, 0))) := by rw [hV]; show _ = _; rw [Below.heap_alloc _ _ _ hltW]; exact HLW.out
    have HBV : Hid (Below w.heap.size w V) := by rw [hV]; exact HBW.out.alloc HBW.out.size _
    have hVs : V.heap.size = W.heap.size + 1 := by rw [hV]; simp
    clear hV HLW HBW
    have d0 : V.cell? ⟨w.heap.size, 0, none⟩ = some (.int .i64 (40)) := by rw [cell_of_row V _ _ _ _ _ HLV.out]; rfl
    have d1 : V.cell? ⟨w.heap.size, 1, none⟩ = some (.int .i64 (100000)) := by rw [cell_of_row V _ _ _ _ _ HLV.out]; rfl
    have d2 : V.cell? ⟨w.heap.size, 2, none⟩ = some (.int .i64 (100000)) := by rw [cell_of_row V _ _ _ _ _ HLV.out]; rfl
    have d3 : V.cell? ⟨w.heap.size, 3, none⟩ = some (.int .i64 (255)) := by rw [cell_of_row V _ _ _ _ _ HLV.out]; rfl
    have d4 : V.cell? ⟨w.heap.size, 4, none⟩ = some (.int .i64 (255)) := by rw [cell_of_row V _ _ _ _ _ HLV.out]; rfl
    have d5 : V.cell? ⟨w.heap.size, 5, none⟩ = some (.int .i64 (-(1 + k))) := by rw [cell_of_row V _ _ _ _ _ HLV.out]; rfl
    have d6 : V.cell? ⟨w.heap.size, 6, none⟩ = some (.int .i64 (1000)) := by rw [cell_of_row V _ _ _ _ _ HLV.out]; rfl
    have z0 : V.cell? ⟨W.heap.size, 20, none⟩ = some (.int .i64 0) := HR.out.cell 2 0 (by decide) (by decide)
    have z1 : V.cell? ⟨W.heap.size, 21, none⟩ = some (.int .i64 0) := HR.out.cell 2 1 (by decide) (by decide)
    have z2 : V.cell? ⟨W.heap.size, 22, none⟩ = some (.int .i64 0) := HR.out.cell 2 2 (by decide) (by decide)
    have z3 : V.cell? ⟨W.heap.size, 23, none⟩ = some (.int .i64 0) := HR.out.cell 2 3 (by decide) (by decide)
    have z4 : V.cell? ⟨W.heap.size, 24, none⟩ = some (.int .i64 0) := HR.out.cell 2 4 (by decide) (by decide)
    have z5 : V.cell? ⟨W.heap.size, 25, none⟩ = some (.int .i64 0) := HR.out.cell 2 5 (by decide) (by decide)
    have z6 : V.cell? ⟨W.heap.size, 26, none⟩ = some (.int .i64 0) := HR.out.cell 2 6 (by decide) (by decide)
    have z7 : V.cell? ⟨W.heap.size, 27, none⟩ = some (.int .i64 0) := HR.out.cell 2 7 (by decide) (by decide)
    have z8 : V.cell? ⟨W.heap.size, 28, none⟩ = some (.int .i64 0) := HR.out.cell 2 8 (by decide) (by decide)
    have z9 : V.cell? ⟨W.heap.size, 29, none⟩ = some (.slice none 0 0) := HR.out.cell 2 9 (by decide) (by decide)
    have fz : ∀ j, V.frozen? ⟨W.heap.size, j, none⟩ = false := fun j => HR.out.frozen j
    rw [hmk]
    go_wp2_with fail
    refine (rput_t 1 W.heap.size (limRow ⟨40, 100000, 100000, 255, 255, -(1 + k), 1000⟩) _ (HR.out.put 2 ⟨1, 1, ⟨40, 100000, 100000, 255, 255, -(1 + k), 1000⟩, []⟩ (.slice none 0 0) (by decide)) (limRow_ints _ _) rfl (limRow_segs _)).mono ?_
    rintro e w3 ⟨rfl, hb3⟩
    rw [put_check (limRow_no HX.out)]
    have HR3 : Hid (HRow w3 W.heap.size (limRow ⟨40, 100000, 100000, 255, 255, -(1 + k), 1000⟩)) := (HR.out.put 2 ⟨1, 1, ⟨40, 100000, 100000, 255, 255, -(1 + k), 1000⟩, []⟩ (.slice none 0 0) (by decide)).on hb3
    have HL3 : Hid (w3.heap[w.heap.size]? = some (.cells #[.int .i64 (40), .int .i64 (100000), .int .i64 (100000), .int .i64 (255), .int .i64 (255), .int .i64 (-(1 + k)), .int .i64 (1000)] 24 (0, 0))) := by
      show _ = _
      rw [hb3.block _ (by simp [World.setCell]; omega)]
      repeat rw [Below.heap_setCell _ _ _ _ hne]
      exact HLV.out
    have HB3 : Hid (Below w.heap.size w w3) := by
      refine Below.trans ?_ (hb3.mono (by simp [World.setCell]; omega))
      iterate 10 refine Below.setCell ?_ (by show w.heap.size ≤ W.heap.size; omega) _
      exact HBV.out
    clear hb3 d0 d1 d2 d3 d4 d5 d6 z0 z1 z2 z3 z4 z5 z6 z7 z8 z9 fz HR HLV HBV hmk
    have d0 : w3.cell? ⟨w.heap.size, 0, none⟩ = some (.int .i64 (40)) := by rw [cell_of_row w3 _ _ _ _ _ HL3.out]; rfl
    have d1 : w3.cell? ⟨w.heap.size, 1, none⟩ = some (.int .i64 (100000)) := by rw [cell_of_row w3 _ _ _ _ _ HL3.out]; rfl
    have d2 : w3.cell? ⟨w.heap.size, 2, none⟩ = some (.int .i64 (100000)) := by rw [cell_of_row w3 _ _ _ _ _ HL3.out]; rfl
    have d3 : w3.cell? ⟨w.heap.size, 3, none⟩ = some (.int .i64 (255)) := by rw [cell_of_row w3 _ _ _ _ _ HL3.out]; rfl
    have d4 : w3.cell? ⟨w.heap.size, 4, none⟩ = some (.int .i64 (255)) := by rw [cell_of_row w3 _ _ _ _ _ HL3.out]; rfl
    have d5 : w3.cell? ⟨w.heap.size, 5, none⟩ = some (.int .i64 (-(1 + k))) := by rw [cell_of_row w3 _ _ _ _ _ HL3.out]; rfl
    have d6 : w3.cell? ⟨w.heap.size, 6, none⟩ = some (.int .i64 (1000)) := by rw [cell_of_row w3 _ _ _ _ _ HL3.out]; rfl
    go_wp2_with fail
    refine (checkLimit_t ⟨40, 100000, 100000, 255, 255, -(1 + k), 1000⟩ _).mono ?_
    rintro e w4 ⟨rfl, hb4⟩
    rw [HX.out]
    have HR4 : Hid (HRow w4 W.heap.size (limRow ⟨40, 100000, 100000, 255, 255, -(1 + k), 1000⟩)) := HR3.out.on hb4
    have HB4 : Hid (Below w.heap.size w w4) := HB3.out.trans (hb4.mono HB3.out.size)
    clear hb4 HR3 HB3 HL3 d0 d1 d2 d3 d4 d5 d6
    go_wp2_with fail
    refine (rcheck_t 1000 W.heap.size (limRow ⟨40, 100000, 100000, 255, 255, -(1 + k), 1000⟩) _ HR4.out (limRow_ints _ _) rfl (limRow_segs _) (by decide)).mono ?_
    rintro e w5 ⟨rfl, hb5⟩
    rw [limRow_no HX.out]
    have HB5 : Hid (Below w.heap.size w w5) := HB4.out.trans (hb5.mono HB4.out.size)
    clear hb5 HR4 HB4
    go_wp2_with fail
    refine (awake_t _).mono ?_
    rintro e w6 ⟨rfl, hb6⟩
    have HB6 : Hid (Below w.heap.size w w6) := HB5.out.trans (hb6.mono HB5.out.size)
    clear hb6 HB5
    go_wp2_with fail
    go_ret
    exact ⟨rfl, HB6.out⟩
  · have HX : Hid (limB ⟨8 - (1 + k), 100000, 100000, 255, 255, 1099511627776, 1000⟩ = false) := by
      show _ = _
      rw [Bool.eq_false_iff]
      intro hl
      simp only [limB, Bool.and_eq_true, inB_iff] at hl
      omega
    go_wp2_with fail
    generalize hW : (w2.setCell ⟨w.heap.size, 0, none⟩ (.int .i64 (8 - (1 + k)))) = W
    have HLW : Hid (W.heap[w.heap.size]? = some (.cells #[.int .i64 (8 - (1 + k)), .int .i64 (100000), .int .i64 (100000), .int .i64 (255), .int .i64 (255), .int .i64 (1099511627776), .int .i64 (1000)] 24 (0, 0))) := by rw [← hW]; exact (heap_setCell_same _ _ 0 _ _ (.int .i64 (8 - (1 + k))) HL.out)
    have HBW : Hid (Below w.heap.size w W) := by rw [← hW]; exact (HB.out.setCell (Nat.le_refl _) _)
    clear hW c0 c1 c2 c3 c4 c5 c6 fz hlt HL HB
    have hltW : w.heap.size < W.heap.size := (Array.getElem?_eq_some_iff.1 HLW.out).1
    have hne : w.heap.size ≠ W.heap.size := by omega
    have hmk := make16 W
    obtain ⟨V, hV⟩ : ∃ V, V = W.alloc (.cells none16c 42) := ⟨_, rfl⟩
    rw [← hV] at hmk
    have HR : Hid (HRow V W.heap.size none16) := by rw [hV]; exact none16_row W
    have HLV : Hid (V.heap[w.heap.size]? = some (.cells #[.int .i64 (8 - (1 + k)), .int .i64 (100000), .int .i64 (100000), .int .i64 (255), .int .i64 (255), .int .i64 (1099511627776), .int .i64 (1000)] 24 (0, 0))) := by rw [hV]; show _ = _; rw [Below.heap_alloc _ _ _ hltW]; exact HLW.out
    have HBV : Hid (Below w.heap.size w V) := by rw [hV]; exact HBW.out.alloc HBW.out.size _
    have hVs : V.heap.size = W.heap.size + 1 := by rw [hV]; simp
    clear hV HLW HBW
    have d0 : V.cell? ⟨w.heap.size, 0, none⟩ = some (.int .i64 (8 - (1 + k))) := by rw [cell_of_row V _ _ _ _ _ HLV.out]; rfl
    have d1 : V.cell? ⟨w.heap.size, 1, none⟩ = some (.int .i64 (100000)) := by rw [cell_of_row V _ _ _ _ _ HLV.out]; rfl
    have d2 : V.cell? ⟨w.heap.size, 2, none⟩ = some (.int .i64 (100000)) := by rw [cell_of_row V _ _ _ _ _ HLV.out]; rfl
    have d3 : V.cell? ⟨w.heap.size, 3, none⟩ = some (.int .i64 (255)) := by rw [cell_of_row V _ _ _ _ _ HLV.out]; rfl
    have d4 : V.cell? ⟨w.heap.size, 4, none⟩ = some (.int .i64 (255)) := by rw [cell_of_row V _ _ _ _ _ HLV.out]; rfl
    have d5 : V.cell? ⟨w.heap.size, 5, none⟩ = some (.int .i64 (1099511627776)) := by rw [cell_of_row V _ _ _ _ _ HLV.out]; rfl
    have d6 : V.cell? ⟨w.heap.size, 6, none⟩ = some (.int .i64 (1000)) := by rw [cell_of_row V _ _ _ _ _ HLV.out]; rfl
    have z0 : V.cell? ⟨W.heap.size, 20, none⟩ = some (.int .i64 0) := HR.out.cell 2 0 (by decide) (by decide)
    have z1 : V.cell? ⟨W.heap.size, 21, none⟩ = some (.int .i64 0) := HR.out.cell 2 1 (by decide) (by decide)
    have z2 : V.cell? ⟨W.heap.size, 22, none⟩ = some (.int .i64 0) := HR.out.cell 2 2 (by decide) (by decide)
    have z3 : V.cell? ⟨W.heap.size, 23, none⟩ = some (.int .i64 0) := HR.out.cell 2 3 (by decide) (by decide)
    have z4 : V.cell? ⟨W.heap.size, 24, none⟩ = some (.int .i64 0) := HR.out.cell 2 4 (by decide) (by decide)
    have z5 : V.cell? ⟨W.heap.size, 25, none⟩ = some (.int .i64 0) := HR.out.cell 2 5 (by decide) (by decide)
    have z6 : V.cell? ⟨W.heap.size, 26, none⟩ = some (.int .i64 0) := HR.out.cell 2 6 (by decide) (by decide)
    have z7 : V.cell? ⟨W.heap.size, 27, none⟩ = some (.int .i64 0) := HR.out.cell 2 7 (by decide) (by decide)
    have z8 : V.cell? ⟨W.heap.size, 28, none⟩ = some (.int .i64 0) := HR.out.cell 2 8 (by decide) (by decide)
    have z9 : V.cell? ⟨W.heap.size, 29, none⟩ = some (.slice none 0 0) := HR.out.cell 2 9 (by decide) (by decide)
    have fz : ∀ j, V.frozen? ⟨W.heap.size, j, none⟩ = false := fun j => HR.out.frozen j
    rw [hmk]
    go_wp2_with fail
    refine (rput_t 1 W.heap.size (limRow ⟨8 - (1 + k), 100000, 100000, 255, 255, 1099511627776, 1000⟩) _ (HR.out.put 2 ⟨1, 1, ⟨8 - (1 + k), 100000, 100000, 255, 255, 1099511627776, 1000⟩, []⟩ (.slice none 0 0) (by decide)) (limRow_ints _ _) rfl (limRow_segs _)).mono ?_
    rintro e w3 ⟨rfl, hb3⟩
    rw [put_check (limRow_no HX.out)]
    have HR3 : Hid (HRow w3 W.heap.size (limRow ⟨8 - (1 + k), 100000, 100000, 255, 255, 1099511627776, 1000⟩)) := (HR.out.put 2 ⟨1, 1, ⟨8 - (1 + k), 100000, 100000, 255, 255, 1099511627776, 1000⟩, []⟩ (.slice none 0 0) (by decide)).on hb3
    have HL3 : Hid (w3.heap[w.heap.size]? = some (.cells #[.int .i64 (8 - (1 + k)), .int .i64 (100000), .int .i64 (100000), .int .i64 (255), .int .i64 (255), .int .i64 (1099511627776), .int .i64 (1000)] 24 (0, 0))) := by
      show _ = _
      rw [hb3.block _ (by simp [World.setCell]; omega)]
      repeat rw [Below.heap_setCell _ _ _ _ hne]
      exact HLV.out
    have HB3 : Hid (Below w.heap.size w w3) := by
      refine Below.trans ?_ (hb3.mono (by simp [World.setCell]; omega))
      iterate 10 refine Below.setCell ?_ (by show w.heap.size ≤ W.heap.size; omega) _
      exact HBV.out
    clear hb3 d0 d1 d2 d3 d4 d5 d6 z0 z1 z2 z3 z4 z5 z6 z7 z8 z9 fz HR HLV HBV hmk
    have d0 : w3.cell? ⟨w.heap.size, 0, none⟩ = some (.int .i64 (8 - (1 + k))) := by rw [cell_of_row w3 _ _ _ _ _ HL3.out]; rfl
    have d1 : w3.cell? ⟨w.heap.size, 1, none⟩ = some (.int .i64 (100000)) := by rw [cell_of_row w3 _ _ _ _ _ HL3.out]; rfl
    have d2 : w3.cell? ⟨w.heap.size, 2, none⟩ = some (.int .i64 (100000)) := by rw [cell_of_row w3 _ _ _ _ _ HL3.out]; rfl
    have d3 : w3.cell? ⟨w.heap.size, 3, none⟩ = some (.int .i64 (255)) := by rw [cell_of_row w3 _ _ _ _ _ HL3.out]; rfl
    have d4 : w3.cell? ⟨w.heap.size, 4, none⟩ = some (.int .i64 (255)) := by rw [cell_of_row w3 _ _ _ _ _ HL3.out]; rfl
    have d5 : w3.cell? ⟨w.heap.size, 5, none⟩ = some (.int .i64 (1099511627776)) := by rw [cell_of_row w3 _ _ _ _ _ HL3.out]; rfl
    have d6 : w3.cell? ⟨w.heap.size, 6, none⟩ = some (.int .i64 (1000)) := by rw [cell_of_row w3 _ _ _ _ _ HL3.out]; rfl
    go_wp2_with fail
    refine (checkLimit_t ⟨8 - (1 + k), 100000, 100000, 255, 255, 1099511627776, 1000⟩ _).mono ?_
    rintro e w4 ⟨rfl, hb4⟩
    rw [HX.out]
    have HR4 : Hid (HRow w4 W.heap.size (limRow ⟨8 - (1 + k), 100000, 100000, 255, 255, 1099511627776, 1000⟩)) := HR3.out.on hb4
    have HB4 : Hid (Below w.heap.size w w4) := HB3.out.trans (hb4.mono HB3.out.size)
    clear hb4 HR3 HB3 HL3 d0 d1 d2 d3 d4 d5 d6
    go_wp2_with fail
    refine (rcheck_t 1000 W.heap.size (limRow ⟨8 - (1 + k), 100000, 100000, 255, 255, 1099511627776, 1000⟩) _ HR4.out (limRow_ints _ _) rfl (limRow_segs _) (by decide)).mono ?_
    rintro e w5 ⟨rfl, hb5⟩
    rw [limRow_no HX.out]
    have HB5 : Hid (Below w.heap.size w w5) := HB4.out.trans (hb5.mono HB4.out.size)
    clear hb5 HR4 HB4
    go_wp2_with fail
    refine (awake_t _).mono ?_
    rintro e w6 ⟨rfl, hb6⟩
    have HB6 : Hid (Below w.heap.size w w6) := HB5.out.trans (hb6.mono HB5.out.size)
    clear hb6 HB5
    go_wp2_with fail
    go_ret
    exact ⟨rfl, HB6.out⟩
  · have HX : Hid (limB ⟨40, 100000, -(1 + k), 255, 255, 1099511627776, 1000⟩ = false) := by
      show _ = _
      rw [Bool.eq_false_iff]
      intro hl
      simp only [limB, Bool.and_eq_true, inB_iff] at hl
      omega
    go_wp2_with fail
    generalize hW : (w2.setCell ⟨w.heap.size, 2, none⟩ (.int .i64 (-(1 + k)))) = W
    have HLW : Hid (W.heap[w.heap.size]? = some (.cells #[.int .i64 (40), .int .i64 (100000), .int .i64 (-(1 + k)), .int .i64 (255), .int .i64 (255), .int .i64 (1099511627776), .int .i64 (1000)] 24 (0, 0))) := by rw [← hW]; exact (heap_setCell_same _ _ 2 _ _ (.int .i64 (-(1 + k))) HL.out)
    have HBW : Hid (Below w.heap.size w W) := by rw [← hW]; exact (HB.out.setCell (Nat.le_refl _) _)
    clear hW c0 c1 c2 c3 c4 c5 c6 fz hlt HL HB
    have hltW : w.heap.size < W.heap.size := (Array.getElem?_eq_some_iff.1 HLW.out).1
    have hne : w.heap.size ≠ W.heap.size := by omega
    have hmk := make16 W
    obtain ⟨V, hV⟩ : ∃ V, V = W.alloc (.cells none16c 42) := ⟨_, rfl⟩
    rw [← hV] at hmk
    have HR : Hid (HRow V W.heap.size none16) := by rw [hV]; exact none16_row W
    have HLV : Hid (V.heap[w.heap.size]? = some (.cells #[.int .i64 (40), .int .i64 (100000), .int .i64 (-(1 + k)), .int .i64 (255), .int .i64 (255), .int .i64 (1099511627776), .int .i64 (1000)] 24 (0, 0))) := by rw [hV]; show _ = _; rw [Below.heap_alloc _ _ _ hltW]; exact HLW.out
    have HBV : Hid (Below w.heap.size w V) := by rw [hV]; exact HBW.out.alloc HBW.out.size _
    have hVs : V.heap.size = W.heap.size + 1 := by rw [hV]; simp
    clear hV HLW HBW
    have d0 : V.cell? ⟨w.heap.size, 0, none⟩ = some (.int .i64 (40)) := by rw [cell_of_row V _ _ _ _ _ HLV.out]; rfl
    have d1 : V.cell? ⟨w.heap.size, 1, none⟩ = some (.int .i64 (100000)) := by rw [cell_of_row V _ _ _ _ _ HLV.out]; rfl
    have d2 : V.cell? ⟨w.heap.size, 2, none⟩ = some (.int .i64 (-(1 + k))) := by rw [cell_of_row V _ _ _ _ _ HLV.out]; rfl
    have d3 : V.cell? ⟨w.heap.size, 3, none⟩ = some (.int .i64 (255)) := by rw [cell_of_row V _ _ _ _ _ HLV.out]; rfl
    have d4 : V.cell? ⟨w.heap.size, 4, none⟩ = some (.int .i64 (255)) := by rw [cell_of_row V _ _ _ _ _ HLV.out]; rfl
    have d5 : V.cell? ⟨w.heap.size, 5, none⟩ = some (.int .i64 (1099511627776)) := by rw [cell_of_row V _ _ _ _ _ HLV.out]; rfl
    have d6 : V.cell? ⟨w.heap.size, 6, none⟩ = some (.int .i64 (1000)) := by rw [cell_of_row V _ _ _ _ _ HLV.out]; rfl
    have z0 : V.cell? ⟨W.heap.size, 20, none⟩ = some (.int .i64 0) := HR.out.cell 2 0 (by decide) (by decide)
    have z1 : V.cell? ⟨W.heap.size, 21, none⟩ = some (.int .i64 0) := HR.out.cell 2 1 (by decide) (by decide)
    have z2 : V.cell? ⟨W.heap.size, 22, none⟩ = some (.int .i64 0) := HR.out.cell 2 2 (by decide) (by decide)
    have z3 : V.cell? ⟨W.heap.size, 23, none⟩ = some (.int .i64 0) := HR.out.cell 2 3 (by decide) (by decide)
    have z4 : V.cell? ⟨W.heap.size, 24, none⟩ = some (.int .i64 0) := HR.out.cell 2 4 (by decide) (by decide)
    have z5 : V.cell? ⟨W.heap.size, 25, none⟩ = some (.int .i64 0) := HR.out.cell 2 5 (by decide) (by decide)
    have z6 : V.cell? ⟨W.heap.size, 26, none⟩ = some (.int .i64 0) := HR.out.cell 2 6 (by decide) (by decide)
    have z7 : V.cell? ⟨W.heap.size, 27, none⟩ = some (.int .i64 0) := HR.out.cell 2 7 (by decide) (by decide)
    have z8 : V.cell? ⟨W.heap.size, 28, none⟩ = some (.int .i64 0) := HR.out.cell 2 8 (by decide) (by decide)
    have z9 : V.cell? ⟨W.heap.size, 29, none⟩ = some (.slice none 0 0) := HR.out.cell 2 9 (by decide) (by decide)
    have fz : ∀ j, V.frozen? ⟨W.heap.size, j, none⟩ = false := fun j => HR.out.frozen j
    rw [hmk]
    go_wp2_with fail
    refine (rput_t 1 W.heap.size (limRow ⟨40, 100000, -(1 + k), 255, 255, 1099511627776, 1000⟩) _ (HR.out.put 2 ⟨1, 1, ⟨40, 100000, -(1 + k), 255, 255, 1099511627776, 1000⟩, []⟩ (.slice none 0 0) (by decide)) (limRow_ints _ _) rfl (limRow_segs _)).mono ?_
    rintro e w3 ⟨rfl, hb3⟩
    rw [put_check (limRow_no HX.out)]
    have HR3 : Hid (HRow w3 W.heap.size (limRow ⟨40, 100000, -(1 + k), 255, 255, 1099511627776, 1000⟩)) := (HR.out.put 2 ⟨1, 1, ⟨40, 100000, -(1 + k), 255, 255, 1099511627776, 1000⟩, []⟩ (.slice none 0 0) (by decide)).on hb3
    have HL3 : Hid (w3.heap[w.heap.size]? = some (.cells #[.int .i64 (40), .int .i64 (100000), .int .i64 (-(1 + k)), .int .i64 (255), .int .i64 (255), .int .i64 (1099511627776), .int .i64 (1000)] 24 (0, 0))) := by
      show _ = _
      rw [hb3.block _ (by simp [World.setCell]; omega)]
      repeat rw [Below.heap_setCell _ _ _ _ hne]
      exact HLV.out
    have HB3 : Hid (Below w.heap.size w w3) := by
      refine Below.trans ?_ (hb3.mono (by simp [World.setCell]; omega))
      iterate 10 refine Below.setCell ?_ (by show w.heap.size ≤ W.heap.size; omega) _
      exact HBV.out
    clear hb3 d0 d1 d2 d3 d4 d5 d6 z0 z1 z2 z3 z4 z5 z6 z7 z8 z9 fz HR HLV HBV hmk
    have d0 : w3.cell? ⟨w.heap.size, 0, none⟩ = some (.int .i64 (40)) := by rw [cell_of_row w3 _ _ _ _ _ HL3.out]; rfl
    have d1 : w3.cell? ⟨w.heap.size, 1, none⟩ = some (.int .i64 (100000)) := by rw [cell_of_row w3 _ _ _ _ _ HL3.out]; rfl
    have d2 : w3.cell? ⟨w.heap.size, 2, none⟩ = some (.int .i64 (-(1 + k))) := by rw [cell_of_row w3 _ _ _ _ _ HL3.out]; rfl
    have d3 : w3.cell? ⟨w.heap.size, 3, none⟩ = some (.int .i64 (255)) := by rw [cell_of_row w3 _ _ _ _ _ HL3.out]; rfl
    have d4 : w3.cell? ⟨w.heap.size, 4, none⟩ = some (.int .i64 (255)) := by rw [cell_of_row w3 _ _ _ _ _ HL3.out]; rfl
    have d5 : w3.cell? ⟨w.heap.size, 5, none⟩ = some (.int .i64 (1099511627776)) := by rw [cell_of_row w3 _ _ _ _ _ HL3.out]; rfl
    have d6 : w3.cell? ⟨w.heap.size, 6, none⟩ = some (.int .i64 (1000)) := by rw [cell_of_row w3 _ _ _ _ _ HL3.out]; rfl
    go_wp2_with fail
    refine (checkLimit_t ⟨40, 100000, -(1 + k), 255, 255, 1099511627776, 1000⟩ _).mono ?_
    rintro e w4 ⟨rfl, hb4⟩
    rw [HX.out]
    have HR4 : Hid (HRow w4 W.heap.size (limRow ⟨40, 100000, -(1 + k), 255, 255, 1099511627776, 1000⟩)) := HR3.out.on hb4
    have HB4 : Hid (Below w.heap.size w w4) := HB3.out.trans (hb4.mono HB3.out.size)
    clear hb4 HR3 HB3 HL3 d0 d1 d2 d3 d4 d5 d6
    go_wp2_with fail
    refine (rcheck_t 1000 W.heap.size (limRow ⟨40, 100000, -(1 + k), 255, 255, 1099511627776, 1000⟩) _ HR4.out (limRow_ints _ _) rfl (limRow_segs _) (by decide)).mono ?_
    rintro e w5 ⟨rfl, hb5⟩
    rw [limRow_no HX.out]
    have HB5 : Hid (Below w.heap.size w w5) := HB4.out.trans (hb5.mono HB4.out.size)
    clear hb5 HR4 HB4
    go_wp2_with fail
    refine (awake_t _).mono ?_
    rintro e w6 ⟨rfl, hb6⟩
    have HB6 : Hid (Below w.heap.size w w6) := HB5.out.trans (hb6.mono HB5.out.size)
    clear hb6 HB5
    go_wp2_with fail
    go_ret
    exact ⟨rfl, HB6.out⟩
end Go.Proofs.Ytdhdjnpgebddmaa
