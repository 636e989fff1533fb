/- SlotEdges walked: each number at its last place, and one beyond. -/
import Derived.Test.YtgpjjbffndmhjaaSlotBack
namespace Go.Proofs.Ytgpjjbffndmhjaa
open Go.RowKit Rec Slt

theorem putB_no {h g : Int} {x : Sl} (hn : h < 1 ∨ 16 < h ∨ g < 1 ∨ 65535 < g ∨ x.num < 1 ∨ 1099511627776 < x.num ∨ x.life < 1 ∨ 1048575 < x.life ∨ x.clock < 0 ∨ 1099511627776 < x.clock ∨ x.seg < 0 ∨ 65535 < x.seg ∨ x.at_ < 0 ∨ 64 < x.at_ ∨ x.next < 0 ∨ 65535 < x.next ∨ x.seq < 1 ∨ 1099511627776 < x.seq ∨ x.m0 < 0 ∨ 16383 < x.m0 ∨ x.m1 < 0 ∨ 16383 < x.m1 ∨ x.m2 < 0 ∨ 16383 < x.m2 ∨ x.m3 < 0 ∨ 16383 < x.m3 ∨ x.sb < 0 ∨ 1099511627777 < x.sb ∨ x.sn < 0 ∨ 1099511627777 < x.sn) : putB h g x = false := by
  rw [Bool.eq_false_iff]
  intro hp
  simp only [putB, okB, Bool.and_eq_true, inB_iff] at hp
  omega
theorem pno_t (h g : Int) (x : Sl) (w : World) (hp : putB h g x = false) :
    Calls Try.prog 8 #[.int .i64 h, .int .i64 g, slotV x] w fun e w' => e = .returned (.tuple #[.string ⟨#[]⟩, .bool false]) ∧ Below w.heap.size w w' := by
  have := sput_t h g x w
  have hs : putS h g x = ⟨#[]⟩ := by rw [putS, hp]; rfl
  rw [hp, hs] at this
  exact this

abbrev edgeX : Sl := ⟨1099511627776, 1048575, 1099511627776, 65535, 64, 65535, 1099511627776, 16383, 0, 1, 2, 1099511627777, 1099511627777⟩
theorem edge_put : putB 16 65535 edgeX = true := by decide

set_option maxRecDepth 10000 in
set_option maxHeartbeats 16000000 in
theorem slotEdges_t (how v : Int) (w : World) :
    Calls Try.prog 5 #[.int .i64 how, .int .i64 v] w fun e w' => e = .returned (.bool true) ∧ Below w.heap.size w w' := by
  have n0 := Int.emod_nonneg v (show (1000 : Int) ≠ 0 by decide)
  have n1 := Int.emod_lt_of_pos v (show (0 : Int) < 1000 by decide)
  have q0 := Int.emod_nonneg how (show (12 : Int) ≠ 0 by decide)
  have q1 := Int.emod_lt_of_pos how (show (0 : Int) < 12 by decide)
  have PLv := slthid (fun w => gplace_t v 1000 w (by decide) (by decide))
  have PLp := slthid (fun w => gplace_t how 12 w (by decide) (by decide))
  generalize v % 1000 = c at *
  generalize how % 12 = p at *
  have PUT := slthid (fun w1 => sput_t 16 65535 edgeX w1)
  rw [edge_put] at PUT
  have GET : Hid (∀ w1, Calls Try.prog 10 #[.string (putS 16 65535 edgeX)] w1 fun e w' => e = .returned (.tuple #[.int .i64 16, .int .i64 65535, .agg #[.int .i64 1099511627776, .int .i64 1048575, .int .i64 1099511627776, .int .i64 65535, .int .i64 64, .int .i64 65535, .int .i64 1099511627776, .int .i64 16383, .int .i64 0, .int .i64 1, .int .i64 2, .int .i64 1099511627777, .int .i64 1099511627777], .bool true]) ∧ Below w1.heap.size w1 w') := fun w1 => rget_t 16 65535 edgeX w1 edge_put
  have NO := slthid pno_t
  have AW := slthid awake_t
  generalize putS 16 65535 edgeX = S at *
  go_enter Try.func5, Try.ntmps5
  go_wp2_with fail
  refine (PLv.out _).mono ?_
  rintro e w' ⟨rfl, rfl⟩
  clear PLv
  go_wp2_with fail
  generalize hW : w.alloc _ = W
  have HX : Hid (W.heap[w.heap.size]? = some (.cells (slotC edgeX) 24 (0, 0))) := by rw [← hW]; exact heap_alloc_new _ _
  have HB0 : Hid (Below w.heap.size w W) := by rw [← hW]; exact (Below.refl _ w).alloc (Nat.le_refl _) _
  have hw0 : w.heap.size < W.heap.size := by rw [← hW]; simp
  clear hW
  refine (PUT.out _).mono ?_
  rintro e w1 ⟨rfl, hb1⟩
  have HX1 : Hid (w1.heap[w.heap.size]? = some (.cells (slotC edgeX) 24 (0, 0))) := by rw [hb1.block _ hw0]; exact HX.out
  have HB1 : Hid (Below w.heap.size w w1) := HB0.out.trans (hb1.mono (by omega))
  have hw1 : w.heap.size < w1.heap.size := by have := hb1.size; omega
  clear hb1 HX HB0 PUT
  go_wp2_with fail
  refine (GET.out _).mono ?_
  rintro e w2 ⟨rfl, hb2⟩
  have HX2 : Hid (w2.heap[w.heap.size]? = some (.cells (slotC edgeX) 24 (0, 0))) := by rw [hb2.block _ hw1]; exact HX1.out
  have HB2 : Hid (Below w.heap.size w w2) := HB1.out.trans (hb2.mono (by omega))
  have hw2 : w.heap.size < w2.heap.size := by have := hb2.size; omega
  clear hb2 HX1 HB1 GET
  go_wp2_with fail
  generalize hV : w2.alloc _ = V
  have HX3 : Hid (V.heap[w.heap.size]? = some (.cells (slotC edgeX) 24 (0, 0))) := by rw [← hV, Below.heap_alloc _ _ _ hw2]; exact HX2.out
  have HB3 : Hid (Below w.heap.size w V) := by rw [← hV]; exact HB2.out.alloc HB2.out.size _
  clear hV HX2 HB2 hw2
  refine (PLp.out _).mono ?_
  rintro e w' ⟨rfl, rfl⟩
  clear PLp
  obtain ⟨x0, x1, x2, x3, x4, x5, x6, x7, x8, x9, x10, x11, x12⟩ := cells13 HX3.out
  have fz : ∀ j, V.frozen? ⟨w.heap.size, j, none⟩ = false := fun j => frozen_of_row V _ j _ _ HX3.out
  clear HX3
  have hc : p = 0 ∨ p = 1 ∨ p = 2 ∨ p = 3 ∨ p = 4 ∨ p = 5 ∨ p = 6 ∨ p = 7 ∨ p = 8 ∨ p = 9 ∨ p = 10 ∨ p = 11 := by omega
  rcases hc with rfl | rfl | rfl | rfl | rfl | rfl | rfl | rfl | rfl | rfl | rfl | rfl
  · have f := fz 0
    clear fz
    go_wp2_with fail
    refine (NO.out _ _ ⟨_, _, _, _, _, _, _, _, _, _, _, _, _⟩ _ (putB_no (by dsimp only; omega))).mono ?_
    rintro e w4 ⟨rfl, hb4⟩
    have HB4 : Hid (Below w.heap.size w w4) := (HB3.out.setCell (Nat.le_refl _) _).trans (hb4.mono (by have := HB3.out.size; simp <;> omega))
    clear hb4 HB3 NO
    go_wp2_with fail
    refine (AW.out _).mono ?_
    rintro e w5 ⟨rfl, hb5⟩
    have HB5 : Hid (Below w.heap.size w w5) := HB4.out.trans (hb5.mono HB4.out.size)
    clear hb5 HB4 AW
    go_wp2_with fail
    go_ret
    exact ⟨rfl, HB5.out⟩
  · have f := fz 1
    clear fz
    go_wp2_with fail
    refine (NO.out _ _ ⟨_, _, _, _, _, _, _, _, _, _, _, _, _⟩ _ (putB_no (by dsimp only; omega))).mono ?_
    rintro e w4 ⟨rfl, hb4⟩
    have HB4 : Hid (Below w.heap.size w w4) := (HB3.out.setCell (Nat.le_refl _) _).trans (hb4.mono (by have := HB3.out.size; simp <;> omega))
    clear hb4 HB3 NO
    go_wp2_with fail
    refine (AW.out _).mono ?_
    rintro e w5 ⟨rfl, hb5⟩
    have HB5 : Hid (Below w.heap.size w w5) := HB4.out.trans (hb5.mono HB4.out.size)
    clear hb5 HB4 AW
    go_wp2_with fail
    go_ret
    exact ⟨rfl, HB5.out⟩
  · have f := fz 2
    clear fz
    go_wp2_with fail
    refine (NO.out _ _ ⟨_, _, _, _, _, _, _, _, _, _, _, _, _⟩ _ (putB_no (by dsimp only; omega))).mono ?_
    rintro e w4 ⟨rfl, hb4⟩
    have HB4 : Hid (Below w.heap.size w w4) := (HB3.out.setCell (Nat.le_refl _) _).trans (hb4.mono (by have := HB3.out.size; simp <;> omega))
    clear hb4 HB3 NO
    go_wp2_with fail
    refine (AW.out _).mono ?_
    rintro e w5 ⟨rfl, hb5⟩
    have HB5 : Hid (Below w.heap.size w w5) := HB4.out.trans (hb5.mono HB4.out.size)
    clear hb5 HB4 AW
    go_wp2_with fail
    go_ret
    exact ⟨rfl, HB5.out⟩
  · have f := fz 3
    clear fz
    go_wp2_with fail
    refine (NO.out _ _ ⟨_, _, _, _, _, _, _, _, _, _, _, _, _⟩ _ (putB_no (by dsimp only; omega))).mono ?_
    rintro e w4 ⟨rfl, hb4⟩
    have HB4 : Hid (Below w.heap.size w w4) := (HB3.out.setCell (Nat.le_refl _) _).trans (hb4.mono (by have := HB3.out.size; simp <;> omega))
    clear hb4 HB3 NO
    go_wp2_with fail
    refine (AW.out _).mono ?_
    rintro e w5 ⟨rfl, hb5⟩
    have HB5 : Hid (Below w.heap.size w w5) := HB4.out.trans (hb5.mono HB4.out.size)
    clear hb5 HB4 AW
    go_wp2_with fail
    go_ret
    exact ⟨rfl, HB5.out⟩
  · have f := fz 4
    clear fz
    go_wp2_with fail
    refine (NO.out _ _ ⟨_, _, _, _, _, _, _, _, _, _, _, _, _⟩ _ (putB_no (by dsimp only; omega))).mono ?_
    rintro e w4 ⟨rfl, hb4⟩
    have HB4 : Hid (Below w.heap.size w w4) := (HB3.out.setCell (Nat.le_refl _) _).trans (hb4.mono (by have := HB3.out.size; simp <;> omega))
    clear hb4 HB3 NO
    go_wp2_with fail
    refine (AW.out _).mono ?_
    rintro e w5 ⟨rfl, hb5⟩
    have HB5 : Hid (Below w.heap.size w w5) := HB4.out.trans (hb5.mono HB4.out.size)
    clear hb5 HB4 AW
    go_wp2_with fail
    go_ret
    exact ⟨rfl, HB5.out⟩
  · have f := fz 5
    clear fz
    go_wp2_with fail
    refine (NO.out _ _ ⟨_, _, _, _, _, _, _, _, _, _, _, _, _⟩ _ (putB_no (by dsimp only; omega))).mono ?_
    rintro e w4 ⟨rfl, hb4⟩
    have HB4 : Hid (Below w.heap.size w w4) := (HB3.out.setCell (Nat.le_refl _) _).trans (hb4.mono (by have := HB3.out.size; simp <;> omega))
    clear hb4 HB3 NO
    go_wp2_with fail
    refine (AW.out _).mono ?_
    rintro e w5 ⟨rfl, hb5⟩
    have HB5 : Hid (Below w.heap.size w w5) := HB4.out.trans (hb5.mono HB4.out.size)
    clear hb5 HB4 AW
    go_wp2_with fail
    go_ret
    exact ⟨rfl, HB5.out⟩
  · have f := fz 6
    clear fz
    go_wp2_with fail
    refine (NO.out _ _ ⟨_, _, _, _, _, _, _, _, _, _, _, _, _⟩ _ (putB_no (by dsimp only; omega))).mono ?_
    rintro e w4 ⟨rfl, hb4⟩
    have HB4 : Hid (Below w.heap.size w w4) := (HB3.out.setCell (Nat.le_refl _) _).trans (hb4.mono (by have := HB3.out.size; simp <;> omega))
    clear hb4 HB3 NO
    go_wp2_with fail
    refine (AW.out _).mono ?_
    rintro e w5 ⟨rfl, hb5⟩
    have HB5 : Hid (Below w.heap.size w w5) := HB4.out.trans (hb5.mono HB4.out.size)
    clear hb5 HB4 AW
    go_wp2_with fail
    go_ret
    exact ⟨rfl, HB5.out⟩
  · have hr4 : (1 + c) % 4 = 0 ∨ (1 + c) % 4 = 1 ∨ (1 + c) % 4 = 2 ∨ (1 + c) % 4 = 3 := by omega
    rcases hr4 with hr | hr | hr | hr
    · have hr2 : Int.tmod (1 + c) 4 = 0 := by rw [Int.tmod_eq_emod_of_nonneg (by omega)]; exact hr
      have f := fz 7
      clear fz hr
      go_wp2_with fail
      refine (NO.out _ _ ⟨_, _, _, _, _, _, _, _, _, _, _, _, _⟩ _ (putB_no (by dsimp only; omega))).mono ?_
      rintro e w4 ⟨rfl, hb4⟩
      have HB4 : Hid (Below w.heap.size w w4) := (HB3.out.setCell (Nat.le_refl _) _).trans (hb4.mono (by have := HB3.out.size; simp <;> omega))
      clear hb4 HB3 NO
      go_wp2_with fail
      refine (AW.out _).mono ?_
      rintro e w5 ⟨rfl, hb5⟩
      have HB5 : Hid (Below w.heap.size w w5) := HB4.out.trans (hb5.mono HB4.out.size)
      clear hb5 HB4 AW
      go_wp2_with fail
      go_ret
      exact ⟨rfl, HB5.out⟩
    · have hr2 : Int.tmod (1 + c) 4 = 1 := by rw [Int.tmod_eq_emod_of_nonneg (by omega)]; exact hr
      have f := fz 8
      clear fz hr
      go_wp2_with fail
      refine (NO.out _ _ ⟨_, _, _, _, _, _, _, _, _, _, _, _, _⟩ _ (putB_no (by dsimp only; omega))).mono ?_
      rintro e w4 ⟨rfl, hb4⟩
      have HB4 : Hid (Below w.heap.size w w4) := (HB3.out.setCell (Nat.le_refl _) _).trans (hb4.mono (by have := HB3.out.size; simp <;> omega))
      clear hb4 HB3 NO
      go_wp2_with fail
      refine (AW.out _).mono ?_
      rintro e w5 ⟨rfl, hb5⟩
      have HB5 : Hid (Below w.heap.size w w5) := HB4.out.trans (hb5.mono HB4.out.size)
      clear hb5 HB4 AW
      go_wp2_with fail
      go_ret
      exact ⟨rfl, HB5.out⟩
    · have hr2 : Int.tmod (1 + c) 4 = 2 := by rw [Int.tmod_eq_emod_of_nonneg (by omega)]; exact hr
      have f := fz 9
      clear fz hr
      go_wp2_with fail
      refine (NO.out _ _ ⟨_, _, _, _, _, _, _, _, _, _, _, _, _⟩ _ (putB_no (by dsimp only; omega))).mono ?_
      rintro e w4 ⟨rfl, hb4⟩
      have HB4 : Hid (Below w.heap.size w w4) := (HB3.out.setCell (Nat.le_refl _) _).trans (hb4.mono (by have := HB3.out.size; simp <;> omega))
      clear hb4 HB3 NO
      go_wp2_with fail
      refine (AW.out _).mono ?_
      rintro e w5 ⟨rfl, hb5⟩
      have HB5 : Hid (Below w.heap.size w w5) := HB4.out.trans (hb5.mono HB4.out.size)
      clear hb5 HB4 AW
      go_wp2_with fail
      go_ret
      exact ⟨rfl, HB5.out⟩
    · have hr2 : Int.tmod (1 + c) 4 = 3 := by rw [Int.tmod_eq_emod_of_nonneg (by omega)]; exact hr
      have f := fz 10
      clear fz hr
      go_wp2_with fail
      refine (NO.out _ _ ⟨_, _, _, _, _, _, _, _, _, _, _, _, _⟩ _ (putB_no (by dsimp only; omega))).mono ?_
      rintro e w4 ⟨rfl, hb4⟩
      have HB4 : Hid (Below w.heap.size w w4) := (HB3.out.setCell (Nat.le_refl _) _).trans (hb4.mono (by have := HB3.out.size; simp <;> omega))
      clear hb4 HB3 NO
      go_wp2_with fail
      refine (AW.out _).mono ?_
      rintro e w5 ⟨rfl, hb5⟩
      have HB5 : Hid (Below w.heap.size w w5) := HB4.out.trans (hb5.mono HB4.out.size)
      clear hb5 HB4 AW
      go_wp2_with fail
      go_ret
      exact ⟨rfl, HB5.out⟩
  · have f := fz 11
    clear fz
    go_wp2_with fail
    refine (NO.out _ _ ⟨_, _, _, _, _, _, _, _, _, _, _, _, _⟩ _ (putB_no (by dsimp only; omega))).mono ?_
    rintro e w4 ⟨rfl, hb4⟩
    have HB4 : Hid (Below w.heap.size w w4) := (HB3.out.setCell (Nat.le_refl _) _).trans (hb4.mono (by have := HB3.out.size; simp <;> omega))
    clear hb4 HB3 NO
    go_wp2_with fail
    refine (AW.out _).mono ?_
    rintro e w5 ⟨rfl, hb5⟩
    have HB5 : Hid (Below w.heap.size w w5) := HB4.out.trans (hb5.mono HB4.out.size)
    clear hb5 HB4 AW
    go_wp2_with fail
    go_ret
    exact ⟨rfl, HB5.out⟩
  · clear fz
    go_wp2_with fail
    refine (NO.out _ _ ⟨_, _, _, _, _, _, _, _, _, _, _, _, _⟩ _ (putB_no (by dsimp only; omega))).mono ?_
    rintro e w4 ⟨rfl, hb4⟩
    have HB4 : Hid (Below w.heap.size w w4) := (HB3.out).trans (hb4.mono (by have := HB3.out.size; simp <;> omega))
    clear hb4 HB3 NO
    go_wp2_with fail
    refine (AW.out _).mono ?_
    rintro e w5 ⟨rfl, hb5⟩
    have HB5 : Hid (Below w.heap.size w w5) := HB4.out.trans (hb5.mono HB4.out.size)
    clear hb5 HB4 AW
    go_wp2_with fail
    go_ret
    exact ⟨rfl, HB5.out⟩
  · clear fz
    go_wp2_with fail
    refine (NO.out _ _ ⟨_, _, _, _, _, _, _, _, _, _, _, _, _⟩ _ (putB_no (by dsimp only; omega))).mono ?_
    rintro e w4 ⟨rfl, hb4⟩
    have HB4 : Hid (Below w.heap.size w w4) := (HB3.out).trans (hb4.mono (by have := HB3.out.size; simp <;> omega))
    clear hb4 HB3 NO
    go_wp2_with fail
    refine (AW.out _).mono ?_
    rintro e w5 ⟨rfl, hb5⟩
    have HB5 : Hid (Below w.heap.size w w5) := HB4.out.trans (hb5.mono HB4.out.size)
    clear hb5 HB4 AW
    go_wp2_with fail
    go_ret
    exact ⟨rfl, HB5.out⟩
  · have f := fz 12
    clear fz
    go_wp2_with fail
    refine (NO.out _ _ ⟨_, _, _, _, _, _, _, _, _, _, _, _, _⟩ _ (putB_no (by dsimp only; omega))).mono ?_
    rintro e w4 ⟨rfl, hb4⟩
    have HB4 : Hid (Below w.heap.size w w4) := (HB3.out.setCell (Nat.le_refl _) _).trans (hb4.mono (by have := HB3.out.size; simp <;> omega))
    clear hb4 HB3 NO
    go_wp2_with fail
    refine (AW.out _).mono ?_
    rintro e w5 ⟨rfl, hb5⟩
    have HB5 : Hid (Below w.heap.size w w5) := HB4.out.trans (hb5.mono HB4.out.size)
    clear hb5 HB4 AW
    go_wp2_with fail
    go_ret
    exact ⟨rfl, HB5.out⟩
end Go.Proofs.Ytgpjjbffndmhjaa
