/- The law GeomEdges walked: the least and the greatest disk, and beyond; the room of a house. -/
import Derived.Test.YtnglimdapkhjbaaGeomMore
import Derived.Lib.MinMax
namespace Go.Proofs.Ytnglimdapkhjbaa
open Go.RowKit


set_option maxHeartbeats 4000000 in
theorem geomEdges_few (a b p n : Int) (w : World) (hp : a % 33 = p) (hn : b % 60 = n) (hs : n ≤ 4) :
    Calls Try.prog 4 #[.int .i64 a, .int .i64 b] w fun e w' => e = .returned (.bool true) ∧ Below w.heap.size w w' := by
  have hp1 : 0 ≤ p := by omega
  have hp2 : p < 33 := by omega
  have hn1 : 0 ≤ n := by omega
  have hn2 : n < 60 := by omega
  obtain ⟨m, hm⟩ : ∃ m, 32 + p = m := ⟨_, rfl⟩
  have hm1 : 32 ≤ m := by omega
  have hm2 : m ≤ 64 := by omega
  have P1 := geomhid fun w => gplace_t a 33 w (by decide) (by decide)
  have P2 := geomhid fun w => gplace_t b 60 w (by decide) (by decide)
  rw [hp] at P1
  rw [hn] at P2
  clear hp hn hp1 hp2
  have hd : m.tdiv 4 = m / 4 := Int.tdiv_eq_ediv_of_nonneg (by omega)
  have C1 := geomhid fun w => check_yes (48 + 8 * m) m w (by unfold GeomOk; omega)
  have C2 := geomhid (segsSaid_of (S := 48 + 8 * m) (G := m) (n := 8) (by unfold GeomOk; omega) (by rw [show 48 + 8 * m - 48 = 8 * m by omega]; exact Int.mul_ediv_cancel _ (by omega)))
  have C3 := geomhid fun w => check_no (48 + 8 * m - 1) m w (by unfold GeomOk; omega)
  have C4 := geomhid (segsSaid_no (S := 48 + 8 * m - 1) (G := m) (by unfold GeomOk; omega))
  have C5 := geomhid fun w => check_yes 16384 m w (by unfold GeomOk; omega)
  have C6 := geomhid fun w => check_no 16385 m w (by unfold GeomOk; omega)
  have C7 := geomhid fun w => check_no (48 + 8 * m) 31 w (by unfold GeomOk; omega)
  have C8 := geomhid fun w => check_no 16384 65 w (by unfold GeomOk; omega)
  have C9 := geomhid fun w => room_four (48 + 8 * m) m n 0 0 0 0 0 0 w (by unfold GeomOk; omega) hs
  have hw0 : wrap64 0 = 0 := by simp [wrap64]
  obtain ⟨k, hk⟩ : ∃ k, n - 4 = k := ⟨_, rfl⟩
  have hk1 : -4 ≤ k := by omega
  have hk2 : k ≤ 0 := by omega
  have hx : max k 0 = 0 := by omega
  clear hs hn1 hn2
  go_enter Try.func4, Try.ntmps4
  go_wp2_with fail
  refine (P1.out _).mono ?_
  rintro e w1 ⟨rfl, rfl⟩
  clear P1
  go_wp2_with fail
  refine (P2.out _).mono ?_
  rintro e w1 ⟨rfl, rfl⟩
  clear P2
  go_wp2_with fail
  have KK := geomhid (Kept.new (48 + 8 * m) m w)
  generalize w.alloc (.cells #[.int .i64 (48 + 8 * m), .int .i64 m] 24) = w0 at *
  refine (C1.out _).mono ?_
  rintro e w1 ⟨rfl, hb⟩
  replace KK := geomhid (KK.out.on hb)
  clear hb C1
  have c0 := KK.out.c0
  have c1 := KK.out.c1
  go_wp2_with fail
  refine (C2.out _).mono ?_
  rintro e w2 ⟨rfl, hb⟩
  replace KK := geomhid (KK.out.on hb)
  clear hb C2
  clear c0 c1
  have c0 := KK.out.c0
  have c1 := KK.out.c1
  go_wp2_with fail
  refine (C3.out _).mono ?_
  rintro e w3 ⟨rfl, hb⟩
  replace KK := geomhid (KK.out.on hb)
  clear hb C3
  clear c0 c1
  have c0 := KK.out.c0
  have c1 := KK.out.c1
  go_wp2_with fail
  refine (C4.out _).mono ?_
  rintro e w4 ⟨rfl, hb⟩
  replace KK := geomhid (KK.out.on hb)
  clear hb C4
  clear c0 c1
  have c0 := KK.out.c0
  have c1 := KK.out.c1
  go_wp2_with fail
  refine (C5.out _).mono ?_
  rintro e w5 ⟨rfl, hb⟩
  replace KK := geomhid (KK.out.on hb)
  clear hb C5
  clear c0 c1
  have c0 := KK.out.c0
  have c1 := KK.out.c1
  go_wp2_with fail
  refine (C6.out _).mono ?_
  rintro e w6 ⟨rfl, hb⟩
  replace KK := geomhid (KK.out.on hb)
  clear hb C6
  clear c0 c1
  have c0 := KK.out.c0
  have c1 := KK.out.c1
  go_wp2_with fail
  refine (C7.out _).mono ?_
  rintro e w7 ⟨rfl, hb⟩
  replace KK := geomhid (KK.out.on hb)
  clear hb C7
  clear c0 c1
  have c0 := KK.out.c0
  have c1 := KK.out.c1
  go_wp2_with fail
  refine (C8.out _).mono ?_
  rintro e w8 ⟨rfl, hb⟩
  replace KK := geomhid (KK.out.on hb)
  clear hb C8
  clear c0 c1
  have c0 := KK.out.c0
  have c1 := KK.out.c1
  go_wp2_with fail
  refine (C9.out _).mono ?_
  rintro e w9 ⟨rfl, hb⟩
  replace KK := geomhid (KK.out.on hb)
  clear hb C9
  clear c0 c1
  have c0 := KK.out.c0
  have c1 := KK.out.c1
  go_wp2_with fail
  refine (slotAt_no 0 0 _ (by omega)).mono ?_
  rintro e w10 ⟨rfl, rfl⟩
  go_wp2_with fail
  refine (slotAt_yes 16 1 _ (by decide) (by decide) (by decide) (by decide)).mono ?_
  rintro e w10 ⟨rfl, rfl⟩
  go_wp2_with fail
  refine (slotAt_no 17 0 _ (by omega)).mono ?_
  rintro e w10 ⟨rfl, rfl⟩
  go_wp2_with fail
  refine (gawake_t _).mono ?_
  rintro e w11 ⟨rfl, hb⟩
  replace KK := geomhid (KK.out.on hb)
  clear hb
  go_wp2_with fail
  go_ret
  exact ⟨rfl, KK.out.below⟩


set_option maxHeartbeats 4000000 in
theorem geomEdges_more (a b p n r : Int) (w : World) (hp : a % 33 = p) (hn : b % 60 = n) (hs : 4 < n) (hr : (n - 4) * ((32 + p) / 4) = r) :
    Calls Try.prog 4 #[.int .i64 a, .int .i64 b] w fun e w' => e = .returned (.bool true) ∧ Below w.heap.size w w' := by
  have hp1 : 0 ≤ p := by omega
  have hp2 : p < 33 := by omega
  have hn1 : 0 ≤ n := by omega
  have hn2 : n < 60 := by omega
  obtain ⟨m, hm⟩ : ∃ m, 32 + p = m := ⟨_, rfl⟩
  have hm1 : 32 ≤ m := by omega
  have hm2 : m ≤ 64 := by omega
  have P1 := geomhid fun w => gplace_t a 33 w (by decide) (by decide)
  have P2 := geomhid fun w => gplace_t b 60 w (by decide) (by decide)
  rw [hp] at P1
  rw [hn] at P2
  clear hp hn hp1 hp2
  have hd : m.tdiv 4 = m / 4 := Int.tdiv_eq_ediv_of_nonneg (by omega)
  have C1 := geomhid fun w => check_yes (48 + 8 * m) m w (by unfold GeomOk; omega)
  have C2 := geomhid (segsSaid_of (S := 48 + 8 * m) (G := m) (n := 8) (by unfold GeomOk; omega) (by rw [show 48 + 8 * m - 48 = 8 * m by omega]; exact Int.mul_ediv_cancel _ (by omega)))
  have C3 := geomhid fun w => check_no (48 + 8 * m - 1) m w (by unfold GeomOk; omega)
  have C4 := geomhid (segsSaid_no (S := 48 + 8 * m - 1) (G := m) (by unfold GeomOk; omega))
  have C5 := geomhid fun w => check_yes 16384 m w (by unfold GeomOk; omega)
  have C6 := geomhid fun w => check_no 16385 m w (by unfold GeomOk; omega)
  have C7 := geomhid fun w => check_no (48 + 8 * m) 31 w (by unfold GeomOk; omega)
  have C8 := geomhid fun w => check_no 16384 65 w (by unfold GeomOk; omega)
  rw [hm] at hr
  have C9 := geomhid fun w => room_mid (48 + 8 * m) m n 0 0 0 0 0 0 r w (by unfold GeomOk; omega) (by omega) (by omega) hr
  have hr1 : 0 ≤ r := by rw [← hr]; exact Int.mul_nonneg (by omega) (by omega)
  have hr2 : r ≤ 60 * 16 := by rw [← hr]; exact Int.mul_le_mul (by omega) (by omega) (by omega) (by decide)
  obtain ⟨k, hk⟩ : ∃ k, n - 4 = k := ⟨_, rfl⟩
  obtain ⟨f, hf⟩ : ∃ f, m / 4 = f := ⟨_, rfl⟩
  rw [hk, hf] at hr
  rw [hf] at hd
  have hk1 : 0 ≤ k := by omega
  have hk2 : k ≤ 56 := by omega
  have hx : max k 0 = k := by omega
  have hf1 : 0 ≤ f := by omega
  have hf2 : f ≤ 16 := by omega
  clear hf hs hn1 hn2
  go_enter Try.func4, Try.ntmps4
  go_wp2_with fail
  refine (P1.out _).mono ?_
  rintro e w1 ⟨rfl, rfl⟩
  clear P1
  go_wp2_with fail
  refine (P2.out _).mono ?_
  rintro e w1 ⟨rfl, rfl⟩
  clear P2
  go_wp2_with fail
  have KK := geomhid (Kept.new (48 + 8 * m) m w)
  generalize w.alloc (.cells #[.int .i64 (48 + 8 * m), .int .i64 m] 24) = w0 at *
  refine (C1.out _).mono ?_
  rintro e w1 ⟨rfl, hb⟩
  replace KK := geomhid (KK.out.on hb)
  clear hb C1
  have c0 := KK.out.c0
  have c1 := KK.out.c1
  go_wp2_with fail
  refine (C2.out _).mono ?_
  rintro e w2 ⟨rfl, hb⟩
  replace KK := geomhid (KK.out.on hb)
  clear hb C2
  clear c0 c1
  have c0 := KK.out.c0
  have c1 := KK.out.c1
  go_wp2_with fail
  refine (C3.out _).mono ?_
  rintro e w3 ⟨rfl, hb⟩
  replace KK := geomhid (KK.out.on hb)
  clear hb C3
  clear c0 c1
  have c0 := KK.out.c0
  have c1 := KK.out.c1
  go_wp2_with fail
  refine (C4.out _).mono ?_
  rintro e w4 ⟨rfl, hb⟩
  replace KK := geomhid (KK.out.on hb)
  clear hb C4
  clear c0 c1
  have c0 := KK.out.c0
  have c1 := KK.out.c1
  go_wp2_with fail
  refine (C5.out _).mono ?_
  rintro e w5 ⟨rfl, hb⟩
  replace KK := geomhid (KK.out.on hb)
  clear hb C5
  clear c0 c1
  have c0 := KK.out.c0
  have c1 := KK.out.c1
  go_wp2_with fail
  refine (C6.out _).mono ?_
  rintro e w6 ⟨rfl, hb⟩
  replace KK := geomhid (KK.out.on hb)
  clear hb C6
  clear c0 c1
  have c0 := KK.out.c0
  have c1 := KK.out.c1
  go_wp2_with fail
  refine (C7.out _).mono ?_
  rintro e w7 ⟨rfl, hb⟩
  replace KK := geomhid (KK.out.on hb)
  clear hb C7
  clear c0 c1
  have c0 := KK.out.c0
  have c1 := KK.out.c1
  go_wp2_with fail
  refine (C8.out _).mono ?_
  rintro e w8 ⟨rfl, hb⟩
  replace KK := geomhid (KK.out.on hb)
  clear hb C8
  clear c0 c1
  have c0 := KK.out.c0
  have c1 := KK.out.c1
  go_wp2_with fail
  refine (C9.out _).mono ?_
  rintro e w9 ⟨rfl, hb⟩
  replace KK := geomhid (KK.out.on hb)
  clear hb C9
  clear c0 c1
  have c0 := KK.out.c0
  have c1 := KK.out.c1
  go_wp2_with fail
  refine (slotAt_no 0 0 _ (by omega)).mono ?_
  rintro e w10 ⟨rfl, rfl⟩
  go_wp2_with fail
  refine (slotAt_yes 16 1 _ (by decide) (by decide) (by decide) (by decide)).mono ?_
  rintro e w10 ⟨rfl, rfl⟩
  go_wp2_with fail
  refine (slotAt_no 17 0 _ (by omega)).mono ?_
  rintro e w10 ⟨rfl, rfl⟩
  go_wp2_with fail
  refine (gawake_t _).mono ?_
  rintro e w11 ⟨rfl, hb⟩
  replace KK := geomhid (KK.out.on hb)
  clear hb
  go_wp2_with fail
  go_ret
  exact ⟨rfl, KK.out.below⟩


theorem geomEdges_t (a b : Int) (w : World) :
    Calls Try.prog 4 #[.int .i64 a, .int .i64 b] w fun e w' => e = .returned (.bool true) ∧ Below w.heap.size w w' := by
  by_cases h : b % 60 ≤ 4
  · exact geomEdges_few a b _ _ w rfl rfl h
  · exact geomEdges_more a b _ _ _ w rfl rfl (by omega) rfl
end Go.Proofs.Ytnglimdapkhjbaa
