/- SlotAll walked: any slot, any bytes: the program's answers are the document's. -/
import Derived.Test.YtgpjjbffndmhjaaSlotRefGet
namespace Go.Proofs.Ytgpjjbffndmhjaa
open Go.RowKit Rec Slt

theorem gotV_any (s : ByteArray) : ∃ (a b : Int) (y : Sl) (c : Bool), gotV s = .tuple #[.int .i64 a, .int .i64 b, slotV y, .bool c] := by
  unfold gotV
  cases getB s
  · exact ⟨_, _, _, _, rfl⟩
  · exact ⟨_, _, _, _, rfl⟩

set_option maxRecDepth 10000 in
set_option maxHeartbeats 2000000 in
theorem slotAll_long (h g : Int) (x : Sl) (s : ByteArray) (w : World) (hl : 1000 < s.size) (hs : s.size ≤ 9223372036854775807) :
    Calls Try.prog 3 #[.int .i64 h, .int .i64 g, slotV x, .string s] w fun e w' => e = .returned (.bool true) ∧ Below w.heap.size w w' := by
  have AW := slthid awake_t
  have hl2 : (1000 : Int) < (s.size : Int) := by omega
  obtain ⟨num, life, clock, seg, at_, next, seq, m0, m1, m2, m3, sb, sn⟩ := x
  go_enter Try.func3, Try.ntmps3
  go_wp2_with fail
  refine (AW.out _).mono ?_
  rintro e w1 ⟨rfl, hb1⟩
  have HB1 : Hid (Below w.heap.size w w1) := ((Below.refl _ _).alloc (Nat.le_refl _) _).trans (hb1.mono (by simp))
  clear hb1 AW
  go_wp2_with fail
  go_ret
  exact ⟨rfl, HB1.out⟩

set_option maxRecDepth 20000 in
set_option maxHeartbeats 16000000 in
theorem slotAll_short (h g : Int) (x : Sl) (s : ByteArray) (w : World) (hl : s.size ≤ 1000) :
    Calls Try.prog 3 #[.int .i64 h, .int .i64 g, slotV x, .string s] w fun e w' => e = .returned (.bool true) ∧ Below w.heap.size w w' := by
  have AW := slthid awake_t
  have hl2 : ¬ (1000 : Int) < (s.size : Int) := by omega
  have PUT := slthid (fun w1 => sput_t h g x w1)
  have RPUT := slthid (fun w1 => rput_t h g x w1)
  have CK := slthid (fun w1 => check_t x w1)
  have RCK := slthid (fun w1 => rcheck_t x w1)
  have GET := slthid (fun w1 => sget_t s w1 (by omega))
  have RGET := slthid (fun w1 => rgetall_t s w1)
  obtain ⟨a, b, y, c, hgot⟩ := gotV_any s
  rw [hgot] at GET RGET
  have SAME := slthid (fun w1 => same_t y w1)
  clear hgot
  generalize putS h g x = S at *
  generalize putB h g x = PB at *
  generalize okB x = OK at *
  obtain ⟨num, life, clock, seg, at_, next, seq, m0, m1, m2, m3, sb, sn⟩ := x
  obtain ⟨u0, u1, u2, u3, u4, u5, u6, u7, u8, u9, u10, u11, u12⟩ := y
  go_enter Try.func3, Try.ntmps3
  go_wp2_with fail
  refine (PUT.out _).mono ?_
  rintro e w1 ⟨rfl, hb1⟩
  have HX1 : Hid (w1.heap[w.heap.size]? = some (.cells (slotC ⟨num, life, clock, seg, at_, next, seq, m0, m1, m2, m3, sb, sn⟩) 24 (0, 0))) := by rw [hb1.block _ (by simp)]; exact heap_alloc_new _ _
  have HB1 : Hid (Below w.heap.size w w1) := ((Below.refl _ _).alloc (Nat.le_refl _) _).trans (hb1.mono (by simp))
  have hw1 : w.heap.size < w1.heap.size := by have := hb1.size; simp at this; omega
  clear hb1 PUT
  obtain ⟨x0, x1, x2, x3, x4, x5, x6, x7, x8, x9, x10, x11, x12⟩ := cells13 HX1.out
  go_wp2_with fail
  refine (RPUT.out _).mono ?_
  rintro e w2 ⟨rfl, hb2⟩
  have HX2 : Hid (w2.heap[w.heap.size]? = some (.cells (slotC ⟨num, life, clock, seg, at_, next, seq, m0, m1, m2, m3, sb, sn⟩) 24 (0, 0))) := by rw [hb2.block _ hw1]; exact HX1.out
  have HB2 : Hid (Below w.heap.size w w2) := HB1.out.trans (hb2.mono HB1.out.size)
  have hw2 : w.heap.size < w2.heap.size := by have := hb2.size; omega
  clear hb2 RPUT x0 x1 x2 x3 x4 x5 x6 x7 x8 x9 x10 x11 x12 HX1 HB1
  go_wp2_with fail
  refine (GET.out _).mono ?_
  rintro e w3 ⟨rfl, hb3⟩
  have HX3 : Hid (w3.heap[w.heap.size]? = some (.cells (slotC ⟨num, life, clock, seg, at_, next, seq, m0, m1, m2, m3, sb, sn⟩) 24 (0, 0))) := by rw [hb3.block _ hw2]; exact HX2.out
  have HB3 : Hid (Below w.heap.size w w3) := HB2.out.trans (hb3.mono HB2.out.size)
  have hw3 : w.heap.size < w3.heap.size := by have := hb3.size; omega
  clear hb3 GET HX2 HB2
  go_wp2_with fail
  generalize hV : World.alloc _ _ = V
  have HXV : Hid (V.heap[w.heap.size]? = some (.cells (slotC ⟨num, life, clock, seg, at_, next, seq, m0, m1, m2, m3, sb, sn⟩) 24 (0, 0))) := by rw [← hV]; show _ = _; rw [Below.heap_alloc _ _ _ hw3]; exact HX3.out
  have HYV : Hid (V.heap[w3.heap.size]? = some (.cells (slotC ⟨u0, u1, u2, u3, u4, u5, u6, u7, u8, u9, u10, u11, u12⟩) 24 (0, 0))) := by rw [← hV]; exact heap_alloc_new _ _
  have HBV : Hid (Below w.heap.size w V) := by rw [← hV]; exact HB3.out.alloc HB3.out.size _
  have hwV : w3.heap.size < V.heap.size := by rw [← hV]; simp
  clear hV HX3 HB3
  refine (RGET.out _).mono ?_
  rintro e w4 ⟨rfl, hb4⟩
  have HX4 : Hid (w4.heap[w.heap.size]? = some (.cells (slotC ⟨num, life, clock, seg, at_, next, seq, m0, m1, m2, m3, sb, sn⟩) 24 (0, 0))) := by rw [hb4.block _ (by omega)]; exact HXV.out
  have HY4 : Hid (w4.heap[w3.heap.size]? = some (.cells (slotC ⟨u0, u1, u2, u3, u4, u5, u6, u7, u8, u9, u10, u11, u12⟩) 24 (0, 0))) := by rw [hb4.block _ hwV]; exact HYV.out
  have HB4 : Hid (Below w.heap.size w w4) := HBV.out.trans (hb4.mono HBV.out.size)
  have hw4 : w3.heap.size < w4.heap.size := by have := hb4.size; omega
  clear hb4 RGET HXV HYV HBV hwV
  go_wp2_with fail
  generalize hU : World.alloc _ _ = U
  have HXU : Hid (U.heap[w.heap.size]? = some (.cells (slotC ⟨num, life, clock, seg, at_, next, seq, m0, m1, m2, m3, sb, sn⟩) 24 (0, 0))) := by rw [← hU]; show _ = _; rw [Below.heap_alloc _ _ _ (by omega)]; exact HX4.out
  have HYU : Hid (U.heap[w3.heap.size]? = some (.cells (slotC ⟨u0, u1, u2, u3, u4, u5, u6, u7, u8, u9, u10, u11, u12⟩) 24 (0, 0))) := by rw [← hU]; show _ = _; rw [Below.heap_alloc _ _ _ hw4]; exact HY4.out
  have HZU : Hid (U.heap[w4.heap.size]? = some (.cells (slotC ⟨u0, u1, u2, u3, u4, u5, u6, u7, u8, u9, u10, u11, u12⟩) 24 (0, 0))) := by rw [← hU]; exact heap_alloc_new _ _
  have HBU : Hid (Below w.heap.size w U) := by rw [← hU]; exact HB4.out.alloc HB4.out.size _
  have hwU : w4.heap.size < U.heap.size := by rw [← hU]; simp
  clear hU HX4 HY4 HB4 hw1 hw2
  obtain ⟨x0, x1, x2, x3, x4, x5, x6, x7, x8, x9, x10, x11, x12⟩ := cells13 HXU.out
  obtain ⟨y0, y1, y2, y3, y4, y5, y6, y7, y8, y9, y10, y11, y12⟩ := cells13 HYU.out
  obtain ⟨z0, z1, z2, z3, z4, z5, z6, z7, z8, z9, z10, z11, z12⟩ := cells13 HZU.out
  have hp : Below U.heap.size U U := Below.refl _ _
  go_region_held3 (fun w' => w'.cell? ⟨w.heap.size, 0, none⟩ = some (.int .i64 num) ∧ w'.cell? ⟨w.heap.size, 1, none⟩ = some (.int .i64 life) ∧ w'.cell? ⟨w.heap.size, 2, none⟩ = some (.int .i64 clock) ∧ w'.cell? ⟨w.heap.size, 3, none⟩ = some (.int .i64 seg) ∧ w'.cell? ⟨w.heap.size, 4, none⟩ = some (.int .i64 at_) ∧ w'.cell? ⟨w.heap.size, 5, none⟩ = some (.int .i64 next) ∧ w'.cell? ⟨w.heap.size, 6, none⟩ = some (.int .i64 seq) ∧ w'.cell? ⟨w.heap.size, 7, none⟩ = some (.int .i64 m0) ∧ w'.cell? ⟨w.heap.size, 8, none⟩ = some (.int .i64 m1) ∧ w'.cell? ⟨w.heap.size, 9, none⟩ = some (.int .i64 m2) ∧ w'.cell? ⟨w.heap.size, 10, none⟩ = some (.int .i64 m3) ∧ w'.cell? ⟨w.heap.size, 11, none⟩ = some (.int .i64 sb) ∧ w'.cell? ⟨w.heap.size, 12, none⟩ = some (.int .i64 sn) ∧ w'.cell? ⟨w3.heap.size, 0, none⟩ = some (.int .i64 u0) ∧ w'.cell? ⟨w3.heap.size, 1, none⟩ = some (.int .i64 u1) ∧ w'.cell? ⟨w3.heap.size, 2, none⟩ = some (.int .i64 u2) ∧ w'.cell? ⟨w3.heap.size, 3, none⟩ = some (.int .i64 u3) ∧ w'.cell? ⟨w3.heap.size, 4, none⟩ = some (.int .i64 u4) ∧ w'.cell? ⟨w3.heap.size, 5, none⟩ = some (.int .i64 u5) ∧ w'.cell? ⟨w3.heap.size, 6, none⟩ = some (.int .i64 u6) ∧ w'.cell? ⟨w3.heap.size, 7, none⟩ = some (.int .i64 u7) ∧ w'.cell? ⟨w3.heap.size, 8, none⟩ = some (.int .i64 u8) ∧ w'.cell? ⟨w3.heap.size, 9, none⟩ = some (.int .i64 u9) ∧ w'.cell? ⟨w3.heap.size, 10, none⟩ = some (.int .i64 u10) ∧ w'.cell? ⟨w3.heap.size, 11, none⟩ = some (.int .i64 u11) ∧ w'.cell? ⟨w3.heap.size, 12, none⟩ = some (.int .i64 u12) ∧ w'.cell? ⟨w4.heap.size, 0, none⟩ = some (.int .i64 u0) ∧ w'.cell? ⟨w4.heap.size, 1, none⟩ = some (.int .i64 u1) ∧ w'.cell? ⟨w4.heap.size, 2, none⟩ = some (.int .i64 u2) ∧ w'.cell? ⟨w4.heap.size, 3, none⟩ = some (.int .i64 u3) ∧ w'.cell? ⟨w4.heap.size, 4, none⟩ = some (.int .i64 u4) ∧ w'.cell? ⟨w4.heap.size, 5, none⟩ = some (.int .i64 u5) ∧ w'.cell? ⟨w4.heap.size, 6, none⟩ = some (.int .i64 u6) ∧ w'.cell? ⟨w4.heap.size, 7, none⟩ = some (.int .i64 u7) ∧ w'.cell? ⟨w4.heap.size, 8, none⟩ = some (.int .i64 u8) ∧ w'.cell? ⟨w4.heap.size, 9, none⟩ = some (.int .i64 u9) ∧ w'.cell? ⟨w4.heap.size, 10, none⟩ = some (.int .i64 u10) ∧ w'.cell? ⟨w4.heap.size, 11, none⟩ = some (.int .i64 u11) ∧ w'.cell? ⟨w4.heap.size, 12, none⟩ = some (.int .i64 u12)) (first | go_keep)
    (first
      | (go_at_call 12; refine (CK.out _).mono ?_; rintro e q1 ⟨rfl, qb⟩; have hp := hp.trans (Below.mono (show Below _ _ q1 from ⟨qb.os, qb.tape, qb.output, qb.size, qb.block⟩) hp.size); obtain ⟨x0, x1, x2, x3, x4, x5, x6, x7, x8, x9, x10, x11, x12⟩ := cells13 (show q1.heap[w.heap.size]? = some (.cells (slotC ⟨num, life, clock, seg, at_, next, seq, m0, m1, m2, m3, sb, sn⟩) 24 (0, 0)) by rw [hp.block _ (by omega)]; exact HXU.out); obtain ⟨y0, y1, y2, y3, y4, y5, y6, y7, y8, y9, y10, y11, y12⟩ := cells13 (show q1.heap[w3.heap.size]? = some (.cells (slotC ⟨u0, u1, u2, u3, u4, u5, u6, u7, u8, u9, u10, u11, u12⟩) 24 (0, 0)) by rw [hp.block _ (by omega)]; exact HYU.out); obtain ⟨z0, z1, z2, z3, z4, z5, z6, z7, z8, z9, z10, z11, z12⟩ := cells13 (show q1.heap[w4.heap.size]? = some (.cells (slotC ⟨u0, u1, u2, u3, u4, u5, u6, u7, u8, u9, u10, u11, u12⟩) 24 (0, 0)) by rw [hp.block _ (by omega)]; exact HZU.out))
      | (go_at_call 13; refine (RCK.out _).mono ?_; rintro e q1 ⟨rfl, qb⟩; have hp := hp.trans (Below.mono (show Below _ _ q1 from ⟨qb.os, qb.tape, qb.output, qb.size, qb.block⟩) hp.size); obtain ⟨x0, x1, x2, x3, x4, x5, x6, x7, x8, x9, x10, x11, x12⟩ := cells13 (show q1.heap[w.heap.size]? = some (.cells (slotC ⟨num, life, clock, seg, at_, next, seq, m0, m1, m2, m3, sb, sn⟩) 24 (0, 0)) by rw [hp.block _ (by omega)]; exact HXU.out); obtain ⟨y0, y1, y2, y3, y4, y5, y6, y7, y8, y9, y10, y11, y12⟩ := cells13 (show q1.heap[w3.heap.size]? = some (.cells (slotC ⟨u0, u1, u2, u3, u4, u5, u6, u7, u8, u9, u10, u11, u12⟩) 24 (0, 0)) by rw [hp.block _ (by omega)]; exact HYU.out); obtain ⟨z0, z1, z2, z3, z4, z5, z6, z7, z8, z9, z10, z11, z12⟩ := cells13 (show q1.heap[w4.heap.size]? = some (.cells (slotC ⟨u0, u1, u2, u3, u4, u5, u6, u7, u8, u9, u10, u11, u12⟩) 24 (0, 0)) by rw [hp.block _ (by omega)]; exact HZU.out))
      | (go_at_call 14; refine (SAME.out _).mono ?_; rintro e q1 ⟨rfl, qb⟩; have hp := hp.trans (Below.mono (show Below _ _ q1 from ⟨qb.os, qb.tape, qb.output, qb.size, qb.block⟩) hp.size); obtain ⟨x0, x1, x2, x3, x4, x5, x6, x7, x8, x9, x10, x11, x12⟩ := cells13 (show q1.heap[w.heap.size]? = some (.cells (slotC ⟨num, life, clock, seg, at_, next, seq, m0, m1, m2, m3, sb, sn⟩) 24 (0, 0)) by rw [hp.block _ (by omega)]; exact HXU.out); obtain ⟨y0, y1, y2, y3, y4, y5, y6, y7, y8, y9, y10, y11, y12⟩ := cells13 (show q1.heap[w3.heap.size]? = some (.cells (slotC ⟨u0, u1, u2, u3, u4, u5, u6, u7, u8, u9, u10, u11, u12⟩) 24 (0, 0)) by rw [hp.block _ (by omega)]; exact HYU.out); obtain ⟨z0, z1, z2, z3, z4, z5, z6, z7, z8, z9, z10, z11, z12⟩ := cells13 (show q1.heap[w4.heap.size]? = some (.cells (slotC ⟨u0, u1, u2, u3, u4, u5, u6, u7, u8, u9, u10, u11, u12⟩) 24 (0, 0)) by rw [hp.block _ (by omega)]; exact HZU.out))
      | (go_at_call 7; refine (AW.out _).mono ?_; rintro e q1 ⟨rfl, qb⟩; have hp := hp.trans (Below.mono (show Below _ _ q1 from ⟨qb.os, qb.tape, qb.output, qb.size, qb.block⟩) hp.size); obtain ⟨x0, x1, x2, x3, x4, x5, x6, x7, x8, x9, x10, x11, x12⟩ := cells13 (show q1.heap[w.heap.size]? = some (.cells (slotC ⟨num, life, clock, seg, at_, next, seq, m0, m1, m2, m3, sb, sn⟩) 24 (0, 0)) by rw [hp.block _ (by omega)]; exact HXU.out); obtain ⟨y0, y1, y2, y3, y4, y5, y6, y7, y8, y9, y10, y11, y12⟩ := cells13 (show q1.heap[w3.heap.size]? = some (.cells (slotC ⟨u0, u1, u2, u3, u4, u5, u6, u7, u8, u9, u10, u11, u12⟩) 24 (0, 0)) by rw [hp.block _ (by omega)]; exact HYU.out); obtain ⟨z0, z1, z2, z3, z4, z5, z6, z7, z8, z9, z10, z11, z12⟩ := cells13 (show q1.heap[w4.heap.size]? = some (.cells (slotC ⟨u0, u1, u2, u3, u4, u5, u6, u7, u8, u9, u10, u11, u12⟩) 24 (0, 0)) by rw [hp.block _ (by omega)]; exact HZU.out)))
  have HBq : Hid (Below w.heap.size w q1) := HBU.out.trans (hp.mono HBU.out.size)
  clear hp
  go_wp2_with fail
  go_ret
  exact ⟨rfl, HBq.out⟩

theorem slotAll_t (h g : Int) (x : Sl) (s : ByteArray) (w : World) (hs : s.size ≤ 9223372036854775807) :
    Calls Try.prog 3 #[.int .i64 h, .int .i64 g, slotV x, .string s] w fun e w' => e = .returned (.bool true) ∧ Below w.heap.size w w' := by
  by_cases hl : 1000 < s.size
  · exact slotAll_long h g x s w hl hs
  · exact slotAll_short h g x s w (by omega)
end Go.Proofs.Ytgpjjbffndmhjaa
