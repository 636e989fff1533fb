/- SpanNeeds walked: blocks of pointers of two lots of blocks together. -/
import Derived.Test.YtdkicnpbcljofaaSpanAwake
namespace Go.Proofs.Ytdkicnpbcljofaa
open Go.RowKit Span

set_option maxHeartbeats 1000000 in
theorem spanNeeds_long (a b : Option Addr) (n m c d : Nat) (w : World) (h : 200 < n ∨ 200 < m) :
    Calls Try.prog 6 #[.slice a n c, .slice b m d] w fun e w' => e = .returned (.bool true) ∧ Below w.heap.size w w' := by
  by_cases h1 : 200 < n
  · clear h
    go_enter Try.func6, Try.ntmps6
    go_wp2_with fail
    refine (awake_t _).mono ?_
    rintro e w1 ⟨rfl, hb⟩
    have HB := spanhid hb
    clear hb
    go_wp2_with fail
    go_ret
    exact ⟨rfl, HB.out⟩
  · have h2 : 200 < m := by omega
    have hd : decide (200 < (n : Int)) = false := by simp; omega
    clear h
    go_enter Try.func6, Try.ntmps6
    go_wp2_with fail
    refine (awake_t _).mono ?_
    rintro e w1 ⟨rfl, hb⟩
    have HB := spanhid hb
    clear hb
    go_wp2_with fail
    go_ret
    exact ⟨rfl, HB.out⟩

set_option maxRecDepth 10000 in
set_option maxHeartbeats 8000000 in
theorem spanNeeds_t (a b : Option Addr) (c d : Nat) (xs ys : List Int) (w : World) (hx : Ints w (.slice a xs.length c) xs) (hy : Ints w (.slice b ys.length d) ys) (hxl : xs.length ≤ 9223372036854775807) (hyl : ys.length ≤ 9223372036854775807) :
    Calls Try.prog 6 #[.slice a xs.length c, .slice b ys.length d] w fun e w' => e = .returned (.bool true) ∧ Below w.heap.size w w' := by
  by_cases hlong : 200 < xs.length ∨ 200 < ys.length
  · exact spanNeeds_long a b _ _ c d w hlong
  have hn : xs.length ≤ 200 := by omega
  have hm : ys.length ≤ 200 := by omega
  have HX := spanhid hx
  have HY := spanhid hy
  obtain ⟨x, hxe⟩ : ∃ x, indsL xs = x := ⟨_, rfl⟩
  obtain ⟨y, hye⟩ : ∃ y, indsL ys = y := ⟨_, rfl⟩
  obtain ⟨z, hze⟩ : ∃ z, indsL (xs ++ ys) = z := ⟨_, rfl⟩
  have bx := indsL_bound xs
  have by' := indsL_bound ys
  have bz := indsL_bound (xs ++ ys)
  have ba := indsL_append xs ys
  have HT : Hid (indsL (xs ++ xs) = x) := by show _ = _; rw [indsL_twice, hxe]
  rw [hxe, hze, hye] at ba
  rw [hxe] at bx
  rw [hye] at by'
  rw [hze] at bz
  obtain ⟨q, hq⟩ : ∃ q, max x y = q := ⟨_, rfl⟩
  have k1 : 0 ≤ x := bx.1
  have k2 : x ≤ 10 := bx.2
  have k3 : 0 ≤ y := by'.1
  have k4 : y ≤ 10 := by'.2
  have k5 : z ≤ 10 := bz.2
  have k6 : z ≤ x + y := ba.2.2
  have k7 : q ≤ z := by rw [← hq]; have := ba.1; have := ba.2.1; omega
  have HXE := spanhid hxe
  have HYE := spanhid hye
  have HZE := spanhid hze
  clear hx hy hxe hye hze bx by' bz ba hlong hxl hyl
  have hlx : xs.length ≤ 4611686018427387904 := by omega
  have hly : ys.length ≤ 4611686018427387904 := by omega
  go_enter Try.func6, Try.ntmps6
  go_wp2_with fail
  refine (inds_t _ xs _ HX.out hlx).mono ?_
  rintro e w1 ⟨rfl, hb1⟩
  rw [HXE.out]
  have HB1 := spanhid hb1
  clear hb1
  go_wp2_with fail
  refine (inds_t _ ys _ (HY.out.on HB1.out) hly).mono ?_
  rintro e w2 ⟨rfl, hb2⟩
  rw [HYE.out]
  have HB2 : Hid (Below w.heap.size w w2) := HB1.out.trans (hb2.mono HB1.out.size)
  clear hb2 HB1
  go_wp2_with (first | (refine wpList_append_ints rfl _ _ rfl w.heap.size _ [] rfl (IOwn.nil _ _) _ xs rfl (HX.out.on HB2.out) (by simp; omega) HB2.out.size ?_) | fail)
  intro v3 w3 ho3 hb3 _
  have HO3 := spanhid ho3
  have HB3 : Hid (Below w.heap.size w w3) := HB2.out.trans hb3
  clear ho3 hb3 HB2
  go_wp2_with (first | (refine wpList_append_ints rfl _ _ rfl w.heap.size _ xs rfl HO3.out _ ys rfl (HY.out.on HB3.out) (by omega) HB3.out.size ?_) | fail)
  intro v4 w4 ho4 hb4 _
  have HO4 := spanhid ho4
  have HB4 : Hid (Below w.heap.size w w4) := HB3.out.trans hb4
  clear ho4 hb4 HB3 HO3
  go_wp2_with fail
  refine (inds_t _ (xs ++ ys) _ HO4.out.ints (by rw [List.length_append]; omega)).mono ?_
  rintro e w5 ⟨rfl, hb5⟩
  rw [HZE.out]
  have HB5 : Hid (Below w.heap.size w w5) := HB4.out.trans (hb5.mono HB4.out.size)
  clear hb5 HB4 HO4
  go_wp2_with (first | (refine wpList_append_ints rfl _ _ rfl w.heap.size _ [] rfl (IOwn.nil _ _) _ xs rfl (HX.out.on HB5.out) (by simp; omega) HB5.out.size ?_) | fail)
  intro v6 w6 ho6 hb6 _
  have HO6 := spanhid ho6
  have HB6 : Hid (Below w.heap.size w w6) := HB5.out.trans hb6
  clear ho6 hb6 HB5
  go_wp2_with (first | (refine wpList_append_ints rfl _ _ rfl w.heap.size _ xs rfl HO6.out _ xs rfl (HX.out.on HB6.out) (by omega) HB6.out.size ?_) | fail)
  intro v7 w7 ho7 hb7 _
  have HO7 := spanhid ho7
  have HB7 : Hid (Below w.heap.size w w7) := HB6.out.trans hb7
  clear ho7 hb7 HB6 HO6
  go_wp2_with fail
  refine (inds_t _ (xs ++ xs) _ HO7.out.ints (by rw [List.length_append]; omega)).mono ?_
  rintro e w8 ⟨rfl, hb8⟩
  rw [HT.out]
  have HB8 : Hid (Below w.heap.size w w8) := HB7.out.trans (hb8.mono HB7.out.size)
  clear hb8 HB7 HO7
  go_wp2_with fail
  refine (awake_t _).mono ?_
  rintro e w9 ⟨rfl, hb9⟩
  have HB9 : Hid (Below w.heap.size w w9) := HB8.out.trans (hb9.mono HB8.out.size)
  clear hb9 HB8
  go_wp2_with fail
  go_ret
  exact ⟨rfl, HB9.out⟩
end Go.Proofs.Ytdkicnpbcljofaa
