/- SpanAll walked: any numbers, any bytes: the program's answers are the document's. -/
import Derived.Test.YtdkicnpbcljofaaSpanAwake
import Derived.Test.YtdkicnpbcljofaaSpanRefInds
import Derived.Test.YtdkicnpbcljofaaSpanRefPtr
import Derived.Test.YtdkicnpbcljofaaSpanSame
namespace Go.Proofs.Ytdkicnpbcljofaa
open Go.RowKit Span

set_option maxHeartbeats 1000000 in
theorem spanAll_long (i : Int) (a : Option Addr) (n c : Nat) (s : ByteArray) (w : World) (h : 700 < n ∨ 1000 < s.size) :
    Calls Try.prog 3 #[.int .i64 i, .slice a n c, .string s] w fun e w' => e = .returned (.bool true) ∧ Below w.heap.size w w' := by
  by_cases h1 : 700 < n
  · clear h
    go_enter Try.func3, Try.ntmps3
    go_wp2_with fail
    refine (awake_t _).mono ?_
    rintro e w1 ⟨rfl, hb⟩
    have HB := spanhid hb
    clear hb
    go_wp2_with fail
    go_ret
    exact ⟨rfl, HB.out⟩
  · have h2 : 1000 < s.size := by omega
    have hd : decide (700 < (n : Int)) = false := by simp; omega
    clear h
    go_enter Try.func3, Try.ntmps3
    go_wp2_with fail
    refine (awake_t _).mono ?_
    rintro e w1 ⟨rfl, hb⟩
    have HB := spanhid hb
    clear hb
    go_wp2_with fail
    go_ret
    exact ⟨rfl, HB.out⟩

set_option maxRecDepth 10000 in
set_option maxHeartbeats 8000000 in
theorem spanAll_t (i : Int) (a : Option Addr) (c : Nat) (xs : List Int) (s : ByteArray) (w : World) (hx : Ints w (.slice a xs.length c) xs) (hxl : xs.length ≤ 9223372036854775807) (hxr : ∀ x ∈ xs, -9223372036854775808 ≤ x ∧ x ≤ 9223372036854775807) (hs : s.size ≤ 9223372036854775807) :
    Calls Try.prog 3 #[.int .i64 i, .slice a xs.length c, .string s] w fun e w' => e = .returned (.bool true) ∧ Below w.heap.size w w' := by
  by_cases hlong : 700 < xs.length ∨ 1000 < s.size
  · exact spanAll_long i a _ c s w hlong
  have hn : xs.length ≤ 700 := by omega
  have hm : s.size ≤ 1000 := by omega
  have hlx : xs.length ≤ 4611686018427387904 := by omega
  have HX := spanhid hx
  have HR := spanhid hxr
  have HLP : Hid ((ptrsOf s).length ≤ 9223372036854775807) := by have := ptrsOf_length s; show _ ≤ _; omega
  obtain ⟨k, d, f, g, hw⟩ := wayV_some i
  have WAY := spanhid (fun w => way_t i w)
  have RWAY := spanhid (fun w => rway_t i w)
  rw [hw] at WAY RWAY
  have BL := spanhid (fun w => blocks_t i w)
  have RBL := spanhid (fun w => rblocks_t i w)
  have INDS : Hid (∀ v w1, Ints w1 v xs → Calls Try.prog 10 #[v] w1 fun e w' => e = .returned (.int .i64 (indsL xs)) ∧ Below w1.heap.size w1 w') := fun v w1 h => inds_t v xs w1 h hlx
  have RINDS : Hid (∀ v w1, Ints w1 v xs → Calls Try.prog 11 #[v] w1 fun e w' => e = .returned (.int .i64 (indsL xs)) ∧ Below w1.heap.size w1 w') := fun v w1 h => rinds_t v xs w1 h hlx
  have BYT : Hid (∀ v w1, Ints w1 v xs → Calls Try.prog 17 #[v] w1 fun e w' => e = .returned (.string (bytesS xs)) ∧ Below w1.heap.size w1 w') := fun v w1 h => bytes_t v xs w1 h hlx
  have RBYT : Hid (∀ v w1, Ints w1 v xs → Calls Try.prog 18 #[v] w1 fun e w' => e = .returned (.string (bytesS xs)) ∧ Below w1.heap.size w1 w') := fun v w1 h => rbytes_t v xs w1 h hlx HR.out
  generalize indsL xs = ix at *
  generalize bytesS xs = T at *
  generalize blocks i = bl at *
  clear hx hxr hw hlong hxl HR
  go_enter Try.func3, Try.ntmps3
  go_wp2_with fail
  refine (WAY.out _).mono ?_
  rintro e w1 ⟨rfl, rfl⟩
  clear WAY
  go_wp2_with fail
  refine (RWAY.out _).mono ?_
  rintro e w1 ⟨rfl, rfl⟩
  clear RWAY
  go_wp2_with (first | (refine wpList_append_ints rfl _ _ rfl w.heap.size _ [] rfl (IOwn.nil _ _) _ xs rfl HX.out (by simp; omega) (Nat.le_refl _) ?_) | fail)
  intro v1 w1 ho1 hb1 _
  have HO1 := spanhid ho1
  have HB1 : Hid (Below w.heap.size w w1) := hb1
  clear ho1 hb1
  go_wp2_with fail
  refine (INDS.out _ _ HO1.out.ints).mono ?_
  rintro e w2 ⟨rfl, hb2⟩
  have HB2 : Hid (Below w.heap.size w w2) := HB1.out.trans (hb2.mono HB1.out.size)
  clear hb2 HB1 HO1 INDS
  go_wp2_with fail
  refine (RINDS.out _ _ (HX.out.on HB2.out)).mono ?_
  rintro e w3 ⟨rfl, hb3⟩
  have HB3 : Hid (Below w.heap.size w w3) := HB2.out.trans (hb3.mono HB2.out.size)
  clear hb3 HB2 RINDS
  go_wp2_with fail
  refine (BL.out _).mono ?_
  rintro e w4 ⟨rfl, rfl⟩
  go_wp2_with fail
  refine (RBL.out _).mono ?_
  rintro e w4 ⟨rfl, rfl⟩
  clear BL RBL
  go_wp2_with fail
  refine (pointers_t s _ (by omega)).mono ?_
  rintro e w4 ⟨⟨p4, rfl, hp4⟩, hb4⟩
  have HB4 : Hid (Below w.heap.size w w4) := HB3.out.trans (hb4.mono HB3.out.size)
  have HP4 := spanhid hp4
  clear hb4 HB3 hp4
  go_wp2_with fail
  refine (rpointers_t s _ (by omega)).mono ?_
  rintro e w5 ⟨⟨p5, rfl, hp5⟩, hb5⟩
  have HB5 : Hid (Below w.heap.size w w5) := HB4.out.trans (hb5.mono HB4.out.size)
  have HQ5 := spanhid hp5
  have HP5 := spanhid (HP4.out.on hb5)
  clear hb5 HB4 hp5 HP4
  go_wp2_with fail
  refine (sameInts_t _ _ (ptrsOf s) (ptrsOf s) _ HLP.out HP5.out HQ5.out).mono ?_
  rintro e w6 ⟨rfl, hb6⟩
  have HB6 : Hid (Below w.heap.size w w6) := HB5.out.trans (hb6.mono HB5.out.size)
  rw [show decide (ptrsOf s = ptrsOf s) = true from decide_eq_true rfl]
  clear hb6 HB5 HQ5 HP5
  go_wp2_with (first | (refine wpList_append_ints rfl _ _ rfl w.heap.size _ [] rfl (IOwn.nil _ _) _ xs rfl (HX.out.on HB6.out) (by simp; omega) HB6.out.size ?_) | fail)
  intro v7 w7 ho7 hb7 _
  have HO7 := spanhid ho7
  have HB7 : Hid (Below w.heap.size w w7) := HB6.out.trans hb7
  clear ho7 hb7 HB6
  go_wp2_with fail
  refine (BYT.out _ _ HO7.out.ints).mono ?_
  rintro e w8 ⟨rfl, hb8⟩
  have HB8 : Hid (Below w.heap.size w w8) := HB7.out.trans (hb8.mono HB7.out.size)
  clear hb8 HB7 HO7 BYT
  go_wp2_with fail
  refine (RBYT.out _ _ (HX.out.on HB8.out)).mono ?_
  rintro e w9 ⟨rfl, hb9⟩
  have HB9 : Hid (Below w.heap.size w w9) := HB8.out.trans (hb9.mono HB8.out.size)
  clear hb9 HB8 RBYT
  go_wp2_with fail
  refine (awake_t _).mono ?_
  rintro e w10 ⟨rfl, hb10⟩
  have HB10 : Hid (Below w.heap.size w w10) := HB9.out.trans (hb10.mono HB9.out.size)
  clear hb10 HB9
  go_wp2_with fail
  go_ret
  exact ⟨rfl, HB10.out⟩
end Go.Proofs.Ytdkicnpbcljofaa
