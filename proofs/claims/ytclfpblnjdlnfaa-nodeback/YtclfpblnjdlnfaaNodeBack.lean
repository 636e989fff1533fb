/- NodeBack walked: what is put is got; with a bit turned it is none. -/
import Derived.Test.YtclfpblnjdlnfaaNodeSame
import Derived.Test.YtclfpblnjdlnfaaTurned
namespace Go.Proofs.Ytclfpblnjdlnfaa
open Go.RowKit Rec Nod

set_option maxRecDepth 10000 in
set_option maxHeartbeats 4000000 in
theorem nodeBack_no (x : Nd) (bit : Int) (w : World) (hok : okB x = false) :
    Calls Try.prog 4 #[nodeV x, .int .i64 bit] w fun e w' => e = .returned (.bool true) ∧ Below w.heap.size w w' := by
  have PUT := ndhid (fun w1 => nput_t x w1)
  have hps : putS x = ⟨#[]⟩ := by rw [putS, hok]; rfl
  rw [hok, hps] at PUT
  have CK := ndhid (fun w1 => check_t x w1)
  rw [hok] at CK
  have AW := ndhid awake_t
  clear hps hok
  go_enter Try.func4, Try.ntmps4
  go_wp2_with (first | (refine wpList_load_row rfl 24 (.tmp 2) rfl w.heap.size rfl 24 (nodeC x) (0, 0) _ (heap_alloc_new _ _) Try.underlying24 rfl Try.nodeSize ?_) | fail)
  refine (PUT.out _).mono ?_
  rintro e w1 ⟨rfl, hb1⟩
  have HX1 : Hid (w1.heap[w.heap.size]? = some (.cells (nodeC x) 24 (0, 0))) := by show _ = _; rw [hb1.block _ (by simp)]; exact heap_alloc_new _ _
  have HB1 : Hid (Below w.heap.size w w1) := ((Below.refl _ _).alloc (Nat.le_refl _) _).trans (hb1.mono (by simp))
  have hw1 : w.heap.size < w1.heap.size := by have := hb1.size; simp at this; omega
  clear hb1 PUT
  go_wp2_with (first | (refine wpList_load_row rfl 24 (.tmp 2) rfl w.heap.size rfl 24 (nodeC x) (0, 0) _ HX1.out Try.underlying24 rfl Try.nodeSize ?_) | fail)
  refine (CK.out _).mono ?_
  rintro e w2 ⟨rfl, hb2⟩
  have HX2 : Hid (w2.heap[w.heap.size]? = some (.cells (nodeC x) 24 (0, 0))) := by show _ = _; rw [hb2.block _ hw1]; exact HX1.out
  have HB2 : Hid (Below w.heap.size w w2) := HB1.out.trans (hb2.mono HB1.out.size)
  have hw2 : w.heap.size < w2.heap.size := by have := hb2.size; omega
  clear hb2 HX1 HB1 CK
  go_wp2_with fail
  refine (AW.out _).mono ?_
  rintro e w3 ⟨rfl, hb3⟩
  have HB3 : Hid (Below w.heap.size w w3) := HB2.out.trans (hb3.mono HB2.out.size)
  clear hb3 HB2 HX2 AW
  go_wp2_with fail
  go_ret
  exact ⟨rfl, HB3.out⟩

set_option maxRecDepth 10000 in
set_option maxHeartbeats 8000000 in
theorem nodeBack_yes (x : Nd) (bit : Int) (w : World) (hok : okB x = true) :
    Calls Try.prog 4 #[nodeV x, .int .i64 bit] w fun e w' => e = .returned (.bool true) ∧ Below w.heap.size w w' := by
  have r0 := Int.emod_nonneg bit (show (2048 : Int) ≠ 0 by decide)
  have r1 := Int.emod_lt_of_pos bit (show (0 : Int) < 2048 by decide)
  have PLq := ndhid (fun w => gplace_t bit 2048 w (by decide) (by decide))
  obtain ⟨q, hq⟩ : ∃ q : Nat, bit % 2048 = (q : Int) := ⟨(bit % 2048).toNat, by omega⟩
  rw [hq] at PLq r0 r1
  have hq2 : q < 2048 := by omega
  clear hq r0 r1
  have PUT := ndhid (fun w1 => nput_t x w1)
  rw [hok] at PUT
  have CK := ndhid (fun w1 => check_t x w1)
  rw [hok] at CK
  have GET := ndhid (fun w1 => rget_t x w1 hok)
  have SAME := ndhid (fun w1 => same_t x w1)
  have AW := ndhid awake_t
  have HTB := ndhid (putS_list hok)
  have hsz := putS_size hok
  have hsz2 : ((putS x).size : Int) = 256 := by rw [hsz]; rfl
  have HSZ := ndhid hsz
  have TURN : Hid (∀ (s : ByteArray) (i : Nat) (y : UInt8) (hi : i < (nbytes x).length), y ≠ (nbytes x)[i] → s.data.toList = (nbytes x).set i y → getB s = false) := fun s i y hi h1 h2 => get_turned hi h1 h2
  rw [← HTB.out] at TURN
  clear hsz hok HTB
  generalize putS x = S at *
  go_enter Try.func4, Try.ntmps4
  go_wp2_with (first | (refine wpList_load_row rfl 24 (.tmp 2) rfl w.heap.size rfl 24 (nodeC x) (0, 0) _ (heap_alloc_new _ _) Try.underlying24 rfl Try.nodeSize ?_) | fail)
  refine (PUT.out _).mono ?_
  rintro e w1 ⟨rfl, hb1⟩
  have HX1 : Hid (w1.heap[w.heap.size]? = some (.cells (nodeC x) 24 (0, 0))) := by show _ = _; rw [hb1.block _ (by simp)]; exact heap_alloc_new _ _
  have HB1 : Hid (Below w.heap.size w w1) := ((Below.refl _ _).alloc (Nat.le_refl _) _).trans (hb1.mono (by simp))
  have hw1 : w.heap.size < w1.heap.size := by have := hb1.size; simp at this; omega
  clear hb1 PUT
  go_wp2_with (first | (refine wpList_load_row rfl 24 (.tmp 2) rfl w.heap.size rfl 24 (nodeC x) (0, 0) _ HX1.out Try.underlying24 rfl Try.nodeSize ?_) | fail)
  refine (CK.out _).mono ?_
  rintro e w2 ⟨rfl, hb2⟩
  have HX2 : Hid (w2.heap[w.heap.size]? = some (.cells (nodeC x) 24 (0, 0))) := by show _ = _; rw [hb2.block _ hw1]; exact HX1.out
  have HB2 : Hid (Below w.heap.size w w2) := HB1.out.trans (hb2.mono HB1.out.size)
  have hw2 : w.heap.size < w2.heap.size := by have := hb2.size; omega
  clear hb2 HX1 HB1 CK
  go_wp2_with fail
  refine (GET.out _).mono ?_
  rintro e w3 ⟨rfl, hb3⟩
  have HX3 : Hid (w3.heap[w.heap.size]? = some (.cells (nodeC x) 24 (0, 0))) := by show _ = _; rw [hb3.block _ hw2]; exact HX2.out
  have HB3 : Hid (Below w.heap.size w w3) := HB2.out.trans (hb3.mono HB2.out.size)
  have hw3 : w.heap.size < w3.heap.size := by have := hb3.size; omega
  clear hb3 HX2 HB2 GET
  have HX3a : Hid (∀ o, (w3.alloc o).heap[w.heap.size]? = some (.cells (nodeC x) 24 (0, 0))) := fun o => by rw [Below.heap_alloc _ _ _ hw3]; exact HX3.out
  go_wp2_with (first | (refine wpList_store_row rfl 24 (.tmp 7) (.tmp 33) rfl w3.heap.size (nodeC x) rfl rfl 24 (nodeC Nd.z) (heap_alloc_new _ _) Try.nodeSize rfl (nodeC_one x) ?_; rw [World.setRow_alloc_new]) | (refine wpList_load_any rfl 24 (.tmp 7) rfl w3.heap.size rfl 24 (nodeC x) (0, 0) _ (heap_alloc_new _ _) Try.underlying24 rfl Try.nodeSize ?_) | (refine wpList_load_any rfl 24 (.tmp 2) rfl w.heap.size rfl 24 (nodeC x) (0, 0) _ (HX3a.out _) Try.underlying24 rfl Try.nodeSize ?_) | fail)
  refine (SAME.out _).mono ?_
  rintro e w4 ⟨rfl, hb4⟩
  have HB4 : Hid (Below w.heap.size w w4) := (HB3.out.alloc HB3.out.size _).trans (hb4.mono (by have := HB3.out.size; simp; omega))
  clear hb4 HX3 HX3a HB3 SAME
  have hcv := run_bytes_of_string (P := Try.prog) w4 9 33 5 S Try.underlying9 Try.underlying33 Try.underlying5
  generalize grownCap w4 S.size 0 5 = gc at *
  obtain ⟨D, hD⟩ : ∃ D, D = w4.drew.alloc (.cells (bytesRow S gc) 5 ((bytesRow S gc).size, (bytesRow S gc).size + 1)) := ⟨_, rfl⟩
  rw [← hD] at hcv
  have HDB : Hid (Below w4.heap.size w4 D) := by rw [hD]; exact ((Below.refl _ w4).drew).alloc (Nat.le_refl _) _
  have HDR : Hid (D.heap[w4.heap.size]? = some (.cells (bytesRow S gc) 5 ((bytesRow S gc).size, (bytesRow S gc).size + 1))) := by
    rw [hD]
    exact heap_alloc_new _ _
  clear hD
  rw [HSZ.out] at hcv
  go_wp2_with fail
  refine (PLq.out _).mono ?_
  rintro e w' ⟨rfl, rfl⟩
  clear PLq
  have hql : q / 8 < S.data.toList.length := by
    have := HSZ.out
    have e : S.data.toList.length = S.size := by simp
    omega
  have hx := brow_cell HDR.out (q / 8) hql
  have hxf := brow_frozen HDR.out (q / 8) (by have := HSZ.out; omega)
  obtain ⟨x, hxx⟩ : ∃ x : UInt8, x = S.data.toList[q / 8] := ⟨_, rfl⟩
  rw [← hxx] at hx
  have HXE := ndhid hxx
  clear hxx
  go_wp2_with fail
  rw [turn_bit]
  obtain ⟨y, hy⟩ : ∃ y : UInt8, y = x ^^^ UInt8.ofNat (2 ^ (q % 8) % 256) := ⟨_, rfl⟩
  rw [← hy]
  have hyx : y ≠ x := by rw [hy]; exact turn_other x _ (Nat.mod_lt _ (by decide))
  clear hy
  generalize hE : World.setCell _ _ _ = E
  have HEB : Hid (Below w4.heap.size w4 E) := by rw [← hE]; exact HDB.out.setCell (Nat.le_refl _) _
  have HBE : Hid (Below w.heap.size w E) := HB4.out.trans (HEB.out.mono HB4.out.size)
  have hlen : (S.data.toList.set (q / 8) y).length = 256 := by
    have := HSZ.out
    rw [List.length_set]
    simpa using this
  have hcb := run_convert_bytes_back (P := Try.prog) E 33 9 5 ⟨w4.heap.size, 0, none⟩ gc (S.data.toList.set (q / 8) y) Try.underlying33 Try.underlying5 Try.underlying9 (fun j hj => by
    have hj2 : j < S.data.toList.length := by rw [List.length_set] at hj; exact hj
    rw [addr_plain, Nat.zero_add, ← hE, List.getElem_set]
    by_cases hjq : q / 8 = j
    · subst hjq
      rw [if_pos rfl]
      exact World.cell?_setCell_same' _ _ _ (by rw [hx]; rfl)
    · rw [if_neg hjq]
      exact (World.cell?_setCell_other _ _ _ _ (by intro h; cases h; exact hjq rfl)).trans (brow_cell HDR.out j hj2))
  rw [hlen] at hcb
  have hno : getB ⟨(S.data.toList.set (q / 8) y).toArray⟩ = false := TURN.out _ (q / 8) y hql (by rw [← HXE.out]; exact hyx) (by simp)
  have hs2 : (⟨(S.data.toList.set (q / 8) y).toArray⟩ : ByteArray).size ≤ 9223372036854775807 := by
    show (S.data.toList.set (q / 8) y).toArray.size ≤ _
    rw [List.size_toArray, hlen]
    decide
  generalize (⟨(S.data.toList.set (q / 8) y).toArray⟩ : ByteArray) = S2 at *
  have GNO := ndhid (fun w6 => nog_t S2 w6 hno hs2)
  clear hE hx hxf hyx hno HXE TURN HDR HDB HB4 HEB hql hlen hcv hs2
  rw [hcb]
  clear hcb
  go_wp2_with fail
  refine (GNO.out _).mono ?_
  rintro e w5 ⟨rfl, hb5⟩
  have HB6 : Hid (Below w.heap.size w w5) := HBE.out.trans (hb5.mono HBE.out.size)
  clear hb5 HBE GNO
  go_wp2_with (first | (refine wpList_store_row rfl 24 (.tmp 11) (.tmp 77) rfl w5.heap.size (nodeC Nd.z) rfl rfl 24 (nodeC Nd.z) (heap_alloc_new _ _) Try.nodeSize rfl (nodeC_one Nd.z) ?_; rw [World.setRow_alloc_new]) | fail)
  refine (AW.out _).mono ?_
  rintro e w8 ⟨rfl, hb8⟩
  have HB9 : Hid (Below w.heap.size w w8) := (HB6.out.alloc HB6.out.size _).trans (hb8.mono (by have := HB6.out.size; simp; omega))
  clear hb8 HB6 AW
  go_wp2_with fail
  go_ret
  exact ⟨rfl, HB9.out⟩

theorem nodeBack_t (x : Nd) (bit : Int) (w : World) :
    Calls Try.prog 4 #[nodeV x, .int .i64 bit] w fun e w' => e = .returned (.bool true) ∧ Below w.heap.size w w' := by
  cases h : okB x
  · exact nodeBack_no x bit w h
  · exact nodeBack_yes x bit w h
end Go.Proofs.Ytclfpblnjdlnfaa
