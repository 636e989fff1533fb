/- A node's bytes: Put walked, whole. -/
import Derived.Test.YtclfpblnjdlnfaaNodePut
namespace Go.Proofs.Ytclfpblnjdlnfaa
open Go.RowKit Rec Nod

set_option maxRecDepth 10000 in
set_option maxHeartbeats 2000000 in
theorem put_yes (x : Nd) (w : World) (hok : okB x = true) :
    Calls Try.prog 8 #[nodeV x] w fun e w' => e = .returned (.tuple #[.string ⟨(nbytes x).toArray⟩, .bool true]) ∧ Below w.heap.size w w' := by
  have HFIT := ndhid (okB_fits hok)
  have HCK := ndhid (fun w1 => check_t x w1)
  rw [hok] at HCK
  have HBL : Hid ((body x).length = 45) := body_length x
  have HBO : Hid ([66, 71, 78, 68] ++ nums (fieldsOf x) = body x) := rfl
  have HFR : Hid (body x ++ List.replicate 207 0 = front x) := rfl
  have hFl : Hid ((front x).length = 252) := front_length x
  have HTB : Hid (front x ++ Bin.low 4 (Sum.crc (front x) : Nat) = nbytes x) := rfl
  have HCR : Hid (∀ w6 : World, Calls Try.prog 22 #[.string ⟨(front x).toArray⟩] w6 fun e w' => e = .returned (.int .u32 (Sum.crc (front x) : Nat)) ∧ w6 = w') := fun w6 => by
    have hs : (⟨(front x).toArray⟩ : ByteArray).size ≤ 1125899906842624 := by show (front x).toArray.size ≤ _; simp [hFl.out]
    exact of_t ⟨(front x).toArray⟩ w6 hs
  have hcl := Sum.crc_lt (front x)
  have HTU := ndhid (fun (w1 : World) (B b : Nat) (L : w1.heap[w.heap.size]? = some (.cells (nodeC x) 24 (0, 0))) (h1 : w.heap.size < B) (hB2 : B ≤ w1.heap.size) (hBd : Bd w1 B b [66, 71, 78, 68]) => putTurn_t w.heap.size B b x [66, 71, 78, 68] w1 L h1 hB2 hBd (by decide) HFIT.out)
  rw [HBO.out] at HTU
  clear HBO HFIT hok
  obtain ⟨T, hT⟩ : ∃ T, T = nbytes x := ⟨_, rfl⟩
  rw [← hT] at HTB
  have HTT := ndhid hT
  clear hT
  generalize Sum.crc (front x) = cc at *
  generalize front x = F at *
  generalize body x = bo at *
  go_enter Try.func8, Try.ntmps8
  go_wp2_with (first | (refine wpList_load_row rfl 24 (.tmp 1) rfl w.heap.size rfl 24 (nodeC x) (0, 0) _ (heap_alloc_new _ _) Try.underlying24 rfl Try.nodeSize ?_) | fail)
  refine (HCK.out _).mono ?_
  rintro e w1 ⟨rfl, hb1⟩
  have HL1 : Hid (w1.heap[w.heap.size]? = some (.cells (nodeC x) 24 (0, 0))) := by show _ = _; rw [hb1.block _ (by simp)]; exact heap_alloc_new _ _
  have HB1 : Hid (Below w.heap.size w w1) := ((Below.refl _ _).alloc (Nat.le_refl _) _).trans (hb1.mono (by simp))
  have hw1 : w.heap.size < w1.heap.size := by have := hb1.size; simp at this; omega
  clear hb1 HCK
  go_wp2_with fail
  refine (write_t w1.heap.size w1.heap.size [] _ _ (Bd.new w1) (by decide) (by simp)).mono ?_
  rintro e w2 ⟨rfl, hbd2, hbe2, hot2⟩
  have HB2 : Hid (Bd w2 w1.heap.size w1.heap.size [66, 71, 78, 68]) := hbd2
  have HW2 : Hid (Below w1.heap.size w1 w2) := ((Below.refl _ _).alloc (Nat.le_refl _) _).trans hbe2
  clear hbd2 hbe2 hot2
  go_wp2_with fail
  refine (HTU.out w2 w1.heap.size w1.heap.size (by rw [HW2.out.block _ hw1]; exact HL1.out) hw1 HW2.out.size HB2.out).mono ?_
  rintro e w3 ⟨rfl, hbd3, hbe3⟩
  have HB3 := ndhid hbd3
  have HW3 : Hid (Below w1.heap.size w1 w3) := HW2.out.trans hbe3
  clear hbd3 hbe3 HB2 HW2 HTU HL1
  have HL7 : Hid (∀ w6 : World, Bd w6 w1.heap.size w1.heap.size bo → Calls Try.prog 21 #[.pointer (some ⟨w1.heap.size, 0, none⟩)] w6 fun e w' => e = .returned (.int .i64 45) ∧ w6 = w') := by
    intro w6 h6
    have := len_t w1.heap.size w1.heap.size bo w6 h6
    rw [HBL.out] at this
    exact this
  go_wp2_with fail
  refine (HL7.out _ HB3.out).mono ?_
  rintro e w6 ⟨rfl, rfl⟩
  go_wp2_with fail
  refine (zerosS_t 207 _ (by decide)).mono ?_
  rintro e w6 ⟨rfl, hb6⟩
  have HB8 := ndhid (HB3.out.on hb6)
  have HW8 : Hid (Below w1.heap.size w1 w6) := HW3.out.trans (hb6.mono HW3.out.size)
  clear hb6 HB3 HW3 HL7
  go_wp2_with fail
  refine (write_t w1.heap.size w1.heap.size _ _ _ HB8.out (by rw [zerosS_size, HBL.out]; decide) HW8.out.size).mono ?_
  rintro e w7 ⟨rfl, hbd7, hbe7, hot7⟩
  have HB9 : Hid (Bd w7 w1.heap.size w1.heap.size F) := by
    have := hbd7
    rw [zerosS_list, HFR.out] at this
    exact this
  have HW9 : Hid (Below w1.heap.size w1 w7) := HW8.out.trans hbe7
  clear hbd7 hbe7 hot7 HB8 HW8
  go_wp2_with fail
  refine (text_t w1.heap.size w1.heap.size F _ HB9.out HW9.out.size).mono ?_
  rintro e w8 ⟨rfl, hbd8, hbe8, hot8⟩
  have HBa := ndhid hbd8
  have HWa : Hid (Below w1.heap.size w1 w8) := HW9.out.trans hbe8
  clear hbd8 hbe8 hot8 HB9 HW9
  go_wp2_with fail
  refine (HCR.out _).mono ?_
  rintro e w9 ⟨rfl, rfl⟩
  go_wp2_with fail
  refine (putn_t _ _ _ (by omega) (by omega) (by omega) (by omega)).mono ?_
  rintro e w9 ⟨rfl, hb9⟩
  have HBb := ndhid (HBa.out.on hb9)
  have HWb : Hid (Below w1.heap.size w1 w9) := HWa.out.trans (hb9.mono HWa.out.size)
  clear hb9 HBa HWa
  go_wp2_with fail
  refine (write_t w1.heap.size w1.heap.size _ _ _ HBb.out (by rw [lowS_size, hFl.out]; decide) HWb.out.size).mono ?_
  rintro e wa ⟨rfl, hbda, hbea, hota⟩
  have HBc : Hid (Bd wa w1.heap.size w1.heap.size T) := by
    have := hbda
    rw [← HTB.out]
    exact this
  have HWc : Hid (Below w1.heap.size w1 wa) := HWb.out.trans hbea
  clear hbda hbea hota HBb HWb
  go_wp2_with fail
  refine (text_t w1.heap.size w1.heap.size T _ HBc.out HWc.out.size).mono ?_
  rintro e wb ⟨rfl, hbdb, hbeb, hotb⟩
  have HWd : Hid (Below w.heap.size w wb) := HB1.out.trans ((HWc.out.trans hbeb).mono HB1.out.size)
  clear hbdb hbeb hotb HBc HWc
  go_wp2_with fail
  go_ret2
  exact ⟨ndPair (by rw [HTT.out]) rfl, HWd.out⟩

set_option maxRecDepth 10000 in
set_option maxHeartbeats 1000000 in
theorem put_no (x : Nd) (w : World) (hok : okB x = false) :
    Calls Try.prog 8 #[nodeV x] w fun e w' => e = .returned (.tuple #[.string ⟨#[]⟩, .bool false]) ∧ Below w.heap.size w w' := by
  have HCK := ndhid (fun w1 => check_t x w1)
  rw [hok] at HCK
  clear hok
  go_enter Try.func8, Try.ntmps8
  go_wp2_with (first | (refine wpList_load_row rfl 24 (.tmp 1) rfl w.heap.size rfl 24 (nodeC x) (0, 0) _ (heap_alloc_new _ _) Try.underlying24 rfl Try.nodeSize ?_) | fail)
  refine (HCK.out _).mono ?_
  rintro e w1 ⟨rfl, hb1⟩
  have HB1 : Hid (Below w.heap.size w w1) := ((Below.refl _ _).alloc (Nat.le_refl _) _).trans (hb1.mono (by simp))
  clear hb1 HCK
  go_wp2_with fail
  go_ret2
  exact ⟨rfl, HB1.out⟩

/-- A node's bytes, or none. -/
theorem nput_t (x : Nd) (w : World) :
    Calls Try.prog 8 #[nodeV x] w fun e w' => e = .returned (.tuple #[.string (putS x), .bool (okB x)]) ∧ Below w.heap.size w w' := by
  unfold putS
  cases hB : okB x
  · exact put_no x w hB
  · exact put_yes x w hB
end Go.Proofs.Ytclfpblnjdlnfaa
