/- The table's bytes: Put walked. -/
import Derived.Test.YtdhdjnpgebddmaaTabPut
namespace Go.Proofs.Ytdhdjnpgebddmaa
open Go.RowKit Tab

theorem tabPair {s t : ByteArray} {a b : Bool} (h1 : s = t) (h2 : a = b) : Ending.returned (.tuple #[.string s, .bool a]) = .returned (.tuple #[.string t, .bool b]) := by rw [h1, h2]

theorem flat_snoc (l : List Ho) (i : Nat) (hi : i < l.length) : (l.take (i + 1)).flatMap hbytes = (l.take i).flatMap hbytes ++ hbytes l[i] := by
  rw [List.take_succ_eq_append_getElem hi]
  simp only [List.flatMap_append, List.flatMap_cons, List.flatMap_nil, List.append_nil]

set_option maxHeartbeats 2000000 in
theorem put_yes (num : Int) (l : List Ho) (v : Value) (w : World) (hH : Houses w v l) (hB : putB num l = true) :
    Calls Try.prog 10 #[.int .i64 num, v] w fun e w' => e = .returned (.tuple #[.string ⟨(tbytes num l).toArray⟩, .bool true]) ∧ Below w.heap.size w w' := by
  have hc := putB_check hB
  have hnum : inB num 0 1099511627776 = true := by
    simp only [putB, Bool.and_eq_true] at hB
    exact hB.1
  have hnb := inB_iff.1 hnum
  have hn0 := hnb.1
  have hn1 := hnb.2
  have h16 := checkB_len hc
  have hsg := checkB_segs hc
  have hfit : ∀ x ∈ l, Fits x := by
    intro x hx
    simp only [checkB, Bool.and_eq_true, List.all_eq_true] at hc
    exact houseB_fits (hc.1.2 x hx)
  have HFIT := tabhid hfit
  have HCK := tabhid (fun w1 (k : Below w.heap.size w w1) => check_t 65536 l v w1 (hH.on k) (by omega) (fun x hx => by have := hsg x hx; omega) (by decide))
  have HHS := tabhid hH
  have HBL : Hid ((body num l).length = 1626) := by show _ = _; rw [body_length num l hsg, h16]
  have HSEG := tabhid hsg
  obtain ⟨ad, cap, rfl, _⟩ := hH
  rw [h16] at HCK ⊢
  rw [hc] at HCK
  have CW := tabhid within_t
  clear hc hnb hsg hfit hB
  go_enter Try.func10, Try.ntmps10
  go_wp2_with fail
  refine (CW.out _ _ _ _).mono ?_
  rintro e w' ⟨rfl, rfl⟩
  rw [hnum]
  go_wp2_with fail
  refine (HCK.out _ (Below.refl _ _)).mono ?_
  rintro e w1 ⟨rfl, hb1⟩
  have HB1 := tabhid hb1
  have HHS1 := tabhid (HHS.out.on hb1)
  clear hb1 HCK CW HHS
  go_wp2_with fail
  refine (write_t w1.heap.size w1.heap.size [] _ _ (Bd.new w1) (by decide) (by simp)).mono ?_
  rintro e w2 ⟨rfl, hbd2, hbe2, hot2⟩
  have HB2 : Hid (Bd w2 w1.heap.size w1.heap.size [66, 71, 84, 66]) := hbd2
  have HW2 : Hid (Below w1.heap.size w1 w2) := ((Below.refl _ _).alloc (Nat.le_refl _) _).trans hbe2
  clear hbd2 hbe2 hot2
  go_wp2_with fail
  refine (putn_t _ _ _ (by omega) (by omega) (by omega) (by omega)).mono ?_
  rintro e w3 ⟨rfl, hb3⟩
  have HB3 := tabhid (HB2.out.on hb3)
  have HW3 : Hid (Below w1.heap.size w1 w3) := HW2.out.trans (hb3.mono HW2.out.size)
  clear hb3 HB2 HW2
  go_wp2_with fail
  refine (write_t w1.heap.size w1.heap.size _ _ _ HB3.out (by rw [lowS_size]; decide) HW3.out.size).mono ?_
  rintro e w4 ⟨rfl, hbd4, hbe4, hot4⟩
  have HB4 : Hid (Bd w4 w1.heap.size w1.heap.size ([66, 71, 84, 66] ++ Bin.low 6 num)) := hbd4
  have HW4 : Hid (Below w1.heap.size w1 w4) := HW3.out.trans hbe4
  clear hbd4 hbe4 hot4 HB3 HW3
  go_wp2_with fail
  go_loopw [23] (fun c wr => ∃ (i : Nat), i ≤ 16 ∧ c = .int .i64 i ∧ Hid (Bd wr w1.heap.size w1.heap.size ([66, 71, 84, 66] ++ Bin.low 6 num ++ (l.take i).flatMap hbytes)) ∧ Hid (Below w1.heap.size w1 wr)) (fun c _ => 16 - (intOf c).toNat)
  case atStart =>
    refine ⟨0, by omega, rfl, ?_, HW4⟩
    show Bd _ _ _ _
    simp only [List.take_zero, List.flatMap_nil, List.append_nil]
    exact HB4.out
  case round =>
    obtain ⟨i, hi, rfl, HB5, HW5⟩ := hrel
    have hw5 := HW5.out.size
    clear HB4 HW4
    by_cases hlt : i < 16
    · have hil : i < l.length := by omega
      obtain ⟨ad', cap', he, hc'⟩ := HHS1.out
      simp only [Value.slice.injEq] at he
      obtain ⟨rfl, _, rfl⟩ := he
      obtain ⟨b, off, rfl, hb, hcell⟩ := hc' (by omega)
      obtain ⟨sv, hh⟩ := hcell i hil
      have hh2 := hh.on hb HW5.out
      have HI := tabhid hh.2.2.2.2.2.2.2.2.2.2
      have hfx := tabhid (HFIT.out l[i] (List.getElem_mem hil))
      have HSN := tabhid (flat_snoc l i hil)
      have hlen : ([66, 71, 84, 66] ++ Bin.low 6 num ++ (l.take i).flatMap hbytes).length ≤ 100000 := by
        simp only [List.length_append, Bin.low_length, flat_length _ (fun x hx => HSEG.out x (List.mem_of_mem_take hx)), List.length_take, List.length_cons, List.length_nil]
        omega
      have HLEN := tabhid hlen
      clear hh hcell hc' HHS1 HFIT hlen
      obtain ⟨c0, c1, c2, c3, c4, c5, c6, c7, c8, c9, hI⟩ := hh2
      obtain ⟨sa, sc, rfl, _, _⟩ := hI
      have hblt : b < wr.heap.size := Nat.lt_of_lt_of_le hb HW5.out.size
      generalize l[i] = x at *
      go_wp2_with fail
      refine (putHouse_t w1 w1.heap.size _ x (.slice sa x.segs.length sc) _ (HW5.out.alloc hw5 _) (HB5.out.on ((Below.refl _ _).alloc (Nat.le_refl _) _)) HI.out hfx.out HLEN.out).mono ?_
      rintro e w6 ⟨rfl, hbd6, hbe6⟩
      have HB6 : Hid (Bd w6 w1.heap.size w1.heap.size ([66, 71, 84, 66] ++ Bin.low 6 num ++ (l.take (i + 1)).flatMap hbytes)) := by
        show Bd _ _ _ _
        rw [HSN.out, ← List.append_assoc]
        exact hbd6
      have HW6 := tabhid hbe6
      clear hbd6 hbe6 HSN HB5
      go_wp2_with fail
      exact ⟨⟨i + 1, by omega, by go_num, HB6, HW6⟩, by simp [intOf]; omega⟩
    · have hil : i = 16 := by omega
      have HB7 : Hid (Bd wr w1.heap.size w1.heap.size (body num l)) := by
        have := HB5.out
        rw [hil, ← h16, List.take_length] at this
        exact this
      have HL7 : Hid (∀ w6 : World, Bd w6 w1.heap.size w1.heap.size (body num l) → Calls Try.prog 28 #[.pointer (some ⟨w1.heap.size, 0, none⟩)] w6 fun e w' => e = .returned (.int .i64 1626) ∧ w6 = w') := by
        intro w6 h6
        have := len_t w1.heap.size w1.heap.size (body num l) w6 h6
        rw [HBL.out] at this
        exact this
      have HFR : Hid (body num l ++ List.replicate 418 0 = front num l) := by show _ = _; unfold front; rw [HBL.out]
      have hFl : Hid ((front num l).length = 2044) := by
        show _ = _
        rw [← HFR.out, List.length_append, HBL.out, List.length_replicate]
      have HTB : Hid (front num l ++ Bin.low 4 (Sum.crc (front num l) : Nat) = tbytes num l) := rfl
      have HCR : Hid (∀ w6 : World, Calls Try.prog 29 #[.string ⟨(front num l).toArray⟩] w6 fun e w' => e = .returned (.int .u32 (Sum.crc (front num l) : Nat)) ∧ w6 = w') := fun w6 => by
        have hs : (⟨(front num l).toArray⟩ : ByteArray).size ≤ 1125899906842624 := by show (front num l).toArray.size ≤ _; simp [hFl.out]
        exact of_t ⟨(front num l).toArray⟩ w6 hs
      have hcl := Sum.crc_lt (front num l)
      obtain ⟨T, hT⟩ : ∃ T, T = tbytes num l := ⟨_, rfl⟩
      rw [← hT] at HTB
      have HTT := tabhid hT
      clear hT HB5 HFIT HSEG HHS1
      generalize Sum.crc (front num l) = cc at *
      generalize front num l = F at *
      generalize body num l = bo at *
      go_wp2_with fail
      refine (HL7.out _ HB7.out).mono ?_
      rintro e w6 ⟨rfl, rfl⟩
      go_wp2_with fail
      refine (zerosS_t 418 _ (by decide)).mono ?_
      rintro e w6 ⟨rfl, hb6⟩
      have HB8 := tabhid (HB7.out.on hb6)
      have HW8 : Hid (Below w1.heap.size w1 w6) := HW5.out.trans (hb6.mono hw5)
      clear hb6 HB7 HW5 HL7
      go_wp2_with fail
      refine (write_t w1.heap.size w1.heap.size _ _ _ HB8.out (by rw [zerosS_size, HBL.out]; decide) HW8.out.size).mono ?_
      rintro e w7 ⟨rfl, hbd7, hbe7, hot7⟩
      have HB9 : Hid (Bd w7 w1.heap.size w1.heap.size F) := by
        have := hbd7
        rw [zerosS_list, HFR.out] at this
        exact this
      have HW9 : Hid (Below w1.heap.size w1 w7) := HW8.out.trans hbe7
      clear hbd7 hbe7 hot7 HB8 HW8
      go_wp2_with fail
      refine (text_t w1.heap.size w1.heap.size F _ HB9.out HW9.out.size).mono ?_
      rintro e w8 ⟨rfl, hbd8, hbe8, hot8⟩
      have HBa := tabhid hbd8
      have HWa : Hid (Below w1.heap.size w1 w8) := HW9.out.trans hbe8
      clear hbd8 hbe8 hot8 HB9 HW9
      go_wp2_with fail
      refine (HCR.out _).mono ?_
      rintro e w9 ⟨rfl, rfl⟩
      go_wp2_with fail
      refine (putn_t _ _ _ (by omega) (by omega) (by omega) (by omega)).mono ?_
      rintro e w9 ⟨rfl, hb9⟩
      have HBb := tabhid (HBa.out.on hb9)
      have HWb : Hid (Below w1.heap.size w1 w9) := HWa.out.trans (hb9.mono HWa.out.size)
      clear hb9 HBa HWa
      go_wp2_with fail
      refine (write_t w1.heap.size w1.heap.size _ _ _ HBb.out (by rw [lowS_size, hFl.out]; decide) HWb.out.size).mono ?_
      rintro e wa ⟨rfl, hbda, hbea, hota⟩
      have HBc : Hid (Bd wa w1.heap.size w1.heap.size T) := by
        have := hbda
        rw [← HTB.out]
        exact this
      have HWc : Hid (Below w1.heap.size w1 wa) := HWb.out.trans hbea
      clear hbda hbea hota HBb HWb
      go_wp2_with fail
      refine (text_t w1.heap.size w1.heap.size T _ HBc.out HWc.out.size).mono ?_
      rintro e wb ⟨rfl, hbdb, hbeb, hotb⟩
      have HWd : Hid (Below w.heap.size w wb) := HB1.out.trans ((HWc.out.trans hbeb).mono HB1.out.size)
      clear hbdb hbeb hotb HBc HWc
      go_wp2_with fail
      go_ret2
      exact ⟨tabPair (by rw [HTT.out]) rfl, HWd.out⟩

set_option maxHeartbeats 1000000 in
theorem put_no (num : Int) (l : List Ho) (v : Value) (w : World) (hH : Houses w v l) (hl : l.length ≤ 4611686018427387904) (hs : ∀ x ∈ l, x.segs.length ≤ 4611686018427387904) (hB : putB num l = false) :
    Calls Try.prog 10 #[.int .i64 num, v] w fun e w' => e = .returned (.tuple #[.string ⟨#[]⟩, .bool false]) ∧ Below w.heap.size w w' := by
  have CW := tabhid within_t
  cases hn : inB num 0 1099511627776
  · go_enter Try.func10, Try.ntmps10
    go_wp2_with fail
    refine (CW.out _ _ _ _).mono ?_
    rintro e w' ⟨rfl, rfl⟩
    rw [hn]
    go_wp2_with fail
    go_ret2
    exact ⟨rfl, Below.refl _ _⟩
  · have hc : checkB 65536 l = false := by
      simp only [putB, hn, Bool.true_and] at hB
      exact hB
    have HCK := tabhid (check_t 65536 l v w hH hl hs (by decide))
    rw [hc] at HCK
    clear hc hB hs
    go_enter Try.func10, Try.ntmps10
    go_wp2_with fail
    refine (CW.out _ _ _ _).mono ?_
    rintro e w' ⟨rfl, rfl⟩
    rw [hn]
    go_wp2_with fail
    refine HCK.out.mono ?_
    rintro e w1 ⟨rfl, hb1⟩
    have HB1 := tabhid hb1
    clear hb1 HCK CW
    go_wp2_with fail
    go_ret2
    exact ⟨rfl, HB1.out⟩

/-- The table's bytes, or none. -/
theorem tput_t (num : Int) (l : List Ho) (v : Value) (w : World) (hH : Houses w v l) (hl : l.length ≤ 4611686018427387904) (hs : ∀ x ∈ l, x.segs.length ≤ 4611686018427387904) :
    Calls Try.prog 10 #[.int .i64 num, v] w fun e w' => e = .returned (.tuple #[.string (putS num l), .bool (putB num l)]) ∧ Below w.heap.size w w' := by
  unfold putS
  cases hB : putB num l
  · exact put_no num l v w hH hl hs hB
  · exact put_yes num l v w hH hB
end Go.Proofs.Ytdhdjnpgebddmaa
