/- The document's own Put walked. -/
import Derived.Test.YtdhdjnpgebddmaaTabRefBytes
namespace Go.Proofs.Ytdhdjnpgebddmaa
open Go.RowKit Tab

set_option maxRecDepth 10000 in
set_option maxHeartbeats 4000000 in
theorem refPut_yes (num : Int) (l : List Ho) (v : Value) (w : World) (hH : Houses w v l) (hB : putB num l = true) :
    Calls Try.prog 12 #[.int .i64 num, v] w fun e w' => e = .returned (.tuple #[.string ⟨(tbytes num l).toArray⟩, .bool true]) ∧ Below w.heap.size w w' := by
  have hc := putB_check hB
  have hnum : inB num 0 1099511627776 = true := by
    simp only [putB, Bool.and_eq_true] at hB
    exact hB.1
  have hnb := inB_iff.1 hnum
  have hn0 := hnb.1
  have hn1 := hnb.2
  have h16 := checkB_len hc
  have hsg := checkB_segs hc
  have hfit : ∀ x ∈ l, Fits x := by
    intro x hx
    simp only [checkB, Bool.and_eq_true, List.all_eq_true] at hc
    exact houseB_fits (hc.1.2 x hx)
  have HFIT := tabhid hfit
  have HCK := tabhid (refCheck_t 65536 l v w hH (fun x hx => by have := hsg x hx; omega))
  have HHS := tabhid hH
  have HBL : Hid ((body num l).length = 1626) := by show _ = _; rw [body_length num l hsg, h16]
  have HSEG := tabhid hsg
  obtain ⟨ad, cap, rfl, _⟩ := hH
  rw [h16] at HCK ⊢
  rw [hc] at HCK
  have H16 := tabhid h16
  clear hc hnb hsg hfit hB hnum h16
  go_enter Try.func12, Try.ntmps12
  go_wp2_with fail
  refine HCK.out.mono ?_
  rintro e w1top ⟨rfl, hb1⟩
  have HB1 := tabhid hb1
  have HHS1 := tabhid (HHS.out.on hb1)
  clear hb1 HCK HHS
  go_wp2_with fail
  refine (refPutS_t _ _ _ (by omega) (by omega) (by omega) (by omega)).mono ?_
  rintro e w2 ⟨rfl, hb2⟩
  have HB2 : Hid (Below w1top.heap.size w1top w2) := hb2
  have hz6 : ((lowS (6 : Int).toNat num).size : Int) = 6 := by rw [lowS_len]; rfl
  clear hb2
  go_wp2_with fail
  go_loopw [6, 7] (fun ps c wr => ∃ (i : Nat) (P : ByteArray), i ≤ 16 ∧ c = .int .i64 i ∧ ps = .string P ∧ Hid (P.data.toList = [66, 71, 84, 66] ++ Bin.low 6 num ++ (l.take i).flatMap hbytes) ∧ Hid (Below w1top.heap.size w1top wr)) (fun _ c _ => 16 - (intOf c).toNat)
  case atStart =>
    refine ⟨0, _, by omega, rfl, rfl, ?_, HB2⟩
    show _ = _
    simp only [List.take_zero, List.flatMap_nil, List.append_nil]
    rw [ByteArray.data_append, Array.toList_append, lowS_list]
  case round =>
    clear hz6 HB2
    obtain ⟨i, P, hi, rfl, rfl, HP, HW⟩ := hrel
    have hw := HW.out.size
    by_cases hlt : i < 16
    · have hil : i < l.length := by rw [H16.out]; exact hlt
      obtain ⟨ad', cap', he, hc'⟩ := HHS1.out
      simp only [Value.slice.injEq] at he
      obtain ⟨rfl, -, rfl⟩ := he
      obtain ⟨b, off, rfl, hb, hcell⟩ := hc' (by rw [H16.out]; decide)
      obtain ⟨sv, hh⟩ := hcell i hil
      have hh2 := hh.on hb HW.out
      have HI := tabhid hh.2.2.2.2.2.2.2.2.2.2
      have HIwr := tabhid (HI.out.on HW.out)
      have hfx := HFIT.out l[i] (List.getElem_mem hil)
      have HSN := tabhid (flat_snocR l i hil)
      have hlen : P.size ≤ 100000 := by
        have e : P.size = P.data.toList.length := by simp
        rw [e, HP.out]
        simp only [List.length_append, Bin.low_length, flat_length _ (fun x hx => HSEG.out x (List.mem_of_mem_take hx)), List.length_take, List.length_cons, List.length_nil]
        omega
      clear hh hcell hc'
      obtain ⟨c0, c1, c2, c3, c4, c5, c6, c7, c8, c9, hI⟩ := hh2
      obtain ⟨sa, sc, rfl, _, _⟩ := hI
      have hblt : b < wr.heap.size := Nat.lt_of_lt_of_le hb HW.out.size
      obtain ⟨x, hx⟩ : ∃ x, x = l[i] := ⟨_, rfl⟩
      rw [← hx] at c0 c1 c2 c3 c4 c5 c6 c7 c8 c9 HI HIwr hfx HSN
      have HX := tabhid hx
      clear hx
      obtain ⟨hf1, hf2, hf3⟩ := hfx
      simp only [fieldsOf, List.mem_cons, List.not_mem_nil, or_false, forall_eq_or_imp, forall_eq] at hf1
      obtain ⟨n1, n2, n3, n4, n5, n6, n7, n8, n9⟩ := hf1
      have HF3 := tabhid hf3
      clear hf3
      go_wp2_with fail
      generalize hW : World.alloc _ _ = W
      have HHW : Hid (W.heap[wr.heap.size]? = some (.cells (houseCells x (.slice sa x.segs.length sc)) 42 (0, 0))) := by
        rw [← hW]
        show _ = _
        rw [Below.heap_alloc _ _ _ (by simp)]
        exact heap_alloc_new _ _
      have HLW : Hid (W.heap[wr.heap.size + 1]? = some (.cells #[.int .i64 x.lim.s, .int .i64 x.lim.hb, .int .i64 x.lim.sb, .int .i64 x.lim.hn, .int .i64 x.lim.sn, .int .i64 x.lim.gr, .int .i64 x.lim.bu] 24 (0, 0))) := by
        rw [← hW]
        exact limAlloc (by simp)
      have HBW : Hid (Below wr.heap.size wr W) := by rw [← hW]; exact ((Below.refl _ wr).alloc (Nat.le_refl _) _).alloc (by simp) _
      have hWs : wr.heap.size + 1 < W.heap.size := (Array.getElem?_eq_some_iff.1 HLW.out).1
      clear hW c0 c1 c2 c3 c4 c5 c6 c7 c8 c9
      have h0 : W.cell? ⟨wr.heap.size, 0, none⟩ = some (.int .i64 x.st) := by rw [cell_of_row W _ _ _ _ _ HHW.out]; rfl
      have H0 := tabhid h0
      have h1 : W.cell? ⟨wr.heap.size, 1, none⟩ = some (.int .i64 x.gen) := by rw [cell_of_row W _ _ _ _ _ HHW.out]; rfl
      have H1 := tabhid h1
      have h9 : W.cell? ⟨wr.heap.size, 9, none⟩ = some (.slice sa x.segs.length sc) := by rw [cell_of_row W _ _ _ _ _ HHW.out]; rfl
      have H9 := tabhid h9
      have l0 : W.cell? ⟨wr.heap.size + 1, 0, none⟩ = some (.int .i64 x.lim.s) := by rw [cell_of_row W _ _ _ _ _ HLW.out]; rfl
      have L0 := tabhid l0
      have l1 : W.cell? ⟨wr.heap.size + 1, 1, none⟩ = some (.int .i64 x.lim.hb) := by rw [cell_of_row W _ _ _ _ _ HLW.out]; rfl
      have L1 := tabhid l1
      have l2 : W.cell? ⟨wr.heap.size + 1, 2, none⟩ = some (.int .i64 x.lim.sb) := by rw [cell_of_row W _ _ _ _ _ HLW.out]; rfl
      have L2 := tabhid l2
      have l3 : W.cell? ⟨wr.heap.size + 1, 3, none⟩ = some (.int .i64 x.lim.hn) := by rw [cell_of_row W _ _ _ _ _ HLW.out]; rfl
      have L3 := tabhid l3
      have l4 : W.cell? ⟨wr.heap.size + 1, 4, none⟩ = some (.int .i64 x.lim.sn) := by rw [cell_of_row W _ _ _ _ _ HLW.out]; rfl
      have L4 := tabhid l4
      have l5 : W.cell? ⟨wr.heap.size + 1, 5, none⟩ = some (.int .i64 x.lim.gr) := by rw [cell_of_row W _ _ _ _ _ HLW.out]; rfl
      have L5 := tabhid l5
      have l6 : W.cell? ⟨wr.heap.size + 1, 6, none⟩ = some (.int .i64 x.lim.bu) := by rw [cell_of_row W _ _ _ _ _ HLW.out]; rfl
      have L6 := tabhid l6
      have z0 : (lowS 1 (x.st)).size = 1 := lowS_len _ _
      have z1 : (lowS 2 (x.gen)).size = 2 := lowS_len _ _
      have z2 : (lowS 1 (x.lim.s)).size = 1 := lowS_len _ _
      have z3 : (lowS 3 (x.lim.hb)).size = 3 := lowS_len _ _
      have z4 : (lowS 3 (x.lim.sb)).size = 3 := lowS_len _ _
      have z5 : (lowS 1 (x.lim.hn)).size = 1 := lowS_len _ _
      have z6 : (lowS 1 (x.lim.sn)).size = 1 := lowS_len _ _
      have z7 : (lowS 6 (x.lim.gr)).size = 6 := lowS_len _ _
      have z8 : (lowS 2 (x.lim.bu)).size = 2 := lowS_len _ _
      have z9 : (lowS 1 ((x.segs.length : Int))).size = 1 := lowS_len _ _
      have p1 : ¬ 9223372036854775806 < P.size := by omega
      have pp1 : ¬ 9223372036854775807 < P.size + 1 := by omega
      have p3 : ¬ 9223372036854775804 < P.size := by omega
      have pp3 : ¬ 9223372036854775807 < P.size + 3 := by omega
      have p4 : ¬ 9223372036854775803 < P.size := by omega
      have pp4 : ¬ 9223372036854775807 < P.size + 4 := by omega
      have p7 : ¬ 9223372036854775800 < P.size := by omega
      have pp7 : ¬ 9223372036854775807 < P.size + 7 := by omega
      have p10 : ¬ 9223372036854775797 < P.size := by omega
      have pp10 : ¬ 9223372036854775807 < P.size + 10 := by omega
      have p11 : ¬ 9223372036854775796 < P.size := by omega
      have pp11 : ¬ 9223372036854775807 < P.size + 11 := by omega
      have p12 : ¬ 9223372036854775795 < P.size := by omega
      have pp12 : ¬ 9223372036854775807 < P.size + 12 := by omega
      have p18 : ¬ 9223372036854775789 < P.size := by omega
      have pp18 : ¬ 9223372036854775807 < P.size + 18 := by omega
      have p20 : ¬ 9223372036854775787 < P.size := by omega
      have pp20 : ¬ 9223372036854775807 < P.size + 20 := by omega
      have p21 : ¬ 9223372036854775786 < P.size := by omega
      have pp21 : ¬ 9223372036854775807 < P.size + 21 := by omega
      have t1 : (1 : Int).toNat = 1 := rfl
      have t2 : (2 : Int).toNat = 2 := rfl
      have t3 : (3 : Int).toNat = 3 := rfl
      have t6 : (6 : Int).toNat = 6 := rfl
      have hp : Below W.heap.size W W := Below.refl _ _
      go_region_held3 (fun w' => w'.cell? ⟨wr.heap.size, 0, none⟩ = some (.int .i64 x.st) ∧ w'.cell? ⟨wr.heap.size, 1, none⟩ = some (.int .i64 x.gen) ∧ w'.cell? ⟨wr.heap.size, 9, none⟩ = some (.slice sa x.segs.length sc) ∧ w'.cell? ⟨wr.heap.size + 1, 0, none⟩ = some (.int .i64 x.lim.s) ∧ w'.cell? ⟨wr.heap.size + 1, 1, none⟩ = some (.int .i64 x.lim.hb) ∧ w'.cell? ⟨wr.heap.size + 1, 2, none⟩ = some (.int .i64 x.lim.sb) ∧ w'.cell? ⟨wr.heap.size + 1, 3, none⟩ = some (.int .i64 x.lim.hn) ∧ w'.cell? ⟨wr.heap.size + 1, 4, none⟩ = some (.int .i64 x.lim.sn) ∧ w'.cell? ⟨wr.heap.size + 1, 5, none⟩ = some (.int .i64 x.lim.gr) ∧ w'.cell? ⟨wr.heap.size + 1, 6, none⟩ = some (.int .i64 x.lim.bu)) (first | go_keep)
        (first
          | (go_at_call 31; refine (refPutS_t _ _ _ ?_ ?_ ?_ ?_).mono ?_; (omega); (omega); (omega); (omega); rintro e w1 ⟨rfl, hb1⟩; (first | rw [t1] | rw [t2] | rw [t3] | rw [t6]); have hp := hp.trans (Below.mono (show Below _ _ w1 from ⟨hb1.os, hb1.tape, hb1.output, hb1.size, hb1.block⟩) hp.size); have h0 : w1.cell? ⟨wr.heap.size, 0, none⟩ = some (.int .i64 x.st) := (by rw [hp.cell (by show wr.heap.size < W.heap.size; omega)]; exact H0.out); have h1 : w1.cell? ⟨wr.heap.size, 1, none⟩ = some (.int .i64 x.gen) := (by rw [hp.cell (by show wr.heap.size < W.heap.size; omega)]; exact H1.out); have h9 : w1.cell? ⟨wr.heap.size, 9, none⟩ = some (.slice sa x.segs.length sc) := (by rw [hp.cell (by show wr.heap.size < W.heap.size; omega)]; exact H9.out); have l0 : w1.cell? ⟨wr.heap.size + 1, 0, none⟩ = some (.int .i64 x.lim.s) := (by rw [hp.cell (by show wr.heap.size + 1 < W.heap.size; omega)]; exact L0.out); have l1 : w1.cell? ⟨wr.heap.size + 1, 1, none⟩ = some (.int .i64 x.lim.hb) := (by rw [hp.cell (by show wr.heap.size + 1 < W.heap.size; omega)]; exact L1.out); have l2 : w1.cell? ⟨wr.heap.size + 1, 2, none⟩ = some (.int .i64 x.lim.sb) := (by rw [hp.cell (by show wr.heap.size + 1 < W.heap.size; omega)]; exact L2.out); have l3 : w1.cell? ⟨wr.heap.size + 1, 3, none⟩ = some (.int .i64 x.lim.hn) := (by rw [hp.cell (by show wr.heap.size + 1 < W.heap.size; omega)]; exact L3.out); have l4 : w1.cell? ⟨wr.heap.size + 1, 4, none⟩ = some (.int .i64 x.lim.sn) := (by rw [hp.cell (by show wr.heap.size + 1 < W.heap.size; omega)]; exact L4.out); have l5 : w1.cell? ⟨wr.heap.size + 1, 5, none⟩ = some (.int .i64 x.lim.gr) := (by rw [hp.cell (by show wr.heap.size + 1 < W.heap.size; omega)]; exact L5.out); have l6 : w1.cell? ⟨wr.heap.size + 1, 6, none⟩ = some (.int .i64 x.lim.bu) := (by rw [hp.cell (by show wr.heap.size + 1 < W.heap.size; omega)]; exact L6.out)))
      obtain ⟨Q, hQ⟩ : ∃ Q, Q = P ++ lowS 1 x.st ++ lowS 2 x.gen ++ lowS 1 x.lim.s ++ lowS 3 x.lim.hb ++ lowS 3 x.lim.sb ++ lowS 1 x.lim.hn ++ lowS 1 x.lim.sn ++ lowS 6 x.lim.gr ++ lowS 2 x.lim.bu ++ lowS 1 (x.segs.length : Int) := ⟨_, rfl⟩
      rw [← hQ]
      have HQ : Hid (Q.data.toList = P.data.toList ++ headBytes x) := by
        show _ = _
        rw [hQ]
        simp only [ByteArray.data_append, Array.toList_append, lowS_list, headBytes, nums, fieldsOf, List.flatMap_cons, List.flatMap_nil, List.append_assoc, List.append_nil]
      have hQs : Q.size = P.size + 21 := by
        have e : Q.size = Q.data.toList.length := by simp
        rw [e, HQ.out, List.length_append, headBytes_length]
        simp
      have HQS := tabhid hQs
      have hQ2 : Q.size ≤ 200000 := by omega
      have HW1 : Hid (Below wr.heap.size wr w1) := HBW.out.trans (hp.mono HBW.out.size)
      have HH1 : Hid (w1.heap[wr.heap.size]? = some (.cells (houseCells x (.slice sa x.segs.length sc)) 42 (0, 0))) := by
        show _ = _
        rw [hp.block _ (by omega)]
        exact HHW.out
      clear hQ hQs hp
      go_wp2_with fail
      go_loopw [6, 10] (fun ps c w2 => ∃ (k : Nat) (R : ByteArray), k ≤ 40 ∧ c = .int .i64 k ∧ ps = .string R ∧ R.size ≤ 300000 ∧ Hid (R.data.toList = Q.data.toList ++ segPart x.segs k) ∧ Hid (w2.heap[wr.heap.size]? = some (.cells (houseCells x (.slice sa x.segs.length sc)) 42 (0, 0))) ∧ Hid (Below wr.heap.size wr w2)) (fun _ c _ => 40 - (intOf c).toNat)
      case atStart => exact ⟨0, Q, by omega, rfl, rfl, by omega, by show _ = _; simp [segPart], HH1, HW1⟩
      case round =>
        obtain ⟨k, R, hk, rfl, rfl, hRs, HR, HH2, HW2⟩ := hrel
        rename World => w2
        have g9 : w2.cell? ⟨wr.heap.size, 9, none⟩ = some (.slice sa x.segs.length sc) := by rw [cell_of_row w2 _ _ _ _ _ HH2.out]; rfl
        have hw2l : wr.heap.size < w2.heap.size := (Array.getElem?_eq_some_iff.1 HH2.out).1
        by_cases hk40 : k < 40
        · have NEXT : Hid (∀ (y : Int), x.segs.getD k 0 = y → ∀ (T : ByteArray), T = R ++ lowS 2 y → T.data.toList = Q.data.toList ++ segPart x.segs (k + 1) ∧ T.size ≤ 300000) := by
            intro y hy T hT
            have e : T.data.toList = Q.data.toList ++ segPart x.segs (k + 1) := by
              rw [hT, ByteArray.data_append, Array.toList_append, lowS_list, HR.out, segPart_succ, hy, List.append_assoc]
            refine ⟨e, ?_⟩
            have e2 : T.size = T.data.toList.length := by simp
            have e3 : Q.data.toList.length = Q.size := by simp
            rw [e2, e, List.length_append, segPart_length, e3]
            omega
          by_cases hks : k < x.segs.length
          · have HI2 := HIwr.out.on HW2.out
            obtain ⟨sa', sc', he, _, hcs⟩ := HI2
            simp only [Value.slice.injEq] at he
            obtain ⟨rfl, -, rfl⟩ := he
            obtain ⟨sb, so, rfl, hsb, hsi⟩ := hcs (by omega)
            have s0 := hsi k hks
            have hyb := HF3.out x.segs[k] (List.getElem_mem hks)
            have HN := tabhid (NEXT.out x.segs[k] (by simp [List.getD, hks]))
            clear hsi hcs NEXT
            generalize x.segs[k] = y at *
            go_wp2_with fail
            refine (refPutS_t _ _ _ (by omega) (by omega) (by omega) (by omega)).mono ?_
            rintro e w3 ⟨rfl, hb3⟩
            rw [show (2 : Int).toNat = 2 from rfl]
            have zz : (lowS 2 y).size = 2 := lowS_len _ _
            have HH3 : Hid (w3.heap[wr.heap.size]? = some (.cells (houseCells x (.slice (some ⟨sb, so, none⟩) x.segs.length sc)) 42 (0, 0))) := by
              show _ = _
              rw [hb3.block _ hw2l]
              exact HH2.out
            have HW3 : Hid (Below wr.heap.size wr w3) := HW2.out.trans (hb3.mono HW2.out.size)
            have HN2 := tabhid (HN.out _ rfl)
            clear hb3 HH2 HW2 HN
            go_wp2_with fail
            exact ⟨⟨k + 1, _, by omega, by go_num, rfl, HN2.out.2, HN2.out.1, HH3, HW3⟩, by simp [intOf]; omega⟩
          · have HN := tabhid (NEXT.out 0 (by simp [List.getD, hks]))
            have hks2 : ¬ (k : Int) < (x.segs.length : Int) := by omega
            clear NEXT
            go_wp2_with fail
            refine (refPutS_t _ _ _ (by omega) (by omega) (by omega) (by omega)).mono ?_
            rintro e w3 ⟨rfl, hb3⟩
            rw [show (2 : Int).toNat = 2 from rfl]
            have zz : (lowS 2 0).size = 2 := lowS_len _ _
            have HH3 : Hid (w3.heap[wr.heap.size]? = some (.cells (houseCells x (.slice sa x.segs.length sc)) 42 (0, 0))) := by
              show _ = _
              rw [hb3.block _ hw2l]
              exact HH2.out
            have HW3 : Hid (Below wr.heap.size wr w3) := HW2.out.trans (hb3.mono HW2.out.size)
            have HN2 := tabhid (HN.out _ rfl)
            clear hb3 HH2 HW2 HN
            go_wp2_with fail
            exact ⟨⟨k + 1, _, by omega, by go_num, rfl, HN2.out.2, HN2.out.1, HH3, HW3⟩, by simp [intOf]; omega⟩
        · have hk2 : k = 40 := by omega
          subst hk2
          have HP2 : Hid (R.data.toList = [66, 71, 84, 66] ++ Bin.low 6 num ++ (l.take (i + 1)).flatMap hbytes) := by
            show _ = _
            rw [HR.out, HQ.out, HP.out, HSN.out, hbytes_parts x hf2]
            simp only [List.append_assoc]
          have HW4 : Hid (Below w1top.heap.size w1top w2) := HW.out.trans (HW2.out.mono HW.out.size)
          go_wp2_with fail
          exact ⟨⟨i + 1, R, by omega, by go_num, rfl, HP2, HW4⟩, by simp [intOf]; omega⟩
    · have hi16 : i = 16 := by omega
      have HB7 : Hid (P.data.toList = body num l) := by
        have := HP.out
        rw [hi16, ← H16.out, List.take_length] at this
        exact this
      have hPs : P.size = 1626 := by
        have e : P.size = P.data.toList.length := by simp
        rw [e, HB7.out, HBL.out]
      have hPi : (P.size : Int) = 1626 := by omega
      have HPS := tabhid hPs
      have hmk := zeros418_make wr
      have hcv := zeros418_conv wr
      obtain ⟨V, hV⟩ : ∃ V, V = wr.alloc (.cells (Array.replicate 418 (.int .u8 0)) 5) := ⟨_, rfl⟩
      rw [← hV] at hmk hcv
      have HVB : Hid (Below w1top.heap.size w1top V) := by rw [hV]; exact HW.out.alloc HW.out.size _
      have hzs : zeros418.size = 418 := by show (List.replicate 418 (0 : UInt8)).toArray.size = 418; rw [List.size_toArray, List.length_replicate]
      obtain ⟨F, hF⟩ : ∃ F, F = P ++ zeros418 := ⟨_, rfl⟩
      have HFL : Hid (F.data.toList = front num l) := by
        show _ = _
        rw [hF, ByteArray.data_append, Array.toList_append, HB7.out, zeros418_list, front, HBL.out]
      have hFs : F.size = 2044 := by rw [hF, ByteArray.size_append, hPs, hzs]
      have HFE := tabhid hF
      have CRC := tabhid (fun w6 => refOf F w6 (by omega))
      rw [HFL.out] at CRC
      have hcl := Sum.crc_lt (front num l)
      have HTB : Hid (∀ T : ByteArray, T = F ++ lowS 4 (Sum.crc (front num l) : Nat) → T = ⟨(tbytes num l).toArray⟩) := by
        intro T hT
        apply ByteArray.ext
        rw [hT, ByteArray.data_append]
        apply Array.toList_inj.1
        rw [Array.toList_append, HFL.out, lowS_list]
        rfl
      generalize zeros418 = Z at *
      generalize Sum.crc (front num l) = cc at *
      have hFs2 : (F.size : Int) = 2044 := by omega
      have HFS := tabhid hFs
      have p1 : ¬ 9223372036854775807 < P.size + Z.size := by omega
      clear hV hF hPs hFs hi16
      go_wp2_with fail
      rw [← HFE.out]
      refine (CRC.out _).mono ?_
      rintro e w6 ⟨rfl, rfl⟩
      go_wp2_with fail
      refine (refPutS_t _ _ _ (by omega) (by omega) (by omega) (by omega)).mono ?_
      rintro e w7 ⟨rfl, hb7⟩
      rw [show (4 : Int).toNat = 4 from rfl]
      have zz : (lowS 4 (cc : Int)).size = 4 := lowS_len _ _
      have HB9 : Hid (Below w.heap.size w w7) := HB1.out.trans ((HVB.out.trans (hb7.mono HVB.out.size)).mono HB1.out.size)
      have p2 : ¬ 9223372036854775807 < F.size + (lowS 4 (cc : Int)).size := by have := HFS.out; omega
      have HT2 := tabhid (HTB.out _ rfl)
      clear hb7 HVB HTB CRC
      go_wp2_with fail
      go_ret2
      exact ⟨by rw [← HT2.out]; rfl, HB9.out⟩

/-- The document's own Put: the table's bytes, or none. -/
theorem refTPut_t (num : Int) (l : List Ho) (v : Value) (w : World) (hH : Houses w v l) (hs : ∀ x ∈ l, x.segs.length ≤ 1000) :
    Calls Try.prog 12 #[.int .i64 num, v] w fun e w' => e = .returned (.tuple #[.string (putS num l), .bool (putB num l)]) ∧ Below w.heap.size w w' := by
  unfold putS
  cases hB : putB num l
  · by_cases h1 : num < 0
    · go_enter Try.func12, Try.ntmps12
      go_wp2_with fail
      go_ret2
      exact ⟨rfl, Below.refl _ _⟩
    · by_cases h2 : 1099511627776 < num
      · go_enter Try.func12, Try.ntmps12
        go_wp2_with fail
        go_ret2
        exact ⟨rfl, Below.refl _ _⟩
      · have hc : checkB 65536 l = false := by
          unfold putB at hB
          rw [inB_yes (by omega) (by omega), Bool.true_and] at hB
          exact hB
        have HCK := tabhid (refCheck_t 65536 l v w hH hs)
        rw [hc] at HCK
        clear hc hB hs
        go_enter Try.func12, Try.ntmps12
        go_wp2_with fail
        refine HCK.out.mono ?_
        rintro e w1 ⟨rfl, hb1⟩
        have HB1 := tabhid hb1
        clear hb1 HCK
        go_wp2_with fail
        go_ret2
        exact ⟨rfl, HB1.out⟩
  · exact refPut_yes num l v w hH hB
end Go.Proofs.Ytdhdjnpgebddmaa
