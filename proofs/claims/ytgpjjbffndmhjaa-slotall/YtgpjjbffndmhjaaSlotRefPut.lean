/- The document's own Put walked. -/
import Derived.Test.YtgpjjbffndmhjaaSlotRef
import Derived.Test.YtgpjjbffndmhjaaSlotBack
import Derived.Deep.RegionHeld3
namespace Go.Proofs.Ytgpjjbffndmhjaa
open Go.RowKit Rec Slt

/-- So many bytes of a number, as a text. -/
def lowS (n : Nat) (v : Int) : ByteArray := ⟨(Bin.low n v).toArray⟩
theorem lowS_len (n : Nat) (v : Int) : (lowS n v).size = n := by
  show (Bin.low n v).toArray.size = n
  simp [Bin.low_length]
theorem lowS_list (n : Nat) (v : Int) : (lowS n v).data.toList = Bin.low n v := by simp [lowS]
theorem refPutS_t (v n : Int) (w : World) (h0 : 0 ≤ n) (h7 : n ≤ 7) (h1 : -9223372036854775808 ≤ v) (h2 : v ≤ 9223372036854775807) :
    Calls Try.prog 26 #[.int .i64 v, .int .i64 n] w fun e w' => e = .returned (.string (lowS n.toNat v)) ∧ Below w.heap.size w w' := by
  have := refPut_t v n.toNat w (by omega) h1 h2
  rw [show ((n.toNat : Nat) : Int) = n by omega] at this
  exact this

set_option maxRecDepth 10000 in
set_option maxHeartbeats 8000000 in
theorem refPut_yes (h g : Int) (x : Sl) (w : World) (hB : putB h g x = true) :
    Calls Try.prog 9 #[.int .i64 h, .int .i64 g, slotV x] w fun e w' => e = .returned (.tuple #[.string ⟨(sbytes h g x).toArray⟩, .bool true]) ∧ Below w.heap.size w w' := by
  have hok := putB_ok hB
  have hh : inB h 1 16 = true := by
    simp only [putB, Bool.and_eq_true] at hB
    exact hB.1.1
  have hg : inB g 1 65535 = true := by
    simp only [putB, Bool.and_eq_true] at hB
    exact hB.1.2
  have hbd := hB
  simp only [putB, okB, Bool.and_eq_true, inB_iff] at hbd
  have HBD := slthid hbd
  clear hbd
  have HCK := slthid (fun w1 => rcheck_t x w1)
  rw [hok] at HCK
  have C := slthid rin_t
  have HBO : Hid ([66, 71, 83, 76] ++ nums (fieldsOf h g x) = body h g x) := rfl
  have HFR : Hid (body h g x ++ List.replicate 190 0 = front h g x) := rfl
  have HFL : Hid ((front h g x).length = 252) := front_length h g x
  have HTB : Hid (front h g x ++ Bin.low 4 (Sum.crc (front h g x) : Nat) = sbytes h g x) := rfl
  have hcl := Sum.crc_lt (front h g x)
  clear hok hB
  obtain ⟨num, life, clock, seg, at_, next, seq, m0, m1, m2, m3, sb, sn⟩ := x
  simp only at HBD
  go_enter Try.func9, Try.ntmps9
  go_wp2_with (first | (refine (C.out _ _ _ _).mono ?_; rintro e w' ⟨rfl, rfl⟩) | fail)
  refine (HCK.out _).mono ?_
  rintro e w1 ⟨rfl, hb1⟩
  have HX : Hid (w1.heap[w.heap.size]? = some (.cells (slotC ⟨num, life, clock, seg, at_, next, seq, m0, m1, m2, m3, sb, sn⟩) 24 (0, 0))) := by rw [hb1.block _ (by simp)]; exact heap_alloc_new _ _
  have HB1 : Hid (Below w.heap.size w w1) := ((Below.refl _ _).alloc (Nat.le_refl _) _).trans (hb1.mono (by simp))
  have hw1 : w.heap.size < w1.heap.size := by have := hb1.size; simp at this; omega
  clear hb1 HCK C hh hg
  rename World => W
  obtain ⟨x0, x1, x2, x3, x4, x5, x6, x7, x8, x9, x10, x11, x12⟩ := cells13 HX.out
  have X0 := slthid x0
  have X1 := slthid x1
  have X2 := slthid x2
  have X3 := slthid x3
  have X4 := slthid x4
  have X5 := slthid x5
  have X6 := slthid x6
  have X7 := slthid x7
  have X8 := slthid x8
  have X9 := slthid x9
  have X10 := slthid x10
  have X11 := slthid x11
  have X12 := slthid x12
  clear x7 x8 x9 x10 x11 x12
  obtain ⟨⟨⟨b0, b1⟩, b2, b3⟩, hbx⟩ := HBD.out
  obtain ⟨⟨⟨⟨⟨⟨⟨⟨⟨⟨⟨⟨m0b, m1b⟩, m2b⟩, m3b⟩, numb⟩, lifeb⟩, clockb⟩, segb⟩, atb⟩, nextb⟩, seqb⟩, sbb⟩, snb⟩ := hbx
  have z0 : (lowS 1 h).size = 1 := lowS_len _ _
  have z1 : (lowS 2 g).size = 2 := lowS_len _ _
  have z2 : (lowS 6 num).size = 6 := lowS_len _ _
  have z3 : (lowS 3 life).size = 3 := lowS_len _ _
  have z4 : (lowS 6 clock).size = 6 := lowS_len _ _
  have z5 : (lowS 2 seg).size = 2 := lowS_len _ _
  have z6 : (lowS 2 at_).size = 2 := lowS_len _ _
  have z7 : (lowS 2 next).size = 2 := lowS_len _ _
  have z8 : (lowS 6 seq).size = 6 := lowS_len _ _
  have t1 : (1 : Int).toNat = 1 := rfl
  have t2 : (2 : Int).toNat = 2 := rfl
  have t3 : (3 : Int).toNat = 3 := rfl
  have t6 : (6 : Int).toNat = 6 := rfl
  have hp : Below W.heap.size W W := Below.refl _ _
  go_wp2_with fail
  go_region_held3 (fun w' => w'.cell? ⟨w.heap.size, 0, none⟩ = some (.int .i64 num) ∧ w'.cell? ⟨w.heap.size, 1, none⟩ = some (.int .i64 life) ∧ w'.cell? ⟨w.heap.size, 2, none⟩ = some (.int .i64 clock) ∧ w'.cell? ⟨w.heap.size, 3, none⟩ = some (.int .i64 seg) ∧ w'.cell? ⟨w.heap.size, 4, none⟩ = some (.int .i64 at_) ∧ w'.cell? ⟨w.heap.size, 5, none⟩ = some (.int .i64 next) ∧ w'.cell? ⟨w.heap.size, 6, none⟩ = some (.int .i64 seq)) (first | go_keep)
    (first
      | (go_at_call 26; refine (refPutS_t _ _ _ ?_ ?_ ?_ ?_).mono ?_; (omega); (omega); (omega); (omega); rintro e w1 ⟨rfl, hb1⟩; (first | rw [t1] | rw [t2] | rw [t3] | rw [t6]); have hp := hp.trans (Below.mono (show Below _ _ w1 from ⟨hb1.os, hb1.tape, hb1.output, hb1.size, hb1.block⟩) hp.size); have x0 : w1.cell? ⟨w.heap.size, 0, none⟩ = some (.int .i64 num) := (by rw [hp.cell (by show w.heap.size < W.heap.size; omega)]; exact X0.out); have x1 : w1.cell? ⟨w.heap.size, 1, none⟩ = some (.int .i64 life) := (by rw [hp.cell (by show w.heap.size < W.heap.size; omega)]; exact X1.out); have x2 : w1.cell? ⟨w.heap.size, 2, none⟩ = some (.int .i64 clock) := (by rw [hp.cell (by show w.heap.size < W.heap.size; omega)]; exact X2.out); have x3 : w1.cell? ⟨w.heap.size, 3, none⟩ = some (.int .i64 seg) := (by rw [hp.cell (by show w.heap.size < W.heap.size; omega)]; exact X3.out); have x4 : w1.cell? ⟨w.heap.size, 4, none⟩ = some (.int .i64 at_) := (by rw [hp.cell (by show w.heap.size < W.heap.size; omega)]; exact X4.out); have x5 : w1.cell? ⟨w.heap.size, 5, none⟩ = some (.int .i64 next) := (by rw [hp.cell (by show w.heap.size < W.heap.size; omega)]; exact X5.out); have x6 : w1.cell? ⟨w.heap.size, 6, none⟩ = some (.int .i64 seq) := (by rw [hp.cell (by show w.heap.size < W.heap.size; omega)]; exact X6.out)))

  obtain ⟨Q, hQ⟩ : ∃ Q, Q = ({ data := #[66, 71, 83, 76] } ++ lowS 1 h ++ lowS 2 g ++ lowS 6 num ++ lowS 3 life ++ lowS 6 clock ++ lowS 2 seg ++ lowS 2 at_ ++ lowS 2 next ++ lowS 6 seq : ByteArray) := ⟨_, rfl⟩
  rw [← hQ]
  have HQ : Hid (Q.data.toList = [66, 71, 83, 76] ++ nums ((fieldsOf h g ⟨num, life, clock, seg, at_, next, seq, m0, m1, m2, m3, sb, sn⟩).take 9)) := by
    show _ = _
    rw [hQ]
    simp only [ByteArray.data_append, Array.toList_append, lowS_list, nums, fieldsOf, List.take_succ_cons, List.take_zero, List.flatMap_cons, List.flatMap_nil, List.append_assoc, List.append_nil]
  have HXa : Hid (w1.heap[w.heap.size]? = some (.cells (slotC ⟨num, life, clock, seg, at_, next, seq, m0, m1, m2, m3, sb, sn⟩) 24 (0, 0))) := by
    show _ = _
    rw [hp.block _ hw1]
    exact HX.out
  have HBa : Hid (Below w.heap.size w w1) := HB1.out.trans (hp.mono HB1.out.size)
  clear hQ hp HX HB1 hw1 z0 z1 z2 z3 z4 z5 z6 z7 z8 x0 x1 x2 x3 x4 x5 x6 X0 X1 X2 X3 X4 X5 X6 X7 X8 X9 X10 X11 X12
  go_wp2_with fail
  go_loopw [8, 9] (fun ps c wr => ∃ (k : Nat) (R : ByteArray), k ≤ 4 ∧ c = .int .i64 k ∧ ps = .string R ∧ Hid (R.data.toList = [66, 71, 83, 76] ++ nums ((fieldsOf h g ⟨num, life, clock, seg, at_, next, seq, m0, m1, m2, m3, sb, sn⟩).take (9 + k))) ∧ Hid (wr.heap[w.heap.size]? = some (.cells (slotC ⟨num, life, clock, seg, at_, next, seq, m0, m1, m2, m3, sb, sn⟩) 24 (0, 0))) ∧ Hid (Below w.heap.size w wr)) (fun _ c _ => 4 - (intOf c).toNat)
  case atStart => exact ⟨0, Q, by omega, rfl, rfl, HQ, HXa, HBa⟩
  case round =>
    clear HQ HXa HBa
    obtain ⟨k, R, hk, rfl, rfl, HR, HX, HB⟩ := hrel
    have hRs : R.size ≤ 100 := by
      have e : R.size = R.data.toList.length := by simp
      have h5 := nums_take_length (fieldsOf h g ⟨num, life, clock, seg, at_, next, seq, m0, m1, m2, m3, sb, sn⟩) (9 + k)
      have h6 : (nums (fieldsOf h g ⟨num, life, clock, seg, at_, next, seq, m0, m1, m2, m3, sb, sn⟩)).length = 58 := by rw [nums_length]; rfl
      rw [e, HR.out, List.length_append]
      simp only [List.length_cons, List.length_nil]
      omega
    have hw1 : w.heap.size < wr.heap.size := (Array.getElem?_eq_some_iff.1 HX.out).1
    obtain ⟨x0, x1, x2, x3, x4, x5, x6, x7, x8, x9, x10, x11, x12⟩ := cells13 HX.out
    have hc : k = 0 ∨ k = 1 ∨ k = 2 ∨ k = 3 ∨ k = 4 := by omega
    rcases hc with rfl | rfl | rfl | rfl | rfl
    · clear x0 x1 x2 x3 x4 x5 x6 x8 x9 x10 x11 x12
      go_wp2_with fail
      refine (refPutS_t _ _ _ (by omega) (by omega) (by omega) (by omega)).mono ?_
      rintro e w3 ⟨rfl, hb3⟩
      rw [show (4 : Int).toNat = 4 from rfl]
      have zz : (lowS 4 m0).size = 4 := lowS_len _ _
      have HX3 : Hid (w3.heap[w.heap.size]? = some (.cells (slotC ⟨num, life, clock, seg, at_, next, seq, m0, m1, m2, m3, sb, sn⟩) 24 (0, 0))) := by
        show _ = _
        rw [hb3.block _ hw1]
        exact HX.out
      have HB3 : Hid (Below w.heap.size w w3) := HB.out.trans (hb3.mono HB.out.size)
      have HN : Hid ((R ++ lowS 4 m0).data.toList = [66, 71, 83, 76] ++ nums ((fieldsOf h g ⟨num, life, clock, seg, at_, next, seq, m0, m1, m2, m3, sb, sn⟩).take (9 + 1))) := by
        show _ = _
        rw [ByteArray.data_append, Array.toList_append, HR.out, lowS_list, show 9 + 1 = (9 + 0) + 1 from rfl, nums_snoc (fieldsOf h g ⟨num, life, clock, seg, at_, next, seq, m0, m1, m2, m3, sb, sn⟩) (9 + 0) (show 9 + 0 < 15 by decide), ← List.append_assoc]
        rfl
      clear hb3 HX HB HR
      go_wp2_with fail
      exact ⟨⟨1, _, by omega, rfl, rfl, HN, HX3, HB3⟩, by simp [intOf]⟩
    · clear x0 x1 x2 x3 x4 x5 x6 x7 x9 x10 x11 x12
      go_wp2_with fail
      refine (refPutS_t _ _ _ (by omega) (by omega) (by omega) (by omega)).mono ?_
      rintro e w3 ⟨rfl, hb3⟩
      rw [show (4 : Int).toNat = 4 from rfl]
      have zz : (lowS 4 m1).size = 4 := lowS_len _ _
      have HX3 : Hid (w3.heap[w.heap.size]? = some (.cells (slotC ⟨num, life, clock, seg, at_, next, seq, m0, m1, m2, m3, sb, sn⟩) 24 (0, 0))) := by
        show _ = _
        rw [hb3.block _ hw1]
        exact HX.out
      have HB3 : Hid (Below w.heap.size w w3) := HB.out.trans (hb3.mono HB.out.size)
      have HN : Hid ((R ++ lowS 4 m1).data.toList = [66, 71, 83, 76] ++ nums ((fieldsOf h g ⟨num, life, clock, seg, at_, next, seq, m0, m1, m2, m3, sb, sn⟩).take (9 + 2))) := by
        show _ = _
        rw [ByteArray.data_append, Array.toList_append, HR.out, lowS_list, show 9 + 2 = (9 + 1) + 1 from rfl, nums_snoc (fieldsOf h g ⟨num, life, clock, seg, at_, next, seq, m0, m1, m2, m3, sb, sn⟩) (9 + 1) (show 9 + 1 < 15 by decide), ← List.append_assoc]
        rfl
      clear hb3 HX HB HR
      go_wp2_with fail
      exact ⟨⟨2, _, by omega, rfl, rfl, HN, HX3, HB3⟩, by simp [intOf]⟩
    · clear x0 x1 x2 x3 x4 x5 x6 x7 x8 x10 x11 x12
      go_wp2_with fail
      refine (refPutS_t _ _ _ (by omega) (by omega) (by omega) (by omega)).mono ?_
      rintro e w3 ⟨rfl, hb3⟩
      rw [show (4 : Int).toNat = 4 from rfl]
      have zz : (lowS 4 m2).size = 4 := lowS_len _ _
      have HX3 : Hid (w3.heap[w.heap.size]? = some (.cells (slotC ⟨num, life, clock, seg, at_, next, seq, m0, m1, m2, m3, sb, sn⟩) 24 (0, 0))) := by
        show _ = _
        rw [hb3.block _ hw1]
        exact HX.out
      have HB3 : Hid (Below w.heap.size w w3) := HB.out.trans (hb3.mono HB.out.size)
      have HN : Hid ((R ++ lowS 4 m2).data.toList = [66, 71, 83, 76] ++ nums ((fieldsOf h g ⟨num, life, clock, seg, at_, next, seq, m0, m1, m2, m3, sb, sn⟩).take (9 + 3))) := by
        show _ = _
        rw [ByteArray.data_append, Array.toList_append, HR.out, lowS_list, show 9 + 3 = (9 + 2) + 1 from rfl, nums_snoc (fieldsOf h g ⟨num, life, clock, seg, at_, next, seq, m0, m1, m2, m3, sb, sn⟩) (9 + 2) (show 9 + 2 < 15 by decide), ← List.append_assoc]
        rfl
      clear hb3 HX HB HR
      go_wp2_with fail
      exact ⟨⟨3, _, by omega, rfl, rfl, HN, HX3, HB3⟩, by simp [intOf]⟩
    · clear x0 x1 x2 x3 x4 x5 x6 x7 x8 x9 x11 x12
      go_wp2_with fail
      refine (refPutS_t _ _ _ (by omega) (by omega) (by omega) (by omega)).mono ?_
      rintro e w3 ⟨rfl, hb3⟩
      rw [show (4 : Int).toNat = 4 from rfl]
      have zz : (lowS 4 m3).size = 4 := lowS_len _ _
      have HX3 : Hid (w3.heap[w.heap.size]? = some (.cells (slotC ⟨num, life, clock, seg, at_, next, seq, m0, m1, m2, m3, sb, sn⟩) 24 (0, 0))) := by
        show _ = _
        rw [hb3.block _ hw1]
        exact HX.out
      have HB3 : Hid (Below w.heap.size w w3) := HB.out.trans (hb3.mono HB.out.size)
      have HN : Hid ((R ++ lowS 4 m3).data.toList = [66, 71, 83, 76] ++ nums ((fieldsOf h g ⟨num, life, clock, seg, at_, next, seq, m0, m1, m2, m3, sb, sn⟩).take (9 + 4))) := by
        show _ = _
        rw [ByteArray.data_append, Array.toList_append, HR.out, lowS_list, show 9 + 4 = (9 + 3) + 1 from rfl, nums_snoc (fieldsOf h g ⟨num, life, clock, seg, at_, next, seq, m0, m1, m2, m3, sb, sn⟩) (9 + 3) (show 9 + 3 < 15 by decide), ← List.append_assoc]
        rfl
      clear hb3 HX HB HR
      go_wp2_with fail
      exact ⟨⟨4, _, by omega, rfl, rfl, HN, HX3, HB3⟩, by simp [intOf]⟩
    · clear x0 x1 x2 x3 x4 x5 x6 x7 x8 x9 x10
      have X11 := slthid x11
      have X12 := slthid x12
      have z11 : (lowS 6 sb).size = 6 := lowS_len _ _
      have z12 : (lowS 6 sn).size = 6 := lowS_len _ _
      have p1 : ¬ 9223372036854775801 < R.size := by omega
      have pp1 : ¬ 9223372036854775807 < R.size + 6 := by omega
      have p2 : ¬ 9223372036854775795 < R.size := by omega
      have pp2 : ¬ 9223372036854775807 < R.size + 12 := by omega
      have hp : Below wr.heap.size wr wr := Below.refl _ _
      go_wp2_with fail
      go_region_held3 (fun w' => w'.cell? ⟨w.heap.size, 11, none⟩ = some (.int .i64 sb) ∧ w'.cell? ⟨w.heap.size, 12, none⟩ = some (.int .i64 sn)) (first | go_keep)
        (first
          | (go_at_call 26; refine (refPutS_t _ _ _ ?_ ?_ ?_ ?_).mono ?_; (omega); (omega); (omega); (omega); rintro e w1 ⟨rfl, hb1⟩; (first | rw [t1] | rw [t2] | rw [t3] | rw [t6]); have hp := hp.trans (Below.mono (show Below _ _ w1 from ⟨hb1.os, hb1.tape, hb1.output, hb1.size, hb1.block⟩) hp.size); have x11 : w1.cell? ⟨w.heap.size, 11, none⟩ = some (.int .i64 sb) := (by rw [hp.cell (by show w.heap.size < wr.heap.size; omega)]; exact X11.out); have x12 : w1.cell? ⟨w.heap.size, 12, none⟩ = some (.int .i64 sn) := (by rw [hp.cell (by show w.heap.size < wr.heap.size; omega)]; exact X12.out)))
      obtain ⟨P, hP⟩ : ∃ P, P = R ++ lowS 6 sb ++ lowS 6 sn := ⟨_, rfl⟩
      rw [← hP]
      have HPL : Hid (P.data.toList = body h g ⟨num, life, clock, seg, at_, next, seq, m0, m1, m2, m3, sb, sn⟩) := by
        show _ = _
        rw [hP, ByteArray.data_append, ByteArray.data_append, Array.toList_append, Array.toList_append, HR.out, lowS_list, lowS_list, ← HBO.out]
        simp only [nums, fieldsOf, List.take_succ_cons, List.take_zero, List.flatMap_cons, List.flatMap_nil, List.append_assoc, List.append_nil, Nat.reduceAdd]
      have HBw : Hid (Below w.heap.size w w1) := HB.out.trans (hp.mono HB.out.size)
      have hPs : P.size = 62 := by
        have e : P.size = P.data.toList.length := by simp
        rw [e, HPL.out, body_length]
      have hPi : (P.size : Int) = 62 := by omega
      clear hP hp x11 x12 X11 X12 z11 z12 p1 pp1 p2 pp2 HR HX HB hRs
      rename World => V0
      have hmk : (Instr.makeSlice 34 (.int .i64 190) (.int .i64 190)).run Try.prog V0 = .ok (.slice (some ⟨V0.heap.size, 0, none⟩) 190 190) (V0.alloc (.cells (zrow 190) 5)) := zmake 190 (by decide) V0
      have hcv : (convert 34 9 (.slice (some ⟨V0.heap.size, 0, none⟩) 190 190)).run Try.prog (V0.alloc (.cells (zrow 190) 5)) = .ok (.string (zerosS 190)) (V0.alloc (.cells (zrow 190) 5)) := zconv 190 V0.heap.size _ (heap_alloc_new _ _)
      obtain ⟨V, hV⟩ : ∃ V, V = V0.alloc (.cells (zrow 190) 5) := ⟨_, rfl⟩
      rw [← hV] at hmk hcv
      have HVB : Hid (Below w.heap.size w V) := by rw [hV]; exact HBw.out.alloc HBw.out.size _
      have hzs : (zerosS 190).size = 190 := zerosS_size 190
      obtain ⟨F, hF⟩ : ∃ F, F = P ++ zerosS 190 := ⟨_, rfl⟩
      have HFF : Hid (F.data.toList = front h g ⟨num, life, clock, seg, at_, next, seq, m0, m1, m2, m3, sb, sn⟩) := by
        show _ = _
        rw [hF, ByteArray.data_append, Array.toList_append, HPL.out, zerosS_list, HFR.out]
      have hFs : F.size = 252 := by rw [hF, ByteArray.size_append, hPs, hzs]
      have HFE := slthid hF
      have CRC := slthid (fun w6 => refOf F w6 (by omega))
      rw [HFF.out] at CRC
      have HTX : Hid (∀ T : ByteArray, T = F ++ lowS 4 (Sum.crc (front h g ⟨num, life, clock, seg, at_, next, seq, m0, m1, m2, m3, sb, sn⟩) : Nat) → T = ⟨(sbytes h g ⟨num, life, clock, seg, at_, next, seq, m0, m1, m2, m3, sb, sn⟩).toArray⟩) := by
        intro T hT
        apply ByteArray.ext
        rw [hT, ByteArray.data_append]
        apply Array.toList_inj.1
        rw [Array.toList_append, HFF.out, lowS_list]
        exact HTB.out
      generalize zerosS 190 = Z at *
      generalize Sum.crc (front h g ⟨num, life, clock, seg, at_, next, seq, m0, m1, m2, m3, sb, sn⟩) = cc at *
      have hFs2 : (F.size : Int) = 252 := by omega
      have HFS := slthid hFs
      have p1 : ¬ 9223372036854775807 < P.size + Z.size := by omega
      clear hV hF hPs hFs HBw
      go_wp2_with fail
      rw [← HFE.out]
      refine (CRC.out _).mono ?_
      rintro e w6 ⟨rfl, rfl⟩
      go_wp2_with fail
      refine (refPutS_t _ _ _ (by omega) (by omega) (by omega) (by omega)).mono ?_
      rintro e w7 ⟨rfl, hb7⟩
      rw [show (4 : Int).toNat = 4 from rfl]
      have zz : (lowS 4 (cc : Int)).size = 4 := lowS_len _ _
      have HB9 : Hid (Below w.heap.size w w7) := HVB.out.trans (hb7.mono HVB.out.size)
      have p2 : ¬ 9223372036854775807 < F.size + (lowS 4 (cc : Int)).size := by have := HFS.out; omega
      have HT2 := slthid (HTX.out _ rfl)
      clear hb7 HVB HTX CRC
      go_wp2_with fail
      go_ret2
      exact ⟨sltPair HT2.out rfl, HB9.out⟩

set_option maxRecDepth 10000 in
set_option maxHeartbeats 1000000 in
/-- The document's own Put: a state's bytes, or none. -/
theorem rput_t (h g : Int) (x : Sl) (w : World) :
    Calls Try.prog 9 #[.int .i64 h, .int .i64 g, slotV x] w fun e w' => e = .returned (.tuple #[.string (putS h g x), .bool (putB h g x)]) ∧ Below w.heap.size w w' := by
  unfold putS
  cases hB : putB h g x
  · have CW := slthid rin_t
    have HCK := slthid (fun w1 => rcheck_t x w1)
    have HO : Hid (okB x = false ∨ inB h 1 16 = false ∨ inB g 1 65535 = false) := by
      show _ ∨ _
      simp only [putB, Bool.and_eq_false_iff] at hB
      rcases hB with (hB | hB) | hB
      · exact .inr (.inl hB)
      · exact .inr (.inr hB)
      · exact .inl hB
    clear hB
    obtain ⟨B, hBB⟩ : ∃ B, B = okB x := ⟨_, rfl⟩
    rw [← hBB] at HO HCK
    clear hBB
    obtain ⟨num, life, clock, seg, at_, next, seq, m0, m1, m2, m3, sb, sn⟩ := x
    cases hn : inB h 1 16
    · go_enter Try.func9, Try.ntmps9
      go_wp2_with (first | (refine (CW.out _ _ _ _).mono ?_; rintro e w' ⟨rfl, rfl⟩) | fail)
      go_ret2
      exact ⟨rfl, (Below.refl _ _).alloc (Nat.le_refl _) _⟩
    · cases hn2 : inB g 1 65535
      · go_enter Try.func9, Try.ntmps9
        go_wp2_with (first | (refine (CW.out _ _ _ _).mono ?_; rintro e w' ⟨rfl, rfl⟩) | fail)
        go_ret2
        exact ⟨rfl, (Below.refl _ _).alloc (Nat.le_refl _) _⟩
      · have hb : B = false := by
          rcases HO.out with h1 | h1 | h1
          · exact h1
          · rw [hn] at h1; cases h1
          · rw [hn2] at h1; cases h1
        subst hb
        clear HO
        go_enter Try.func9, Try.ntmps9
        go_wp2_with (first | (refine (CW.out _ _ _ _).mono ?_; rintro e w' ⟨rfl, rfl⟩) | fail)
        refine (HCK.out _).mono ?_
        rintro e w1 ⟨rfl, hb1⟩
        have HB1 : Hid (Below w.heap.size w w1) := ((Below.refl _ _).alloc (Nat.le_refl _) _).trans (hb1.mono (by simp))
        clear hb1 HCK CW
        go_wp2_with fail
        go_ret2
        exact ⟨rfl, HB1.out⟩
  · exact refPut_yes h g x w hB
end Go.Proofs.Ytgpjjbffndmhjaa
