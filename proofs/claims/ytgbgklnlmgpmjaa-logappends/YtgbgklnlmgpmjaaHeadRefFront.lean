/- The document's own front and Put walked. -/
import Derived.Test.YtgbgklnlmgpmjaaHeadRef
import Derived.Test.YtgbgklnlmgpmjaaHeadPutAll
import Derived.Test.YtgbgklnlmgpmjaaZeros
import Derived.Deep.RegionHeld3
namespace Go.Proofs.Ytgbgklnlmgpmjaa
open Go.RowKit Rec Hdp

/-- So many bytes of a number, as a text. -/
def lowS (n : Nat) (v : Int) : ByteArray := ⟨(Bin.low n v).toArray⟩
theorem lowS_len (n : Nat) (v : Int) : (lowS n v).size = n := by
  show (Bin.low n v).toArray.size = n
  simp [Bin.low_length]
theorem lowS_list (n : Nat) (v : Int) : (lowS n v).data.toList = Bin.low n v := by simp [lowS]
theorem refPutS_t (v n : Int) (w : World) (h0 : 0 ≤ n) (h7 : n ≤ 7) (h1 : -9223372036854775808 ≤ v) (h2 : v ≤ 9223372036854775807) :
    Calls Try.prog 74 #[.int .i64 v, .int .i64 n] w fun e w' => e = .returned (.string (lowS n.toNat v)) ∧ Below w.heap.size w w' := by
  have := refPut_t v n.toNat w (by omega) h1 h2
  rw [show ((n.toNat : Nat) : Int) = n by omega] at this
  exact this
theorem en_bounds {e : En} (h : enB e = true) : (0 ≤ e.kind ∧ e.kind < 256) ∧ (0 ≤ e.node ∧ e.node < 256) ∧ (0 ≤ e.part ∧ e.part < 65536) := by
  have := en_fits h
  simp only [FitsL, enFields, List.mem_cons, List.not_mem_nil, or_false, forall_eq_or_imp, forall_eq] at this
  omega

set_option maxRecDepth 10000 in
set_option maxHeartbeats 8000000 in
theorem rfront_t (x : Hd) (v : Value) (w : World) (hE : Ents w v x.list) (hok : okB x = true) :
    Calls Try.prog 58 #[headV x v] w fun e w' => e = .returned (.string ⟨(front x).toArray⟩) ∧ Below w.heap.size w w' := by
  have hlen := okB_len hok
  have HE := hdhid hE
  have HEB : Hid (∀ e ∈ x.list, (0 ≤ e.kind ∧ e.kind < 256) ∧ (0 ≤ e.node ∧ e.node < 256) ∧ (0 ≤ e.part ∧ e.part < 65536)) := fun e he => en_bounds (okB_all hok e he)
  have hnb := okB_num hok
  simp only [numB, Bool.and_eq_true, inB_iff] at hnb
  have HMP : Hid (manyPart x = [66, 71, 67, 72] ++ nums (fieldsOf x) ++ Bin.low 1 (x.list.length : Int)) := rfl
  have HML : Hid ((manyPart x).length = 37) := manyPart_length x
  have HBO : Hid (manyPart x ++ nums (listFields x.list) = body x) := rfl
  have HBL : Hid ((body x).length = 37 + 4 * x.list.length) := body_length x
  have HFR : Hid (body x ++ List.replicate (252 - (body x).length) 0 = front x) := rfl
  obtain ⟨ad, cap, rfl, _, hc⟩ := hE
  clear hc hok
  obtain ⟨house, gen, life, seq, next, clock, sb, sn, l⟩ := x
  have hl24 : l.length ≤ 24 := hlen
  clear hlen
  simp only at hnb
  obtain ⟨⟨⟨⟨⟨⟨⟨b0, b1⟩, b2⟩, b3⟩, b4⟩, b5⟩, b6⟩, b7⟩ := hnb
  show Calls _ _ #[.agg #[.int .i64 house, .int .i64 gen, .int .i64 life, .int .i64 seq, .int .i64 next, .int .i64 clock, .int .i64 sb, .int .i64 sn, .slice ad l.length cap]] _ _
  go_enter Try.func58, Try.ntmps58
  go_wp2_with fail
  generalize hW : World.alloc w _ = W
  have HX : Hid (W.heap[w.heap.size]? = some (.cells (headC ⟨house, gen, life, seq, next, clock, sb, sn, l⟩ (.slice ad l.length cap)) 37 (0, 0))) := by rw [← hW]; exact heap_alloc_new _ _
  have HB : Hid (Below w.heap.size w W) := by rw [← hW]; exact (Below.refl _ w).alloc (Nat.le_refl _) _
  have hw0 : w.heap.size < W.heap.size := by rw [← hW]; simp
  clear hW
  obtain ⟨x0, x1, x2, x3, x4, x5, x6, x7, x8⟩ := cells9 HX.out
  have z0 : (lowS 1 house).size = 1 := lowS_len _ _
  have z1 : (lowS 2 gen).size = 2 := lowS_len _ _
  have z2 : (lowS 3 life).size = 3 := lowS_len _ _
  have z3 : (lowS 6 seq).size = 6 := lowS_len _ _
  have z4 : (lowS 2 next).size = 2 := lowS_len _ _
  have z5 : (lowS 6 clock).size = 6 := lowS_len _ _
  have z6 : (lowS 6 sb).size = 6 := lowS_len _ _
  have z7 : (lowS 6 sn).size = 6 := lowS_len _ _
  have z8 : (lowS 1 (l.length : Int)).size = 1 := lowS_len _ _
  have hl0 : (0 : Int) ≤ (l.length : Int) := by omega
  have hl1 : (l.length : Int) ≤ 24 := by omega
  have t1 : (1 : Int).toNat = 1 := rfl
  have t2 : (2 : Int).toNat = 2 := rfl
  have t3 : (3 : Int).toNat = 3 := rfl
  have t6 : (6 : Int).toNat = 6 := rfl
  have hp : Below W.heap.size W W := Below.refl _ _
  go_region_held3 (fun w' => w'.cell? ⟨w.heap.size, 0, none⟩ = some (.int .i64 house) ∧ w'.cell? ⟨w.heap.size, 1, none⟩ = some (.int .i64 gen) ∧ w'.cell? ⟨w.heap.size, 2, none⟩ = some (.int .i64 life) ∧ w'.cell? ⟨w.heap.size, 3, none⟩ = some (.int .i64 seq) ∧ w'.cell? ⟨w.heap.size, 4, none⟩ = some (.int .i64 next) ∧ w'.cell? ⟨w.heap.size, 5, none⟩ = some (.int .i64 clock) ∧ w'.cell? ⟨w.heap.size, 6, none⟩ = some (.int .i64 sb) ∧ w'.cell? ⟨w.heap.size, 7, none⟩ = some (.int .i64 sn) ∧ w'.cell? ⟨w.heap.size, 8, none⟩ = some (.slice ad l.length cap)) (first | go_keep)
    (first
      | (go_at_call 74; refine (refPutS_t _ _ _ ?_ ?_ ?_ ?_).mono ?_; (omega); (omega); (omega); (omega); rintro e y1 ⟨rfl, hb1⟩; (first | rw [t1] | rw [t2] | rw [t3] | rw [t6]); have hp := hp.trans (Below.mono (show Below _ _ y1 from ⟨hb1.os, hb1.tape, hb1.output, hb1.size, hb1.block⟩) hp.size); obtain ⟨x0, x1, x2, x3, x4, x5, x6, x7, x8⟩ := cells9 (show y1.heap[w.heap.size]? = some (.cells (headC ⟨house, gen, life, seq, next, clock, sb, sn, l⟩ (.slice ad l.length cap)) 37 (0, 0)) from (hp.block _ hw0).trans HX.out)))
  obtain ⟨Q, hQ⟩ : ∃ Q, Q = ({ data := #[66, 71, 67, 72] } ++ lowS 1 house ++ lowS 2 gen ++ lowS 3 life ++ lowS 6 seq ++ lowS 2 next ++ lowS 6 clock ++ lowS 6 sb ++ lowS 6 sn ++ lowS 1 (l.length : Int) : ByteArray) := ⟨_, rfl⟩
  rw [← hQ]
  have HQ : Hid (Q.data.toList = manyPart ⟨house, gen, life, seq, next, clock, sb, sn, l⟩) := by
    show _ = _
    rw [hQ, HMP.out]
    simp only [ByteArray.data_append, Array.toList_append, lowS_list, nums, fieldsOf, List.flatMap_cons, List.flatMap_nil, List.append_assoc, List.append_nil]
  have HXa : Hid (y1.heap[w.heap.size]? = some (.cells (headC ⟨house, gen, life, seq, next, clock, sb, sn, l⟩ (.slice ad l.length cap)) 37 (0, 0))) := (hp.block _ hw0).trans HX.out
  have HBa : Hid (Below w.heap.size w y1) := HB.out.trans (hp.mono HB.out.size)
  clear hQ hp HX HB z0 z1 z2 z3 z4 z5 z6 z7 z8 x0 x1 x2 x3 x4 x5 x6 x7 x8 HMP b0 b1 b2 b3 b4 b5 b6 b7
  generalize manyPart ⟨house, gen, life, seq, next, clock, sb, sn, l⟩ = ma at *
  go_wp2_with fail
  go_loopw [3, 4] (fun ps c wr => ∃ (k : Nat) (R : ByteArray), k ≤ l.length ∧ c = .int .i64 k ∧ ps = .string R ∧ Hid (R.data.toList = ma ++ nums (listFields (l.take k))) ∧ Hid (wr.heap[w.heap.size]? = some (.cells (headC ⟨house, gen, life, seq, next, clock, sb, sn, l⟩ (.slice ad l.length cap)) 37 (0, 0))) ∧ Hid (Below w.heap.size w wr)) (fun _ c _ => l.length - (intOf c).toNat)
  case atStart => exact ⟨0, Q, by omega, rfl, rfl, by show _ = _; rw [List.take_zero, listFields_nil, nums_nil, List.append_nil]; exact HQ.out, HXa, HBa⟩
  case round =>
    clear HQ HXa HBa
    obtain ⟨k, R, hk, rfl, rfl, HR, HX, HB⟩ := hrel
    have hRs : R.size = 37 + 4 * k := by
      have e : R.size = R.data.toList.length := by simp
      rw [e, HR.out, List.length_append, listFields_length, HML.out, List.length_take, Nat.min_eq_left hk]
    have hRs2 : R.size ≤ 200 := by omega
    have HRS := hdhid hRs
    clear hRs
    have hw1 : w.heap.size < wr.heap.size := (Array.getElem?_eq_some_iff.1 HX.out).1
    have x8 : wr.cell? ⟨w.heap.size, 8, none⟩ = some (.slice ad l.length cap) := (cells9 HX.out).2.2.2.2.2.2.2.2
    by_cases hlt : k < l.length
    · have hEk := HE.out.on HB.out
      obtain ⟨_, _, hv, _, hc⟩ := hEk
      cases hv
      obtain ⟨b, off, rfl, hb, hcell⟩ := hc (by show 0 < l.length; omega)
      obtain ⟨c0, c1, c2⟩ := hcell k hlt
      have HTK : Hid (listFields (l.take (k + 1)) = listFields (l.take k) ++ enFields l[k]) := by
        show _ = _
        rw [List.take_succ_eq_append_getElem hlt, listFields_append, listFields_one]
      obtain ⟨⟨e0, e1⟩, ⟨e2, e3⟩, e4, e5⟩ := HEB.out l[k] (List.getElem_mem hlt)
      have k0 : (0 : Int) ≤ (k : Int) := by omega
      have k1 : (k : Int) < (l.length : Int) := by omega
      clear hcell hc
      generalize l[k] = y at *
      obtain ⟨kind, node, part⟩ := y
      simp only at e0 e1 e2 e3 e4 e5
      have X8 := hdhid x8
      have C0 : Hid (wr.cell? ⟨b, off + k * 3, none⟩ = some (.int .i64 kind)) := c0
      have C1 : Hid (wr.cell? ⟨b, off + k * 3 + 1, none⟩ = some (.int .i64 node)) := c1
      have C2 : Hid (wr.cell? ⟨b, off + k * 3 + 2, none⟩ = some (.int .i64 part)) := c2
      have z0 : (lowS 1 kind).size = 1 := lowS_len _ _
      have z1 : (lowS 1 node).size = 1 := lowS_len _ _
      have z2 : (lowS 2 part).size = 2 := lowS_len _ _
      have p1 : ¬ 9223372036854775806 < R.size := by omega
      have pp1 : ¬ 9223372036854775807 < R.size + 1 := by omega
      have p2 : ¬ 9223372036854775805 < R.size := by omega
      have pp2 : ¬ 9223372036854775807 < R.size + 2 := by omega
      have p3 : ¬ 9223372036854775803 < R.size := by omega
      have pp3 : ¬ 9223372036854775807 < R.size + 4 := by omega
      have hp : Below wr.heap.size wr wr := Below.refl _ _
      go_wp2_with fail
      go_region_held3 (fun w' => w'.cell? ⟨w.heap.size, 8, none⟩ = some (.slice (some ⟨b, off, none⟩) l.length cap) ∧ w'.cell? ⟨b, off + k * 3, none⟩ = some (.int .i64 kind) ∧ w'.cell? ⟨b, off + k * 3 + 1, none⟩ = some (.int .i64 node) ∧ w'.cell? ⟨b, off + k * 3 + 2, none⟩ = some (.int .i64 part)) (first | go_keep)
        (first
          | (go_at_call 74; refine (refPutS_t _ _ _ ?_ ?_ ?_ ?_).mono ?_; (omega); (omega); (omega); (omega); rintro e y1 ⟨rfl, hb1⟩; (first | rw [t1] | rw [t2]); have hp := hp.trans (Below.mono (show Below _ _ y1 from ⟨hb1.os, hb1.tape, hb1.output, hb1.size, hb1.block⟩) hp.size); have x8 : y1.cell? ⟨w.heap.size, 8, none⟩ = some (.slice (some ⟨b, off, none⟩) l.length cap) := (by rw [hp.cell hw1]; exact X8.out); have c0 : y1.cell? ⟨b, off + k * 3, none⟩ = some (.int .i64 kind) := (by rw [hp.cell hb]; exact C0.out); have c1 : y1.cell? ⟨b, off + k * 3 + 1, none⟩ = some (.int .i64 node) := (by rw [hp.cell hb]; exact C1.out); have c2 : y1.cell? ⟨b, off + k * 3 + 2, none⟩ = some (.int .i64 part) := (by rw [hp.cell hb]; exact C2.out)))
      obtain ⟨P, hP⟩ : ∃ P, P = R ++ lowS 1 kind ++ lowS 1 node ++ lowS 2 part := ⟨_, rfl⟩
      rw [← hP]
      have HPL : Hid (P.data.toList = ma ++ nums (listFields (l.take (k + 1)))) := by
        show _ = _
        rw [hP, HTK.out, nums_append, ← List.append_assoc, ← HR.out]
        simp only [ByteArray.data_append, Array.toList_append, lowS_list, nums, enFields, List.flatMap_cons, List.flatMap_nil, List.append_assoc, List.append_nil]
      have HX3 : Hid (y1.heap[w.heap.size]? = some (.cells (headC ⟨house, gen, life, seq, next, clock, sb, sn, l⟩ (.slice (some ⟨b, off, none⟩) l.length cap)) 37 (0, 0))) := (hp.block _ hw1).trans HX.out
      have HB3 : Hid (Below w.heap.size w y1) := HB.out.trans (hp.mono HB.out.size)
      clear hP hp HX HB HR x8 c0 c1 c2 X8 C0 C1 C2 z0 z1 z2 HTK
      go_wp2_with fail
      exact ⟨⟨k + 1, P, by omega, by go_num, rfl, HPL, HX3, HB3⟩, by simp [intOf]; omega⟩
    · have hkl : l.take k = l := List.take_of_length_le (by omega)
      rw [hkl, HBO.out] at HR
      have hRb : R.size = (body ⟨house, gen, life, seq, next, clock, sb, sn, l⟩).length := by
        have e : R.size = R.data.toList.length := by simp
        rw [e, HR.out]
      rw [← hRb] at HFR
      obtain ⟨n, hn⟩ : ∃ n, n = 252 - R.size := ⟨_, rfl⟩
      rw [← hn] at HFR
      have hn2 : n ≤ 252 := by omega
      have e1 : (252 : Int) - (R.size : Int) = (n : Int) := by omega
      have hmk : (Instr.makeSlice 92 (.int .i64 (252 - (R.size : Int))) (.int .i64 (252 - (R.size : Int)))).run Try.prog wr = .ok (.slice (some ⟨wr.heap.size, 0, none⟩) n n) (wr.alloc (.cells (zrow n) 5)) := by
        rw [e1]
        exact zmake n (by omega) wr
      have hcv := zconv n wr.heap.size (wr.alloc (.cells (zrow n) 5)) (heap_alloc_new _ _)
      have hzs := zerosS_size n
      have hzl := hdhid (zerosS_list n)
      generalize zrow n = Z at *
      generalize zerosS n = ZS at *
      have h9 : R.size + ZS.size ≤ 9223372036854775806 := by omega
      have h8 : (0 : Int) ≤ 252 - (R.size : Int) := by omega
      have HB9 : Hid (Below w.heap.size w (wr.alloc (.cells Z 5))) := HB.out.alloc HB.out.size _
      have HFE : Hid ((⟨(front ⟨house, gen, life, seq, next, clock, sb, sn, l⟩).toArray⟩ : ByteArray) = R ++ ZS) := by
        show _ = _
        apply ByteArray.ext
        rw [ByteArray.data_append, ← HFR.out, ← HR.out, ← hzl.out]
        simp
      clear e1 hn hRb hkl HR HFR HBO HBL HML HX HEB HE HRS hn2
      go_wp2_with fail
      go_ret
      exact ⟨hdStr (by rw [HFE.out]), HB9.out⟩
end Go.Proofs.Ytgbgklnlmgpmjaa
