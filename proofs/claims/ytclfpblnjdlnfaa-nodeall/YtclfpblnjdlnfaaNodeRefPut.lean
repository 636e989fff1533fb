/- The document's own Put walked. -/
import Derived.Test.YtclfpblnjdlnfaaNodeRef
import Derived.Deep.RegionHeld3
namespace Go.Proofs.Ytclfpblnjdlnfaa
open Go.RowKit Rec Nod

/-- So many bytes of a number, as a text. -/
def lowS (n : Nat) (v : Int) : ByteArray := ⟨(Bin.low n v).toArray⟩
theorem lowS_len (n : Nat) (v : Int) : (lowS n v).size = n := by
  show (Bin.low n v).toArray.size = n
  simp [Bin.low_length]
theorem lowS_list (n : Nat) (v : Int) : (lowS n v).data.toList = Bin.low n v := by simp [lowS]
theorem refPutS_t (v n : Int) (w : World) (h0 : 0 ≤ n) (h7 : n ≤ 7) (h1 : -9223372036854775808 ≤ v) (h2 : v ≤ 9223372036854775807) :
    Calls Try.prog 24 #[.int .i64 v, .int .i64 n] w fun e w' => e = .returned (.string (lowS n.toNat v)) ∧ Below w.heap.size w w' := by
  have := refPut_t v n.toNat w (by omega) h1 h2
  rw [show ((n.toNat : Nat) : Int) = n by omega] at this
  exact this

theorem field_ptr (x : Nd) (k : Nat) (hk : k < 14) (h : 5 + k < (fieldsOf x).length) : (fieldsOf x)[5 + k] = (2, x.ptr k) := by
  have hc : k = 0 ∨ k = 1 ∨ k = 2 ∨ k = 3 ∨ k = 4 ∨ k = 5 ∨ k = 6 ∨ k = 7 ∨ k = 8 ∨ k = 9 ∨ k = 10 ∨ k = 11 ∨ k = 12 ∨ k = 13 := by omega
  rcases hc with rfl | rfl | rfl | rfl | rfl | rfl | rfl | rfl | rfl | rfl | rfl | rfl | rfl | rfl <;> rfl
theorem fields_length (x : Nd) : (fieldsOf x).length = 19 := rfl

set_option maxRecDepth 10000 in
set_option maxHeartbeats 8000000 in
theorem refPut_yes (x : Nd) (w : World) (hok : okB x = true) :
    Calls Try.prog 9 #[nodeV x] w fun e w' => e = .returned (.tuple #[.string ⟨(nbytes x).toArray⟩, .bool true]) ∧ Below w.heap.size w w' := by
  have HFT := ndhid (okB_fits hok)
  have b0 := HFT.out (1, x.num) (by simp [fieldsOf])
  have b1 := HFT.out (1, x.kind) (by simp [fieldsOf])
  have b2 := HFT.out (1, x.links) (by simp [fieldsOf])
  have b3 := HFT.out (4, x.size) (by simp [fieldsOf])
  have b4 := HFT.out (6, x.time) (by simp [fieldsOf])
  have HPT : Hid (∀ k, k < 14 → 0 ≤ x.ptr k ∧ x.ptr k < 65536) := fun k hk => by
    have h1 := HFT.out ((fieldsOf x)[5 + k]'(by rw [fields_length]; omega)) (List.getElem_mem _)
    rw [field_ptr x k hk] at h1
    exact ⟨h1.1, by have := h1.2; simpa using this⟩
  have HSN : Hid (∀ k, k < 14 → nums ((fieldsOf x).take (5 + (k + 1))) = nums ((fieldsOf x).take (5 + k)) ++ Bin.low 2 (x.ptr k)) := fun k hk => by
    rw [show 5 + (k + 1) = (5 + k) + 1 by omega, nums_snoc (fieldsOf x) (5 + k) (by rw [fields_length]; omega), field_ptr x k hk]
  have HCK := ndhid (fun w1 => rcheck_t x w1)
  rw [hok] at HCK
  have h6 : Hid ((nums (fieldsOf x)).length = 41) := by show _ = _; rw [nums_length]; simp [fieldsOf]
  have HN5 : Hid (nums ((fieldsOf x).take (5 + 0)) = Bin.low 1 x.num ++ (Bin.low 1 x.kind ++ (Bin.low 1 x.links ++ (Bin.low 4 x.size ++ Bin.low 6 x.time)))) := by
    show _ = _
    simp only [nums, fieldsOf, List.take_succ_cons, List.take_zero, List.flatMap_cons, List.flatMap_nil, List.append_nil, Nat.reduceAdd]
  have HBO : Hid ([66, 71, 78, 68] ++ nums ((fieldsOf x).take (5 + 14)) = body x) := by
    show _ = _
    rw [List.take_of_length_le (by rw [fields_length]; decide)]
    rfl
  have HFR : Hid (body x ++ List.replicate 207 0 = front x) := rfl
  have HTB : Hid (front x ++ Bin.low 4 (Sum.crc (front x) : Nat) = nbytes x) := rfl
  have HTL : Hid (∀ k, (nums ((fieldsOf x).take k)).length ≤ (nums (fieldsOf x)).length) := fun k => nums_take_length (fieldsOf x) k
  have hcl := Sum.crc_lt (front x)
  clear hok HFT
  go_enter Try.func9, Try.ntmps9
  go_wp2_with (first | (refine wpList_load_row rfl 24 (.tmp 1) rfl w.heap.size rfl 24 (nodeC x) (0, 0) _ (heap_alloc_new _ _) Try.underlying24 rfl Try.nodeSize ?_) | fail)
  refine (HCK.out _).mono ?_
  rintro e w1 ⟨rfl, hb1⟩
  have HX : Hid (w1.heap[w.heap.size]? = some (.cells (nodeC x) 24 (0, 0))) := by show _ = _; rw [hb1.block _ (by simp)]; exact heap_alloc_new _ _
  have HB1 : Hid (Below w.heap.size w w1) := ((Below.refl _ _).alloc (Nat.le_refl _) _).trans (hb1.mono (by simp))
  have hw1 : w.heap.size < w1.heap.size := by have := hb1.size; simp at this; omega
  clear hb1 HCK
  rename World => W
  have x0 : W.cell? ⟨w.heap.size, 0, none⟩ = some (.int .i64 x.num) := (cell_of_row W _ _ _ _ _ HX.out).trans rfl
  have x1 : W.cell? ⟨w.heap.size, 1, none⟩ = some (.int .i64 x.kind) := (cell_of_row W _ _ _ _ _ HX.out).trans rfl
  have x2 : W.cell? ⟨w.heap.size, 2, none⟩ = some (.int .i64 x.links) := (cell_of_row W _ _ _ _ _ HX.out).trans rfl
  have x3 : W.cell? ⟨w.heap.size, 3, none⟩ = some (.int .i64 x.size) := (cell_of_row W _ _ _ _ _ HX.out).trans rfl
  have x4 : W.cell? ⟨w.heap.size, 4, none⟩ = some (.int .i64 x.time) := (cell_of_row W _ _ _ _ _ HX.out).trans rfl
  have X0 := ndhid x0
  have X1 := ndhid x1
  have X2 := ndhid x2
  have X3 := ndhid x3
  have X4 := ndhid x4
  have z0 : (lowS 1 x.num).size = 1 := lowS_len _ _
  have z1 : (lowS 1 x.kind).size = 1 := lowS_len _ _
  have z2 : (lowS 1 x.links).size = 1 := lowS_len _ _
  have z3 : (lowS 4 x.size).size = 4 := lowS_len _ _
  have z4 : (lowS 6 x.time).size = 6 := lowS_len _ _
  have t1 : (1 : Int).toNat = 1 := rfl
  have t4 : (4 : Int).toNat = 4 := rfl
  have t6 : (6 : Int).toNat = 6 := rfl
  have hp : Below W.heap.size W W := Below.refl _ _
  go_wp2_with fail
  go_region_held3 (fun w' => w'.cell? ⟨w.heap.size, 0, none⟩ = some (.int .i64 x.num) ∧ w'.cell? ⟨w.heap.size, 1, none⟩ = some (.int .i64 x.kind) ∧ w'.cell? ⟨w.heap.size, 2, none⟩ = some (.int .i64 x.links) ∧ w'.cell? ⟨w.heap.size, 3, none⟩ = some (.int .i64 x.size) ∧ w'.cell? ⟨w.heap.size, 4, none⟩ = some (.int .i64 x.time)) (first | go_keep)
    (first
      | (go_at_call 24; refine (refPutS_t _ _ _ ?_ ?_ ?_ ?_).mono ?_; (omega); (omega); (omega); (omega); rintro e w1 ⟨rfl, hb1⟩; (first | rw [t1] | rw [t4] | rw [t6]); have hp := hp.trans (Below.mono (show Below _ _ w1 from ⟨hb1.os, hb1.tape, hb1.output, hb1.size, hb1.block⟩) hp.size); have x0 : w1.cell? ⟨w.heap.size, 0, none⟩ = some (.int .i64 x.num) := (by rw [hp.cell (by show w.heap.size < W.heap.size; omega)]; exact X0.out); have x1 : w1.cell? ⟨w.heap.size, 1, none⟩ = some (.int .i64 x.kind) := (by rw [hp.cell (by show w.heap.size < W.heap.size; omega)]; exact X1.out); have x2 : w1.cell? ⟨w.heap.size, 2, none⟩ = some (.int .i64 x.links) := (by rw [hp.cell (by show w.heap.size < W.heap.size; omega)]; exact X2.out); have x3 : w1.cell? ⟨w.heap.size, 3, none⟩ = some (.int .i64 x.size) := (by rw [hp.cell (by show w.heap.size < W.heap.size; omega)]; exact X3.out); have x4 : w1.cell? ⟨w.heap.size, 4, none⟩ = some (.int .i64 x.time) := (by rw [hp.cell (by show w.heap.size < W.heap.size; omega)]; exact X4.out)))
  obtain ⟨Q, hQ⟩ : ∃ Q, Q = ({ data := #[66, 71, 78, 68] } ++ lowS 1 x.num ++ lowS 1 x.kind ++ lowS 1 x.links ++ lowS 4 x.size ++ lowS 6 x.time : ByteArray) := ⟨_, rfl⟩
  rw [← hQ]
  have HQ : Hid (Q.data.toList = [66, 71, 78, 68] ++ nums ((fieldsOf x).take (5 + 0))) := by
    show _ = _
    rw [hQ, HN5.out]
    simp only [ByteArray.data_append, Array.toList_append, lowS_list, List.append_assoc]
  have HXa : Hid (w1.heap[w.heap.size]? = some (.cells (nodeC x) 24 (0, 0))) := by
    show _ = _
    rw [hp.block _ hw1]
    exact HX.out
  have HBa : Hid (Below w.heap.size w w1) := HB1.out.trans (hp.mono HB1.out.size)
  clear hQ hp HX HB1 hw1 z0 z1 z2 z3 z4 x0 x1 x2 x3 x4 X0 X1 X2 X3 X4 b0 b1 b2 b3 b4 HN5
  go_wp2_with fail
  go_loopw [4, 5] (fun ps c wr => ∃ (k : Nat) (R : ByteArray), k ≤ 14 ∧ c = .int .i64 k ∧ ps = .string R ∧ Hid (R.data.toList = [66, 71, 78, 68] ++ nums ((fieldsOf x).take (5 + k))) ∧ Hid (wr.heap[w.heap.size]? = some (.cells (nodeC x) 24 (0, 0))) ∧ Hid (Below w.heap.size w wr)) (fun _ c _ => 14 - (intOf c).toNat)
  case atStart => exact ⟨0, Q, by omega, rfl, rfl, HQ, HXa, HBa⟩
  case round =>
    clear HQ HXa HBa
    obtain ⟨k, R, hk, rfl, rfl, HR, HX, HB⟩ := hrel
    have hRs : R.size ≤ 100 := by
      have e : R.size = R.data.toList.length := by simp
      have h5 := HTL.out (5 + k)
      have h7 := h6.out
      rw [e, HR.out, List.length_append]
      simp only [List.length_cons, List.length_nil]
      omega
    have hw1 : w.heap.size < wr.heap.size := (Array.getElem?_eq_some_iff.1 HX.out).1
    by_cases hk2 : k < 14
    · have c0 : wr.cell? ⟨w.heap.size, 5 + k, none⟩ = some (.int .i64 (x.ptr k)) := (cell_of_row wr _ _ _ _ _ HX.out).trans (node_cell x k hk2)
      have hq := HPT.out k hk2
      have HS2 := ndhid (HSN.out k hk2)
      clear HPT HSN HBO HFR HTB HTL h6
      generalize x.ptr k = q at *
      go_wp2_with fail
      refine (refPutS_t _ _ _ (by omega) (by omega) (by omega) (by omega)).mono ?_
      rintro e w3 ⟨rfl, hb3⟩
      rw [show (2 : Int).toNat = 2 from rfl]
      have zz : (lowS 2 q).size = 2 := lowS_len _ _
      have HX3 : Hid (w3.heap[w.heap.size]? = some (.cells (nodeC x) 24 (0, 0))) := by
        show _ = _
        rw [hb3.block _ hw1]
        exact HX.out
      have HB3 : Hid (Below w.heap.size w w3) := HB.out.trans (hb3.mono HB.out.size)
      have HN : Hid ((R ++ lowS 2 q).data.toList = [66, 71, 78, 68] ++ nums ((fieldsOf x).take (5 + (k + 1)))) := by
        show _ = _
        rw [ByteArray.data_append, Array.toList_append, HR.out, lowS_list, HS2.out, ← List.append_assoc]
      clear hb3 HX HB HR HS2
      go_wp2_with fail
      exact ⟨⟨k + 1, _, by omega, rfl, rfl, HN, HX3, HB3⟩, by simp [intOf]; omega⟩
    · have hk3 : k = 14 := by omega
      subst hk3
      obtain ⟨P, hP⟩ : ∃ P, P = R := ⟨_, rfl⟩
      rw [← hP] at HR hRs ⊢
      have HPL : Hid (P.data.toList = body x) := by
        show _ = _
        rw [HR.out, HBO.out]
      have HBw : Hid (Below w.heap.size w wr) := HB
      have hPs : P.size = 45 := by
        have e : P.size = P.data.toList.length := by simp
        rw [e, HPL.out, body_length]
      have hPi : (P.size : Int) = 45 := by omega
      clear hP HR HX HB hRs HPT HSN HBO HTL h6 hk hk2 hw1
      have hmk : (Instr.makeSlice 33 (.int .i64 207) (.int .i64 207)).run Try.prog wr = .ok (.slice (some ⟨wr.heap.size, 0, none⟩) 207 207) (wr.alloc (.cells (zrow 207) 5)) := zmake 207 (by decide) wr
      have hcv : (convert 33 9 (.slice (some ⟨wr.heap.size, 0, none⟩) 207 207)).run Try.prog (wr.alloc (.cells (zrow 207) 5)) = .ok (.string (zerosS 207)) (wr.alloc (.cells (zrow 207) 5)) := zconv 207 wr.heap.size _ (heap_alloc_new _ _)
      obtain ⟨V, hV⟩ : ∃ V, V = wr.alloc (.cells (zrow 207) 5) := ⟨_, rfl⟩
      rw [← hV] at hmk hcv
      have HVB : Hid (Below w.heap.size w V) := by rw [hV]; exact HBw.out.alloc HBw.out.size _
      have hzs : (zerosS 207).size = 207 := zerosS_size 207
      obtain ⟨F, hF⟩ : ∃ F, F = P ++ zerosS 207 := ⟨_, rfl⟩
      have HFF : Hid (F.data.toList = front x) := by
        show _ = _
        rw [hF, ByteArray.data_append, Array.toList_append, HPL.out, zerosS_list, HFR.out]
      have hFs : F.size = 252 := by rw [hF, ByteArray.size_append, hPs, hzs]
      have HFE := ndhid hF
      have CRC := ndhid (fun w6 => refOf F w6 (by omega))
      rw [HFF.out] at CRC
      have HTX : Hid (∀ T : ByteArray, T = F ++ lowS 4 (Sum.crc (front x) : Nat) → T = ⟨(nbytes x).toArray⟩) := by
        intro T hT
        apply ByteArray.ext
        rw [hT, ByteArray.data_append]
        apply Array.toList_inj.1
        rw [Array.toList_append, HFF.out, lowS_list]
        exact HTB.out
      generalize zerosS 207 = Z at *
      generalize Sum.crc (front x) = cc at *
      have hFs2 : (F.size : Int) = 252 := by omega
      have HFS := ndhid hFs
      have p1 : ¬ 9223372036854775807 < P.size + Z.size := by omega
      clear hV hF hPs hFs HBw
      go_wp2_with fail
      rw [← HFE.out]
      refine (CRC.out _).mono ?_
      rintro e w6 ⟨rfl, rfl⟩
      go_wp2_with fail
      refine (refPutS_t _ _ _ (by omega) (by omega) (by omega) (by omega)).mono ?_
      rintro e w7 ⟨rfl, hb7⟩
      rw [show (4 : Int).toNat = 4 from rfl]
      have zz : (lowS 4 (cc : Int)).size = 4 := lowS_len _ _
      have HB9 : Hid (Below w.heap.size w w7) := HVB.out.trans (hb7.mono HVB.out.size)
      have p2 : ¬ 9223372036854775807 < F.size + (lowS 4 (cc : Int)).size := by have := HFS.out; omega
      have HT2 := ndhid (HTX.out _ rfl)
      clear hb7 HVB HTX CRC
      go_wp2_with fail
      go_ret2
      exact ⟨ndPair HT2.out rfl, HB9.out⟩


set_option maxRecDepth 10000 in
set_option maxHeartbeats 1000000 in
/-- The document's own Put: a node's bytes, or none. -/
theorem rput_t (x : Nd) (w : World) :
    Calls Try.prog 9 #[nodeV x] w fun e w' => e = .returned (.tuple #[.string (putS x), .bool (okB x)]) ∧ Below w.heap.size w w' := by
  unfold putS
  cases hB : okB x
  · have HCK := ndhid (fun w1 => rcheck_t x w1)
    rw [hB] at HCK
    clear hB
    go_enter Try.func9, Try.ntmps9
    go_wp2_with (first | (refine wpList_load_row rfl 24 (.tmp 1) rfl w.heap.size rfl 24 (nodeC x) (0, 0) _ (heap_alloc_new _ _) Try.underlying24 rfl Try.nodeSize ?_) | fail)
    refine (HCK.out _).mono ?_
    rintro e w1 ⟨rfl, hb1⟩
    have HB1 : Hid (Below w.heap.size w w1) := ((Below.refl _ _).alloc (Nat.le_refl _) _).trans (hb1.mono (by simp))
    clear hb1 HCK
    go_wp2_with fail
    go_ret2
    exact ⟨rfl, HB1.out⟩
  · exact refPut_yes x w hB
end Go.Proofs.Ytclfpblnjdlnfaa
