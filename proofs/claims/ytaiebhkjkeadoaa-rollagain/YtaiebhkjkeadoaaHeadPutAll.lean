/- A head's bytes: write and Put walked, whole. -/
import Derived.Test.YtaiebhkjkeadoaaHeadPut
namespace Go.Proofs.Ytaiebhkjkeadoaa
open Go.RowKit Rec Hdp

theorem hdPair {a b : ByteArray} {c d : Bool} (h : a = b) (k : c = d) : Ending.returned (.tuple #[.string a, .bool c]) = .returned (.tuple #[.string b, .bool d]) := by rw [h, k]
theorem hdStr {a b : ByteArray} (h : a = b) : Ending.returned (.string a) = .returned (.string b) := by rw [h]

set_option maxRecDepth 10000 in
set_option maxHeartbeats 2000000 in
/-- All of a head that may be but its sum. -/
theorem hwrite_t (x : Hd) (v : Value) (w : World) (hE : Ents w v x.list) (hok : okB x = true) :
    Calls Try.prog 48 #[headV x v] w fun e w' => e = .returned (.string ⟨(front x).toArray⟩) ∧ Below w.heap.size w w' := by
  have hlen := okB_len hok
  have HE := hdhid hE
  have HF1 := hdhid (num_fits (okB_num hok))
  have HF2 := hdhid (list_fits (okB_all hok))
  have HN := hdhid (fun (w1 : World) (hx : w1.heap[w.heap.size]? = some (.cells (headC x v) 43 (0, 0))) (hB : w.heap.size + 1 ≤ w1.heap.size) (hW : Wd w1 (w.heap.size + 1) (w.heap.size + 1) [66, 71, 67, 72]) => putNumbers_t w.heap.size (w.heap.size + 1) x v _ [66, 71, 67, 72] w1 hx (by omega) hB hW (by decide) HF1.out)
  have HEN := hdhid (fun (w1 : World) (h0 : Below w.heap.size w w1) (hB : w.heap.size + 1 ≤ w1.heap.size) (hW : Wd w1 (w.heap.size + 1) (w.heap.size + 1) (manyPart x)) => putEntries_t v (w.heap.size + 1) x.list (manyPart x) w w1 HE.out (by omega) h0 hB hW (by rw [manyPart_length]; decide) hlen HF2.out)
  have HNB : Hid ([66, 71, 67, 72] ++ nums (fieldsOf x) = numsPart x) := rfl
  rw [HNB.out] at HN
  have HMB : Hid (numsPart x ++ Bin.low 1 (x.list.length : Int) = manyPart x) := rfl
  have HBB : Hid (manyPart x ++ nums (listFields x.list) = body x) := rfl
  rw [HBB.out] at HEN
  have hNl : Hid ((numsPart x).length = 36) := numsPart_length x
  have hBl : Hid ((body x).length = 37 + 4 * x.list.length) := body_length x
  have HFB : Hid (body x ++ List.replicate (252 - (body x).length) 0 = front x) := rfl
  have hFl : Hid ((front x).length = 252) := front_length hlen
  obtain ⟨ad, cap, rfl, _, hc⟩ := hE
  clear hc HNB HBB HF1 HF2 hok
  obtain ⟨house, gen, life, seq, next, clock, sb, sn, l⟩ := x
  have hlen2 : l.length ≤ 24 := hlen
  clear hlen
  have HX0 : Hid (∀ o, ((w.alloc (.cells (headC ⟨house, gen, life, seq, next, clock, sb, sn, l⟩ (.slice ad l.length cap)) 43)).alloc o).heap[w.heap.size]? = some (.cells (headC ⟨house, gen, life, seq, next, clock, sb, sn, l⟩ (.slice ad l.length cap)) 43 (0, 0))) := fun o => by
    rw [Below.heap_alloc _ _ _ (by simp)]
    exact heap_alloc_new _ _
  have HWN := hdhid (Wd.new (w.alloc (.cells (headC ⟨house, gen, life, seq, next, clock, sb, sn, l⟩ (.slice ad l.length cap)) 43)))
  have e1 : ∀ o, (w.alloc o).heap.size = w.heap.size + 1 := fun o => by simp
  rw [e1] at HWN
  clear e1
  obtain ⟨F, hF⟩ : ∃ F, F = front ⟨house, gen, life, seq, next, clock, sb, sn, l⟩ := ⟨_, rfl⟩
  have HFF := hdhid hF
  rw [← hF] at HFB hFl
  clear hF
  generalize body ⟨house, gen, life, seq, next, clock, sb, sn, l⟩ = bo at *
  generalize manyPart ⟨house, gen, life, seq, next, clock, sb, sn, l⟩ = ma at *
  generalize numsPart ⟨house, gen, life, seq, next, clock, sb, sn, l⟩ = nu at *
  show Calls _ _ #[.agg #[.int .i64 house, .int .i64 gen, .int .i64 life, .int .i64 seq, .int .i64 next, .int .i64 clock, .int .i64 sb, .int .i64 sn, .slice ad l.length cap]] _ _
  go_enter Try.func48, Try.ntmps48
  go_wp2_with fail
  generalize hW : World.alloc (World.alloc w _) _ = W
  have HX : Hid (W.heap[w.heap.size]? = some (.cells (headC ⟨house, gen, life, seq, next, clock, sb, sn, l⟩ (.slice ad l.length cap)) 43 (0, 0))) := by rw [← hW]; exact HX0.out _
  have HW0 : Hid (Wd W (w.heap.size + 1) (w.heap.size + 1) []) := by
    rw [← hW]
    exact HWN.out
  have HB0 : Hid (Below w.heap.size w W) := by rw [← hW]; exact ((Below.refl _ w).alloc (Nat.le_refl _) _).alloc (by simp) _
  have hw0 : w.heap.size + 1 < W.heap.size := by rw [← hW]; simp
  clear hW HX0 HWN
  refine (wwrite_t (w.heap.size + 1) (w.heap.size + 1) [] _ _ HW0.out (by decide) (by omega)).mono ?_
  rintro e w1 ⟨rfl, hwd, hbe, _⟩
  have HW1 : Hid (Wd w1 (w.heap.size + 1) (w.heap.size + 1) [66, 71, 67, 72]) := hwd
  have HX1 : Hid (w1.heap[w.heap.size]? = some (.cells (headC ⟨house, gen, life, seq, next, clock, sb, sn, l⟩ (.slice ad l.length cap)) 43 (0, 0))) := (hbe.block _ (by omega)).trans HX.out
  have HB1 : Hid (Below w.heap.size w w1) := HB0.out.trans (hbe.mono (by omega))
  have hw1 : w.heap.size + 1 < w1.heap.size := by have := hbe.size; omega
  clear hwd hbe HX HB0 HW0
  go_wp2_with fail
  refine (HN.out _ HX1.out (by omega) HW1.out).mono ?_
  rintro e w2 ⟨rfl, hwd, hbe⟩
  have HW2 := hdhid hwd
  have HX2 : Hid (w2.heap[w.heap.size]? = some (.cells (headC ⟨house, gen, life, seq, next, clock, sb, sn, l⟩ (.slice ad l.length cap)) 43 (0, 0))) := (hbe.block _ (by omega)).trans HX1.out
  have HB2 : Hid (Below w.heap.size w w2) := HB1.out.trans (hbe.mono (by omega))
  have hw2 : w.heap.size + 1 < w2.heap.size := by have := hbe.size; omega
  clear hwd hbe HX1 HB1 HW1 HN
  have x8 : w2.cell? ⟨w.heap.size, 8, none⟩ = some (.slice ad l.length cap) := (cells9 HX2.out).2.2.2.2.2.2.2.2
  go_wp2_with fail
  generalize hM : World.alloc w2 _ = M
  have HXM : Hid (M.heap[w2.heap.size]? = some (.cells #[.int .i64 (l.length : Int)] 3 (0, 0))) := by rw [← hM]; exact heap_alloc_new _ _
  have HBM : Hid (Below w2.heap.size w2 M) := by rw [← hM]; exact (Below.refl _ w2).alloc (Nat.le_refl _) _
  have hwM : w2.heap.size < M.heap.size := by rw [← hM]; simp
  clear hM x8
  refine (putEach_t ⟨w2.heap.size, 0, none⟩ (l.length : Int) 1 (w.heap.size + 1) (w.heap.size + 1) nu M ((cell_of_row M _ _ _ _ _ HXM.out).trans rfl) hwM (fun w6 w7 k6 _ o7 => ?_) (by decide) (by omega) (by omega) (HW2.out.on HBM.out) (by omega) (by rw [hNl.out]; decide)).mono ?_
  · have h6 : w6.heap[w2.heap.size]? = some (.cells #[.int .i64 (l.length : Int)] 3 (0, 0)) := (k6.block _ hwM).trans HXM.out
    exact (cell_of_row w7 _ _ _ _ _ (o7.block h6 (by omega) (by decide))).trans rfl
  rintro e w3 ⟨rfl, hwd, hbe, _⟩
  have hbe2 : Below (w.heap.size + 1) w2 w3 := (HBM.out.mono (by omega)).trans hbe
  have HW3 : Hid (Wd w3 (w.heap.size + 1) (w.heap.size + 1) ma) := by
    show Wd _ _ _ _
    rw [← HMB.out]
    exact hwd
  have HX3 : Hid (w3.heap[w.heap.size]? = some (.cells (headC ⟨house, gen, life, seq, next, clock, sb, sn, l⟩ (.slice ad l.length cap)) 43 (0, 0))) := (hbe2.block _ (by omega)).trans HX2.out
  have HB3 : Hid (Below w.heap.size w w3) := HB2.out.trans (hbe2.mono (by omega))
  have hw3 : w.heap.size + 1 < w3.heap.size := by have := hbe2.size; omega
  clear hwd hbe hbe2 HX2 HB2 HW2 HXM HBM hwM HMB
  have x8 : w3.cell? ⟨w.heap.size, 8, none⟩ = some (.slice ad l.length cap) := (cells9 HX3.out).2.2.2.2.2.2.2.2
  go_wp2_with fail
  refine (HEN.out _ HB3.out (by omega) HW3.out).mono ?_
  rintro e w4 ⟨rfl, hwd, hbe⟩
  have HW4 := hdhid hwd
  have HB4 : Hid (Below w.heap.size w w4) := HB3.out.trans (hbe.mono (by omega))
  have hw4 : w.heap.size + 1 < w4.heap.size := by have := hbe.size; omega
  clear hwd hbe HX3 HB3 HW3 HEN x8
  go_wp2_with fail
  refine (wlen_t _ _ _ _ HW4.out).mono ?_
  rintro e w5 ⟨rfl, rfl⟩
  have hBL := hBl.out
  have hBL2 : bo.length ≤ 252 := by
    have h9 : bo.length = 37 + 4 * l.length := hBL
    omega
  have HLE : Hid ((252 : Int) - (bo.length : Int) = ((252 - bo.length : Nat) : Int)) := by show _ = _; omega
  clear hBL hBl
  go_wp2_with fail
  rw [HLE.out]
  refine (zerosS_t (252 - bo.length) _ (by omega)).mono ?_
  rintro e w5 ⟨rfl, hb5⟩
  have HW5 := hdhid (HW4.out.on hb5)
  have HB5 : Hid (Below w.heap.size w w5) := HB4.out.trans (hb5.mono (by omega))
  have hw5 : w.heap.size + 1 < w5.heap.size := by have := hb5.size; omega
  clear hb5 HW4 HB4
  go_wp2_with fail
  refine (wwrite_t (w.heap.size + 1) (w.heap.size + 1) bo _ _ HW5.out (by rw [zerosS_size]; omega) (by omega)).mono ?_
  rintro e w6 ⟨rfl, hwd, hbe, _⟩
  have HW6 : Hid (Wd w6 (w.heap.size + 1) (w.heap.size + 1) F) := by
    have := hwd
    rw [zerosS_list, HFB.out] at this
    exact this
  have HB6 : Hid (Below w.heap.size w w6) := HB5.out.trans (hbe.mono (by omega))
  clear hwd hbe HW5 HB5
  have hF0 : F ≠ [] := by
    intro h
    have := hFl.out
    rw [h] at this
    cases this
  go_wp2_with fail
  refine (wtext_t _ _ _ _ HW6.out hF0).mono ?_
  rintro e w7 ⟨rfl, hbe, _⟩
  have HB7 : Hid (Below w.heap.size w w7) := HB6.out.trans (hbe.mono (by omega))
  clear hbe HB6 HW6 hF0
  go_wp2_with fail
  go_ret
  exact ⟨hdStr (by rw [HFF.out]), HB7.out⟩

theorem join_bytes (a b : List UInt8) : (⟨a.toArray⟩ : ByteArray) ++ (⟨b.toArray⟩ : ByteArray) = ⟨(a ++ b).toArray⟩ := by
  apply ByteArray.ext
  rw [ByteArray.data_append]
  simp

set_option maxRecDepth 10000 in
set_option maxHeartbeats 2000000 in
theorem hput_no (x : Hd) (v : Value) (b : ByteArray) (w : World) (hE : Ents w v x.list) (hn : putB x b.size = false) :
    Calls Try.prog 40 #[headV x v, .string b] w fun e w' => e = .returned (.tuple #[.string ⟨#[]⟩, .bool false]) ∧ Below w.heap.size w w' := by
  have HE := hdhid hE
  have CK := hdhid (fun w1 (h : Ents w1 v x.list) => hcheck_t x v w1 h)
  obtain ⟨ad, cap, rfl, _, hc⟩ := hE
  clear hc
  have hcs : okB x = false ∨ (okB x = true ∧ x.list.length ≤ 24 ∧ b.size ≠ 256 * x.list.length) := by
    cases h : okB x
    · exact .inl rfl
    · refine .inr ⟨rfl, okB_len h, fun e => ?_⟩
      simp [putB, h, e] at hn
  clear hn
  rcases hcs with ho | ⟨ho, hlen, hne⟩
  · rw [ho] at CK
    obtain ⟨house, gen, life, seq, next, clock, sb, sn, l⟩ := x
    show Calls _ _ #[.agg #[.int .i64 house, .int .i64 gen, .int .i64 life, .int .i64 seq, .int .i64 next, .int .i64 clock, .int .i64 sb, .int .i64 sn, .slice ad l.length cap], _] _ _
    clear ho
    go_enter Try.func40, Try.ntmps40
    go_wp2_with fail
    refine (CK.out _ (HE.out.on ((Below.refl _ w).alloc (Nat.le_refl _) _))).mono ?_
    rintro e w1 ⟨rfl, hb1⟩
    have HB1 : Hid (Below w.heap.size w w1) := ((Below.refl _ w).alloc (Nat.le_refl _) _).trans (hb1.mono (by simp))
    clear hb1 CK HE
    go_wp2_with fail
    go_ret2
    exact ⟨rfl, HB1.out⟩
  · rw [ho] at CK
    obtain ⟨house, gen, life, seq, next, clock, sb, sn, l⟩ := x
    have hl2 : l.length ≤ 24 := hlen
    have hb1 : ((b.size : Int) == 256 * (l.length : Int)) = false := by
      rw [beq_eq_false_iff_ne]
      have h9 : b.size ≠ 256 * l.length := hne
      omega
    have hb2 : ((b.size : Int) != 256 * (l.length : Int)) = true := by rw [bne, hb1]; rfl
    clear ho hlen hne
    show Calls _ _ #[.agg #[.int .i64 house, .int .i64 gen, .int .i64 life, .int .i64 seq, .int .i64 next, .int .i64 clock, .int .i64 sb, .int .i64 sn, .slice ad l.length cap], _] _ _
    go_enter Try.func40, Try.ntmps40
    go_wp2_with fail
    refine (CK.out _ (HE.out.on ((Below.refl _ w).alloc (Nat.le_refl _) _))).mono ?_
    rintro e w1 ⟨rfl, hb1⟩
    have HB1 : Hid (Below w.heap.size w w1) := ((Below.refl _ w).alloc (Nat.le_refl _) _).trans (hb1.mono (by simp))
    have x8 : w1.cell? ⟨w.heap.size, 8, none⟩ = some (.slice ad l.length cap) := by rw [hb1.cell (by simp)]; simp
    clear hb1 CK HE
    go_wp2_with fail
    go_ret2
    exact ⟨rfl, HB1.out⟩

set_option maxRecDepth 10000 in
set_option maxHeartbeats 2000000 in
theorem hput_yes (x : Hd) (v : Value) (b : ByteArray) (w : World) (hE : Ents w v x.list) (hp : putB x b.size = true) :
    Calls Try.prog 40 #[headV x v, .string b] w fun e w' => e = .returned (.tuple #[.string ⟨(hbytes x b.data.toList).toArray⟩, .bool true]) ∧ Below w.heap.size w w' := by
  have HE := hdhid hE
  have hok := putB_ok hp
  have hlen := okB_len hok
  have hsz : b.size = 256 * x.list.length := by
    simp only [putB, Bool.and_eq_true, decide_eq_true_eq] at hp
    exact hp.2
  have CK := hdhid (fun w1 (h : Ents w1 v x.list) => hcheck_t x v w1 h)
  rw [hok] at CK
  have WR := hdhid (fun w1 (h : Ents w1 v x.list) => hwrite_t x v w1 h hok)
  have hFl := front_length hlen
  have SU : Hid (∀ w1, Calls Try.prog 50 #[.string ⟨(front x).toArray⟩, .string b] w1 fun e w' => e = .returned (.int .i64 (sumL (front x) b.data.toList : Nat)) ∧ w1 = w') := fun w1 => hsum_t ⟨(front x).toArray⟩ b w1 (by show (front x).toArray.size ≤ _; rw [List.size_toArray, hFl]; decide) (by omega)
  have hsl := sumL_lt (front x) b.data.toList
  have HHB : Hid (hbytes x b.data.toList = front x ++ Bin.low 4 (sumL (front x) b.data.toList : Nat)) := rfl
  have hFs : Hid ((⟨(front x).toArray⟩ : ByteArray).size = 252) := by show (front x).toArray.size = 252; rw [List.size_toArray, hFl]
  have LS := hdhid (fun n => lowS_size 4 n)
  obtain ⟨ad, cap, rfl, _, hc⟩ := hE
  clear hc hok hp hFl
  generalize sumL (front x) b.data.toList = sm at *
  generalize hbytes x b.data.toList = hb at *
  generalize front x = F at *
  obtain ⟨house, gen, life, seq, next, clock, sb, sn, l⟩ := x
  have hl2 : l.length ≤ 24 := hlen
  have hb1 : ((b.size : Int) == 256 * (l.length : Int)) = true := by
    have h9 : b.size = 256 * l.length := hsz
    simp only [beq_iff_eq]
    omega
  have hb2 : ((b.size : Int) != 256 * (l.length : Int)) = false := by rw [bne, hb1]; rfl
  clear hlen hsz
  show Calls _ _ #[.agg #[.int .i64 house, .int .i64 gen, .int .i64 life, .int .i64 seq, .int .i64 next, .int .i64 clock, .int .i64 sb, .int .i64 sn, .slice ad l.length cap], _] _ _
  go_enter Try.func40, Try.ntmps40
  go_wp2_with fail
  generalize hW : w.alloc _ = W
  have HX : Hid (W.heap[w.heap.size]? = some (.cells (headC ⟨house, gen, life, seq, next, clock, sb, sn, l⟩ (.slice ad l.length cap)) 43 (0, 0))) := by rw [← hW]; exact heap_alloc_new _ _
  have HB0 : Hid (Below w.heap.size w W) := by rw [← hW]; exact (Below.refl _ w).alloc (Nat.le_refl _) _
  have hw0 : w.heap.size < W.heap.size := by rw [← hW]; simp
  clear hW
  refine (CK.out _ (HE.out.on HB0.out)).mono ?_
  rintro e w1 ⟨rfl, hb1'⟩
  have HX1 : Hid (w1.heap[w.heap.size]? = some (.cells (headC ⟨house, gen, life, seq, next, clock, sb, sn, l⟩ (.slice ad l.length cap)) 43 (0, 0))) := (hb1'.block _ hw0).trans HX.out
  have HB1 : Hid (Below w.heap.size w w1) := HB0.out.trans (hb1'.mono (by omega))
  have hw1 : w.heap.size < w1.heap.size := by have := hb1'.size; omega
  obtain ⟨x0, x1, x2, x3, x4, x5, x6, x7, x8⟩ := cells9 HX1.out
  clear hb1' CK HX HB0
  go_wp2_with fail
  refine (WR.out _ (HE.out.on HB1.out)).mono ?_
  rintro e w2 ⟨rfl, hb2'⟩
  have HB2 : Hid (Below w.heap.size w w2) := HB1.out.trans (hb2'.mono (by omega))
  clear hb2' WR HE HX1 HB1 x0 x1 x2 x3 x4 x5 x6 x7 x8
  go_wp2_with fail
  refine (SU.out _).mono ?_
  rintro e w3 ⟨rfl, rfl⟩
  go_wp2_with fail
  refine (putn_t _ _ _ (by omega) (by omega) (by omega) (by omega)).mono ?_
  rintro e w3 ⟨rfl, hb3⟩
  have HB3 : Hid (Below w.heap.size w w3) := HB2.out.trans (hb3.mono HB2.out.size)
  clear hb3 HB2 SU
  have hsum : (⟨F.toArray⟩ : ByteArray).size + (⟨(Bin.low 4 (sm : Int)).toArray⟩ : ByteArray).size ≤ 9223372036854775806 := by rw [hFs.out, LS.out]; decide
  go_wp2_with fail
  go_ret2
  refine ⟨hdPair ?_ rfl, HB3.out⟩
  rw [HHB.out]
  exact join_bytes _ _

/-- A head's bytes, or none. -/
theorem hput_t (x : Hd) (v : Value) (b : ByteArray) (w : World) (hE : Ents w v x.list) :
    Calls Try.prog 40 #[headV x v, .string b] w fun e w' => e = .returned (.tuple #[.string (putS x b), .bool (putB x b.size)]) ∧ Below w.heap.size w w' := by
  unfold putS
  cases hB : putB x b.size
  · exact hput_no x v b w hE hB
  · exact hput_yes x v b w hE hB
end Go.Proofs.Ytaiebhkjkeadoaa
