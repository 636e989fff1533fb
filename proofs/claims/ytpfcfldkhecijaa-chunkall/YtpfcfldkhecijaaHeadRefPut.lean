/- The document's own Put walked. -/
import Derived.Test.YtpfcfldkhecijaaHeadRefFront
namespace Go.Proofs.Ytpfcfldkhecijaa
open Go.RowKit Rec Hdp

set_option maxRecDepth 10000 in
set_option maxHeartbeats 2000000 in
theorem rput_no (x : Hd) (v : Value) (b : ByteArray) (w : World) (hE : Ents w v x.list) (hn : putB x b.size = false) :
    Calls Try.prog 20 #[headV x v, .string b] w fun e w' => e = .returned (.tuple #[.string ⟨#[]⟩, .bool false]) ∧ Below w.heap.size w w' := by
  have HE := hdhid hE
  have CK := hdhid (fun w1 (h : Ents w1 v x.list) => rcheck_t x v w1 h)
  obtain ⟨ad, cap, rfl, _, hc⟩ := hE
  clear hc
  have hcs : okB x = false ∨ (okB x = true ∧ x.list.length ≤ 24 ∧ b.size ≠ 256 * x.list.length) := by
    cases h : okB x
    · exact .inl rfl
    · refine .inr ⟨rfl, okB_len h, fun e => ?_⟩
      simp [putB, h, e] at hn
  clear hn
  rcases hcs with ho | ⟨ho, hlen, hne⟩
  · rw [ho] at CK
    obtain ⟨house, gen, life, seq, next, clock, sb, sn, l⟩ := x
    show Calls _ _ #[.agg #[.int .i64 house, .int .i64 gen, .int .i64 life, .int .i64 seq, .int .i64 next, .int .i64 clock, .int .i64 sb, .int .i64 sn, .slice ad l.length cap], _] _ _
    clear ho
    go_enter Try.func20, Try.ntmps20
    go_wp2_with fail
    refine (CK.out _ (HE.out.on ((Below.refl _ w).alloc (Nat.le_refl _) _))).mono ?_
    rintro e w1 ⟨rfl, hb1⟩
    have HB1 : Hid (Below w.heap.size w w1) := ((Below.refl _ w).alloc (Nat.le_refl _) _).trans (hb1.mono (by simp))
    clear hb1 CK HE
    go_wp2_with fail
    go_ret2
    exact ⟨rfl, HB1.out⟩
  · rw [ho] at CK
    obtain ⟨house, gen, life, seq, next, clock, sb, sn, l⟩ := x
    have hl2 : l.length ≤ 24 := hlen
    have hb1 : ((b.size : Int) == (l.length : Int) * 256) = false := by
      rw [beq_eq_false_iff_ne]
      have h9 : b.size ≠ 256 * l.length := hne
      omega
    have hb2 : ((b.size : Int) != (l.length : Int) * 256) = true := by rw [bne, hb1]; rfl
    clear ho hlen hne
    show Calls _ _ #[.agg #[.int .i64 house, .int .i64 gen, .int .i64 life, .int .i64 seq, .int .i64 next, .int .i64 clock, .int .i64 sb, .int .i64 sn, .slice ad l.length cap], _] _ _
    go_enter Try.func20, Try.ntmps20
    go_wp2_with fail
    refine (CK.out _ (HE.out.on ((Below.refl _ w).alloc (Nat.le_refl _) _))).mono ?_
    rintro e w1 ⟨rfl, hb1⟩
    have HB1 : Hid (Below w.heap.size w w1) := ((Below.refl _ w).alloc (Nat.le_refl _) _).trans (hb1.mono (by simp))
    have x8 : w1.cell? ⟨w.heap.size, 8, none⟩ = some (.slice ad l.length cap) := by rw [hb1.cell (by simp)]; simp
    clear hb1 CK HE
    go_wp2_with fail
    go_ret2
    exact ⟨rfl, HB1.out⟩

set_option maxRecDepth 10000 in
set_option maxHeartbeats 2000000 in
theorem rput_yes (x : Hd) (v : Value) (b : ByteArray) (w : World) (hE : Ents w v x.list) (hp : putB x b.size = true) :
    Calls Try.prog 20 #[headV x v, .string b] w fun e w' => e = .returned (.tuple #[.string ⟨(hbytes x b.data.toList).toArray⟩, .bool true]) ∧ Below w.heap.size w w' := by
  have HE := hdhid hE
  have hok := putB_ok hp
  have hlen := okB_len hok
  have hsz : b.size = 256 * x.list.length := by
    simp only [putB, Bool.and_eq_true, decide_eq_true_eq] at hp
    exact hp.2
  have CK := hdhid (fun w1 (h : Ents w1 v x.list) => rcheck_t x v w1 h)
  rw [hok] at CK
  have WR := hdhid (fun w1 (h : Ents w1 v x.list) => rfront_t x v w1 h hok)
  have hFl := front_length hlen
  have SU : Hid (∀ w1, Calls Try.prog 25 #[.string ⟨(front x).toArray⟩, .string b] w1 fun e w' => e = .returned (.int .i64 (sumL (front x) b.data.toList : Nat)) ∧ w1 = w') := fun w1 => rsum_t ⟨(front x).toArray⟩ b w1 (by show (front x).toArray.size ≤ _; rw [List.size_toArray, hFl]; decide) (by omega)
  have hsl := sumL_lt (front x) b.data.toList
  have HHB : Hid (hbytes x b.data.toList = front x ++ Bin.low 4 (sumL (front x) b.data.toList : Nat)) := rfl
  have hFs : Hid ((⟨(front x).toArray⟩ : ByteArray).size = 252) := by show (front x).toArray.size = 252; rw [List.size_toArray, hFl]
  have LS := hdhid (fun n => lowS_len 4 n)
  obtain ⟨ad, cap, rfl, _, hc⟩ := hE
  clear hc hok hp hFl
  generalize sumL (front x) b.data.toList = sm at *
  generalize hbytes x b.data.toList = hb at *
  generalize front x = F at *
  obtain ⟨house, gen, life, seq, next, clock, sb, sn, l⟩ := x
  have hl2 : l.length ≤ 24 := hlen
  have hb1 : ((b.size : Int) == (l.length : Int) * 256) = true := by
    have h9 : b.size = 256 * l.length := hsz
    simp only [beq_iff_eq]
    omega
  have hb2 : ((b.size : Int) != (l.length : Int) * 256) = false := by rw [bne, hb1]; rfl
  clear hlen hsz
  show Calls _ _ #[.agg #[.int .i64 house, .int .i64 gen, .int .i64 life, .int .i64 seq, .int .i64 next, .int .i64 clock, .int .i64 sb, .int .i64 sn, .slice ad l.length cap], _] _ _
  go_enter Try.func20, Try.ntmps20
  go_wp2_with fail
  generalize hW : w.alloc _ = W
  have HX : Hid (W.heap[w.heap.size]? = some (.cells (headC ⟨house, gen, life, seq, next, clock, sb, sn, l⟩ (.slice ad l.length cap)) 24 (0, 0))) := by rw [← hW]; exact heap_alloc_new _ _
  have HB0 : Hid (Below w.heap.size w W) := by rw [← hW]; exact (Below.refl _ w).alloc (Nat.le_refl _) _
  have hw0 : w.heap.size < W.heap.size := by rw [← hW]; simp
  clear hW
  refine (CK.out _ (HE.out.on HB0.out)).mono ?_
  rintro e w1 ⟨rfl, hb1'⟩
  have HX1 : Hid (w1.heap[w.heap.size]? = some (.cells (headC ⟨house, gen, life, seq, next, clock, sb, sn, l⟩ (.slice ad l.length cap)) 24 (0, 0))) := (hb1'.block _ hw0).trans HX.out
  have HB1 : Hid (Below w.heap.size w w1) := HB0.out.trans (hb1'.mono (by omega))
  have hw1 : w.heap.size < w1.heap.size := by have := hb1'.size; omega
  obtain ⟨x0, x1, x2, x3, x4, x5, x6, x7, x8⟩ := cells9 HX1.out
  clear hb1' CK HX HB0
  go_wp2_with fail
  refine (WR.out _ (HE.out.on HB1.out)).mono ?_
  rintro e w2 ⟨rfl, hb2'⟩
  have HB2 : Hid (Below w.heap.size w w2) := HB1.out.trans (hb2'.mono (by omega))
  clear hb2' WR HE HX1 HB1 x0 x1 x2 x3 x4 x5 x6 x7 x8
  go_wp2_with fail
  refine (SU.out _).mono ?_
  rintro e w3 ⟨rfl, rfl⟩
  go_wp2_with fail
  refine (refPutS_t _ _ _ (by omega) (by omega) (by omega) (by omega)).mono ?_
  rintro e w3 ⟨rfl, hb3⟩
  have HB3 : Hid (Below w.heap.size w w3) := HB2.out.trans (hb3.mono HB2.out.size)
  clear hb3 HB2 SU
  rw [show (4 : Int).toNat = 4 from rfl]
  have hsum : (⟨F.toArray⟩ : ByteArray).size + (lowS 4 (sm : Int)).size ≤ 9223372036854775806 := by rw [hFs.out, LS.out]; decide
  go_wp2_with fail
  go_ret2
  refine ⟨hdPair ?_ rfl, HB3.out⟩
  rw [HHB.out]
  exact join_bytes _ _

/-- A head's bytes, or none: the document's. -/
theorem rput_t (x : Hd) (v : Value) (b : ByteArray) (w : World) (hE : Ents w v x.list) :
    Calls Try.prog 20 #[headV x v, .string b] w fun e w' => e = .returned (.tuple #[.string (putS x b), .bool (putB x b.size)]) ∧ Below w.heap.size w w' := by
  unfold putS
  cases hB : putB x b.size
  · exact rput_no x v b w hE hB
  · exact rput_yes x v b w hE hB
end Go.Proofs.Ytpfcfldkhecijaa
