/- HeadBack walked: what is put is got, whatever stands behind; the sum is of the head and the body. -/
import Derived.Test.YtmhhlchddkdjnaaHeadSame
import Derived.Test.YtmhhlchddkdjnaaFilled
import Derived.Test.YtmhhlchddkdjnaaTurned
namespace Go.Proofs.Ytmhhlchddkdjnaa
open Go.RowKit Rec Hdp

set_option maxRecDepth 10000 in
set_option maxHeartbeats 2000000 in
theorem headBack_many (x : Hd) (vl : Value) (v bit : Int) (more : ByteArray) (w : World) (hE : Ents w vl x.list) (hf : ¬ (x.list.length ≤ 40 ∧ more.size ≤ 7680)) :
    Calls Try.prog 4 #[headV x vl, .int .i64 v, .string more, .int .i64 bit] w fun e w' => e = .returned (.bool true) ∧ Below w.heap.size w w' := by
  have HEI := hdhid hE
  obtain ⟨ad, cap, rfl, _, hc⟩ := hE
  clear hc
  have FEW := hdhid (fun w1 => few_t x ad x.list.length cap more w1)
  rw [decide_eq_false hf] at FEW
  clear hf
  have AW := hdhid awake_t
  obtain ⟨house, gen, life, seq, next, clock, sb, sn, l⟩ := x
  show Calls _ _ #[.agg #[.int .i64 house, .int .i64 gen, .int .i64 life, .int .i64 seq, .int .i64 next, .int .i64 clock, .int .i64 sb, .int .i64 sn, .slice ad l.length cap], _, _, _] _ _
  go_enter Try.func4, Try.ntmps4
  go_wp2_with fail
  generalize hW : World.alloc w _ = w0
  have HX0 : Hid (w0.heap[w.heap.size]? = some (.cells (headC ⟨house, gen, life, seq, next, clock, sb, sn, l⟩ (.slice ad l.length cap)) 24 (0, 0))) := by rw [← hW]; exact heap_alloc_new _ _
  have HB0 : Hid (Below w.heap.size w w0) := by rw [← hW]; exact (Below.refl _ w).alloc (Nat.le_refl _) _
  have hw0 : w.heap.size < w0.heap.size := by rw [← hW]; simp
  have HE0 := hdhid (HEI.out.on HB0.out)
  clear hW HEI
  refine (FEW.out _).mono ?_
  rintro e w1 ⟨rfl, hb⟩
  have HX1 : Hid (w1.heap[w.heap.size]? = some (.cells (headC ⟨house, gen, life, seq, next, clock, sb, sn, l⟩ (.slice ad l.length cap)) 24 (0, 0))) := (hb.block _ hw0).trans HX0.out
  have HB1 : Hid (Below w.heap.size w w1) := HB0.out.trans (hb.mono (by omega))
  have HE1 := hdhid (HE0.out.on hb)
  have hw1 : w.heap.size < w1.heap.size := by have := hb.size; omega
  clear hb HX0 HB0 HE0 FEW
  go_wp2_with fail
  refine (AW.out _).mono ?_
  rintro e w2 ⟨rfl, hb⟩
  have HB2 : Hid (Below w.heap.size w w2) := HB1.out.trans (hb.mono (by omega))
  clear hb HB1 AW
  go_wp2_with fail
  go_ret
  exact ⟨rfl, HB2.out⟩

theorem pno_t (x : Hd) (v : Value) (b : ByteArray) (w : World) (hE : Ents w v x.list) (hp : putB x b.size = false) :
    Calls Try.prog 9 #[headV x v, .string b] w fun e w' => e = .returned (.tuple #[.string ⟨#[]⟩, .bool false]) ∧ Below w.heap.size w w' := hput_no x v b w hE hp

/-- What stands behind a block's first 252 bytes. -/
theorem slice_behind (g n gc : Nat) (w : World) (h : gc ≠ 252) : (Instr.slice 38 (.slice (some ⟨g, 0, none⟩) (252 + n) gc) (some (.int .i64 252)) none none).run Try.prog w = .ok (.slice (some ⟨g, 252, none⟩) n (gc - 252)) w := by
  have e : (⟨g, 0, none⟩ : Addr).add 252 = ⟨g, 252, none⟩ := addr_plain g 0 252
  simp [Instr.slice, Instr.sliceBounds, Instr.sliceBound, asIntOf, run_underlying Try.underlying38, Try.sizeOf5, h, e]
  intro h9
  exact absurd h9 (by omega)

set_option maxRecDepth 10000 in
set_option maxHeartbeats 4000000 in
theorem headBack_few (x : Hd) (vl : Value) (v bit : Int) (more : ByteArray) (w : World) (hE : Ents w vl x.list) (hl : x.list.length ≤ 40) (hm : more.size ≤ 7680) :
    Calls Try.prog 4 #[headV x vl, .int .i64 v, .string more, .int .i64 bit] w fun e w' => e = .returned (.bool true) ∧ Below w.heap.size w w' := by
  have HEI := hdhid hE
  obtain ⟨ad, cap, rfl, _, hc⟩ := hE
  clear hc
  have FEW := hdhid (fun w1 => few_t x ad x.list.length cap more w1)
  rw [decide_eq_true ⟨hl, hm⟩] at FEW
  have AW := hdhid awake_t
  have n0 := Int.emod_nonneg v (show (200 : Int) ≠ 0 by decide)
  have n1 := Int.emod_lt_of_pos v (show (0 : Int) < 200 by decide)
  have PLv := hdhid (fun w => gplace_t v 200 w (by decide) (by decide))
  obtain ⟨p, hp⟩ : ∃ p : Nat, v % 200 = (p : Int) := ⟨(v % 200).toNat, by omega⟩
  rw [hp] at PLv n0 n1
  have hp2 : p < 200 := by omega
  clear hp n0 n1
  have CP := hdhid (fun v w1 (h : Ents w1 v x.list) => copied_t x v w1 h (by omega))
  have CK := hdhid (fun v w1 (h : Ents w1 v x.list) => hcheck_t x v w1 h)
  have PN := hdhid (fun v b w1 (h : Ents w1 v x.list) (hn : putB x b.size = false) => pno_t x v b w1 h hn)
  have PY := hdhid (fun v b w1 (h : Ents w1 v x.list) (hn : putB x b.size = true) => (hput_t x v b w1 h))
  have GE := hdhid (fun b w1 (hn : putB x b.size = true) => hrget_t x b more w1 hn (by omega))
  have SA := hdhid (fun v v' w1 (h : Ents w1 v x.list) (h' : Ents w1 v' x.list) => same_t x v v' w1 h h' (by omega))
  have SU := hdhid (fun b w1 (hn : putB x b.size = true) (hb : b.size ≤ 1125899906842624) => hrsum_t x b w1 hn hb)
  have HPB : Hid (∀ n, putB x n = (okB x && decide (n = 256 * x.list.length))) := fun n => rfl
  have HPS : Hid (∀ b : ByteArray, putB x b.size = true → (putS x b).data.toList.take 252 = front x) := fun b hb => by
    rw [putS_list hb, hbytes]
    exact List.take_left' (front_length (okB_len (putB_ok hb)))
  have HPZ := hdhid (fun (b : ByteArray) (hb : putB x b.size = true) => putS_size hb)
  have HFL : Hid (okB x = true → (front x).length = 252) := fun h => front_length (okB_len h)
  have HOL : Hid (okB x = true → x.list.length ≤ 24) := fun h => okB_len h
  obtain ⟨house, gen, life, seq, next, clock, sb, sn, l⟩ := x
  have hl2 : l.length ≤ 40 := hl
  clear hl
  show Calls _ _ #[.agg #[.int .i64 house, .int .i64 gen, .int .i64 life, .int .i64 seq, .int .i64 next, .int .i64 clock, .int .i64 sb, .int .i64 sn, .slice ad l.length cap], _, _, _] _ _
  go_enter Try.func4, Try.ntmps4
  go_wp2_with fail
  generalize hW : World.alloc w _ = w0
  have HX0 : Hid (w0.heap[w.heap.size]? = some (.cells (headC ⟨house, gen, life, seq, next, clock, sb, sn, l⟩ (.slice ad l.length cap)) 24 (0, 0))) := by rw [← hW]; exact heap_alloc_new _ _
  have HB0 : Hid (Below w.heap.size w w0) := by rw [← hW]; exact (Below.refl _ w).alloc (Nat.le_refl _) _
  have hw0 : w.heap.size < w0.heap.size := by rw [← hW]; simp
  have HE0 := hdhid (HEI.out.on HB0.out)
  clear hW HEI
  refine (FEW.out _).mono ?_
  rintro e w1 ⟨rfl, hb⟩
  have HX1 : Hid (w1.heap[w.heap.size]? = some (.cells (headC ⟨house, gen, life, seq, next, clock, sb, sn, l⟩ (.slice ad l.length cap)) 24 (0, 0))) := (hb.block _ hw0).trans HX0.out
  have HB1 : Hid (Below w.heap.size w w1) := HB0.out.trans (hb.mono (by omega))
  have HE1 := hdhid (HE0.out.on hb)
  have hw1 : w.heap.size < w1.heap.size := by have := hb.size; omega
  clear hb HX0 HB0 HE0 FEW
  go_wp2_with fail
  go_loopw [9, 10] (fun bd c wr => ∃ (i : Nat) (s : ByteArray), i ≤ l.length ∧ c = .int .i64 i ∧ bd = .string s ∧ s.size = 256 * i ∧ Hid (Below w1.heap.size w1 wr)) (fun _ c _ => l.length - (intOf c).toNat)
  case atStart => exact ⟨0, ⟨#[]⟩, by omega, rfl, rfl, rfl, Below.refl _ _⟩
  case round =>
    obtain ⟨i, s, hi, rfl, rfl, hss, HBr⟩ := hrel
    have HXr : Hid (wr.heap[w.heap.size]? = some (.cells (headC ⟨house, gen, life, seq, next, clock, sb, sn, l⟩ (.slice ad l.length cap)) 24 (0, 0))) := (HBr.out.block _ hw1).trans HX1.out
    have hwr : w1.heap.size ≤ wr.heap.size := HBr.out.size
    obtain ⟨x0, x1, x2, x3, x4, x5, x6, x7, x8⟩ := cells9 HXr.out
    by_cases hlt : i < l.length
    · go_wp2_with fail
      refine (PLv.out _).mono ?_
      rintro e w2 ⟨rfl, rfl⟩
      have e1 : Hid (((p : Int) + (i : Int)) = ((p + i : Nat) : Int)) := by show _ = _; omega
      go_wp2_with fail
      rw [e1.out]
      refine (filled_t (p + i) _ (by omega)).mono ?_
      rintro e w2 ⟨rfl, hb2⟩
      have hFs := Fill_size (p + i)
      have HB2 : Hid (Below w1.heap.size w1 w2) := HBr.out.trans (hb2.mono hwr)
      have hsum : s.size + (Fill (p + i)).size ≤ 9223372036854775806 := by omega
      have hsz : (s ++ Fill (p + i)).size = 256 * (i + 1) := by rw [ByteArray.size_append]; omega
      generalize Fill (p + i) = FF at *
      clear hb2 x0 x1 x2 x3 x4 x5 x6 x7 x8 HXr
      go_wp2_with fail
      exact ⟨⟨i + 1, s ++ FF, by omega, by go_num, rfl, hsz, HB2⟩, by simp [intOf]; omega⟩
    · have hil : i = l.length := by omega
      subst hil
      have HB2 : Hid (Below w.heap.size w wr) := HB1.out.trans (HBr.out.mono (by omega))
      have HE2 := hdhid (HE1.out.on HBr.out)
      have hw2 : w.heap.size < wr.heap.size := by omega
      have HX2 := HXr
      clear x0 x1 x2 x3 x4 x5 x6 x7 x8 HXr HX1 HB1 HE1 HBr hlt PLv hwr
      obtain ⟨w2, hw22⟩ : ∃ w2, w2 = wr := ⟨_, rfl⟩
      subst hw22
      cases hok : okB ⟨house, gen, life, seq, next, clock, sb, sn, l⟩
      · have hpn : putB ⟨house, gen, life, seq, next, clock, sb, sn, l⟩ s.size = false := by rw [HPB.out, hok]; rfl
        rw [hok] at CK
        clear GE SA SU PY HPB HPS HPZ HFL HOL
        obtain ⟨x0, x1, x2, x3, x4, x5, x6, x7, x8⟩ := cells9 HX2.out
        go_wp2_with fail
        refine (CP.out _ _ HE2.out).mono ?_
        rintro e w3 ⟨ad3, cap3, rfl, hE, hb⟩
        have HC3 := hdhid hE
        have HX3 : Hid (w3.heap[w.heap.size]? = some (.cells (headC ⟨house, gen, life, seq, next, clock, sb, sn, l⟩ (.slice ad l.length cap)) 24 (0, 0))) := (hb.block _ hw2).trans HX2.out
        have HB3 : Hid (Below w.heap.size w w3) := HB2.out.trans (hb.mono (by omega))
        have HE3 := hdhid (HE2.out.on hb)
        have hw3 : w.heap.size < w3.heap.size := by have := hb.size; omega
        clear hE hb x0 x1 x2 x3 x4 x5 x6 x7 x8 HX2 HB2 HE2
        go_wp2_with fail
        refine (PN.out _ s _ HC3.out hpn).mono ?_
        rintro e w4 ⟨rfl, hb⟩
        have HX4 : Hid (w4.heap[w.heap.size]? = some (.cells (headC ⟨house, gen, life, seq, next, clock, sb, sn, l⟩ (.slice ad l.length cap)) 24 (0, 0))) := (hb.block _ hw3).trans HX3.out
        have HB4 : Hid (Below w.heap.size w w4) := HB3.out.trans (hb.mono (by omega))
        have HE4 := hdhid (HE3.out.on hb)
        have hw4 : w.heap.size < w4.heap.size := by have := hb.size; omega
        clear hb HX3 HB3 HE3 HC3
        obtain ⟨x0, x1, x2, x3, x4, x5, x6, x7, x8⟩ := cells9 HX4.out
        go_wp2_with fail
        refine (CP.out _ _ HE4.out).mono ?_
        rintro e w5 ⟨ad5, cap5, rfl, hE, hb⟩
        have HC5 := hdhid hE
        have HX5 : Hid (w5.heap[w.heap.size]? = some (.cells (headC ⟨house, gen, life, seq, next, clock, sb, sn, l⟩ (.slice ad l.length cap)) 24 (0, 0))) := (hb.block _ hw4).trans HX4.out
        have HB5 : Hid (Below w.heap.size w w5) := HB4.out.trans (hb.mono (by omega))
        have HE5 := hdhid (HE4.out.on hb)
        have hw5 : w.heap.size < w5.heap.size := by have := hb.size; omega
        clear hE hb x0 x1 x2 x3 x4 x5 x6 x7 x8 HX4 HB4 HE4
        go_wp2_with fail
        refine (CK.out _ _ HC5.out).mono ?_
        rintro e w6 ⟨rfl, hb⟩
        have HX6 : Hid (w6.heap[w.heap.size]? = some (.cells (headC ⟨house, gen, life, seq, next, clock, sb, sn, l⟩ (.slice ad l.length cap)) 24 (0, 0))) := (hb.block _ hw5).trans HX5.out
        have HB6 : Hid (Below w.heap.size w w6) := HB5.out.trans (hb.mono (by omega))
        have HE6 := hdhid (HE5.out.on hb)
        have hw6 : w.heap.size < w6.heap.size := by have := hb.size; omega
        clear hb HX5 HB5 HE5 HC5
        go_wp2_with fail
        refine (AW.out _).mono ?_
        rintro e w7 ⟨rfl, hb⟩
        have HB7 : Hid (Below w.heap.size w w7) := HB6.out.trans (hb.mono (by omega))
        clear hb HB6 AW
        go_wp2_with fail
        go_ret
        exact ⟨rfl, HB7.out⟩
      · have hpy : putB ⟨house, gen, life, seq, next, clock, sb, sn, l⟩ s.size = true := by rw [HPB.out, hok, hss]; simp
        have hl24 : l.length ≤ 24 := HOL.out hok
        have hFl := HFL.out hok
        rw [hok] at CK
        have hpx : putB ⟨house, gen, life, seq, next, clock, sb, sn, l⟩ (s ++ (⟨#[120]⟩ : ByteArray)).size = false := by
          rw [HPB.out, hok, ByteArray.size_append, hss]
          show (true && decide (256 * l.length + 1 = 256 * l.length)) = false
          rw [decide_eq_false (by omega)]
          rfl
        have PX := hdhid (fun v w1 h => PN.out v _ w1 h hpx)
        have PY2 := hdhid (fun v w1 h => PY.out v s w1 h hpy)
        rw [hpy] at PY2
        have GE2 := hdhid (fun w1 => GE.out s w1 hpy)
        have SU2 := hdhid (fun w1 => SU.out s w1 hpy (by omega))
        have hS1 := HPS.out s hpy
        have hS2 := HPZ.out s hpy
        have hS3 : ((putS ⟨house, gen, life, seq, next, clock, sb, sn, l⟩ s).size : Int) = 256 := by rw [hS2]; rfl
        have hsb : s.size ≤ 6144 := by omega
        clear GE SU PY PN HPB HPS HPZ HFL HOL hok hpy hpx hss
        have hsums : sumL (front ⟨house, gen, life, seq, next, clock, sb, sn, l⟩) s.data.toList = Sum.crc (front ⟨house, gen, life, seq, next, clock, sb, sn, l⟩ ++ s.data.toList) := by rw [sumL, List.take_of_length_le (by omega)]
        rw [hsums] at GE2 SU2
        clear hsums
        generalize front ⟨house, gen, life, seq, next, clock, sb, sn, l⟩ = F at *
        generalize putS ⟨house, gen, life, seq, next, clock, sb, sn, l⟩ s = S at *
        have HSM : Hid (∃ sm, sm = Sum.crc (F ++ s.data.toList)) := ⟨_, rfl⟩
        obtain ⟨sm, hsm⟩ := HSM.out
        rw [← hsm] at GE2 SU2
        have HSE := hdhid hsm
        clear hsm HSM
        have hq1 : S.size + more.size ≤ 9223372036854775806 := by omega
        have hq2 : s.size + (⟨#[120]⟩ : ByteArray).size ≤ 9223372036854775806 := by
          have : (⟨#[120]⟩ : ByteArray).size = 1 := rfl
          omega
        obtain ⟨x0, x1, x2, x3, x4, x5, x6, x7, x8⟩ := cells9 HX2.out
        go_wp2_with fail
        refine (CP.out _ _ HE2.out).mono ?_
        rintro e w3 ⟨ad3, cap3, rfl, hE, hb⟩
        have HC3 := hdhid hE
        have HX3 : Hid (w3.heap[w.heap.size]? = some (.cells (headC ⟨house, gen, life, seq, next, clock, sb, sn, l⟩ (.slice ad l.length cap)) 24 (0, 0))) := (hb.block _ hw2).trans HX2.out
        have HB3 : Hid (Below w.heap.size w w3) := HB2.out.trans (hb.mono (by omega))
        have HE3 := hdhid (HE2.out.on hb)
        have hw3 : w.heap.size < w3.heap.size := by have := hb.size; omega
        clear hE hb x0 x1 x2 x3 x4 x5 x6 x7 x8 HX2 HB2 HE2
        go_wp2_with fail
        refine (PY2.out _ _ HC3.out).mono ?_
        rintro e w4 ⟨rfl, hb⟩
        have HX4 : Hid (w4.heap[w.heap.size]? = some (.cells (headC ⟨house, gen, life, seq, next, clock, sb, sn, l⟩ (.slice ad l.length cap)) 24 (0, 0))) := (hb.block _ hw3).trans HX3.out
        have HB4 : Hid (Below w.heap.size w w4) := HB3.out.trans (hb.mono (by omega))
        have HE4 := hdhid (HE3.out.on hb)
        have hw4 : w.heap.size < w4.heap.size := by have := hb.size; omega
        clear hb HX3 HB3 HE3 HC3 PY2
        obtain ⟨x0, x1, x2, x3, x4, x5, x6, x7, x8⟩ := cells9 HX4.out
        go_wp2_with fail
        refine (CP.out _ _ HE4.out).mono ?_
        rintro e w5 ⟨ad5, cap5, rfl, hE, hb⟩
        have HC5 := hdhid hE
        have HX5 : Hid (w5.heap[w.heap.size]? = some (.cells (headC ⟨house, gen, life, seq, next, clock, sb, sn, l⟩ (.slice ad l.length cap)) 24 (0, 0))) := (hb.block _ hw4).trans HX4.out
        have HB5 : Hid (Below w.heap.size w w5) := HB4.out.trans (hb.mono (by omega))
        have HE5 := hdhid (HE4.out.on hb)
        have hw5 : w.heap.size < w5.heap.size := by have := hb.size; omega
        clear hE hb x0 x1 x2 x3 x4 x5 x6 x7 x8 HX4 HB4 HE4
        go_wp2_with fail
        refine (CK.out _ _ HC5.out).mono ?_
        rintro e w6 ⟨rfl, hb⟩
        have HX6 : Hid (w6.heap[w.heap.size]? = some (.cells (headC ⟨house, gen, life, seq, next, clock, sb, sn, l⟩ (.slice ad l.length cap)) 24 (0, 0))) := (hb.block _ hw5).trans HX5.out
        have HB6 : Hid (Below w.heap.size w w6) := HB5.out.trans (hb.mono (by omega))
        have HE6 := hdhid (HE5.out.on hb)
        have hw6 : w.heap.size < w6.heap.size := by have := hb.size; omega
        clear hb HX5 HB5 HE5 HC5 CK
        go_wp2_with fail
        refine (GE2.out _).mono ?_
        rintro e w7 ⟨gb, rfl, hG, hb⟩
        have HG7 := hdhid hG
        have HX7 : Hid (w7.heap[w.heap.size]? = some (.cells (headC ⟨house, gen, life, seq, next, clock, sb, sn, l⟩ (.slice ad l.length cap)) 24 (0, 0))) := (hb.block _ hw6).trans HX6.out
        have HB7 : Hid (Below w.heap.size w w7) := HB6.out.trans (hb.mono (by omega))
        have HE7 := hdhid (HE6.out.on hb)
        have hw7 : w.heap.size < w7.heap.size := by have := hb.size; omega
        clear hb HX6 HB6 HE6 GE2 hG
        have hXo : ∀ o, (w7.alloc o).heap[w.heap.size]? = some (.cells (headC ⟨house, gen, life, seq, next, clock, sb, sn, l⟩ (.slice ad l.length cap)) 24 (0, 0)) := fun o => (Below.heap_alloc _ _ _ hw7).trans HX7.out
        have x0 : ∀ o, (w7.alloc o).cell? ⟨w.heap.size, 0, none⟩ = some (.int .i64 house) := fun o => (cells9 (hXo o)).1
        have x1 : ∀ o, (w7.alloc o).cell? ⟨w.heap.size, 1, none⟩ = some (.int .i64 gen) := fun o => (cells9 (hXo o)).2.1
        have x2 : ∀ o, (w7.alloc o).cell? ⟨w.heap.size, 2, none⟩ = some (.int .i64 life) := fun o => (cells9 (hXo o)).2.2.1
        have x3 : ∀ o, (w7.alloc o).cell? ⟨w.heap.size, 3, none⟩ = some (.int .i64 seq) := fun o => (cells9 (hXo o)).2.2.2.1
        have x4 : ∀ o, (w7.alloc o).cell? ⟨w.heap.size, 4, none⟩ = some (.int .i64 next) := fun o => (cells9 (hXo o)).2.2.2.2.1
        have x5 : ∀ o, (w7.alloc o).cell? ⟨w.heap.size, 5, none⟩ = some (.int .i64 clock) := fun o => (cells9 (hXo o)).2.2.2.2.2.1
        have x6 : ∀ o, (w7.alloc o).cell? ⟨w.heap.size, 6, none⟩ = some (.int .i64 sb) := fun o => (cells9 (hXo o)).2.2.2.2.2.2.1
        have x7 : ∀ o, (w7.alloc o).cell? ⟨w.heap.size, 7, none⟩ = some (.int .i64 sn) := fun o => (cells9 (hXo o)).2.2.2.2.2.2.2.1
        have x8 : ∀ o, (w7.alloc o).cell? ⟨w.heap.size, 8, none⟩ = some (.slice ad l.length cap) := fun o => (cells9 (hXo o)).2.2.2.2.2.2.2.2
        clear hXo
        go_wp2_with fail
        generalize hV : World.alloc w7 _ = w8
        have hb : Below w7.heap.size w7 w8 := by rw [← hV]; exact (Below.refl _ w7).alloc (Nat.le_refl _) _
        have HY8 : Hid (w8.heap[w7.heap.size]? = some (.cells (headC ⟨house, gen, life, seq, next, clock, sb, sn, l⟩ (.slice (some ⟨gb, 0, none⟩) l.length l.length)) 24 (0, 0))) := by rw [← hV]; exact heap_alloc_new _ _
        have HG8 := hdhid (HG7.out.on hb)
        have hy8 : w7.heap.size < w8.heap.size := by rw [← hV]; simp
        have HX8 : Hid (w8.heap[w.heap.size]? = some (.cells (headC ⟨house, gen, life, seq, next, clock, sb, sn, l⟩ (.slice ad l.length cap)) 24 (0, 0))) := (hb.block _ hw7).trans HX7.out
        have HB8 : Hid (Below w.heap.size w w8) := HB7.out.trans (hb.mono (by omega))
        have HE8 := hdhid (HE7.out.on hb)
        have hw8 : w.heap.size < w8.heap.size := by have := hb.size; omega
        clear hV hb HX7 HB7 HE7 HG7
        refine (CP.out _ _ HE8.out).mono ?_
        rintro e w9 ⟨ad9, cap9, rfl, hE, hb⟩
        have HC9 := hdhid hE
        have HX9 : Hid (w9.heap[w.heap.size]? = some (.cells (headC ⟨house, gen, life, seq, next, clock, sb, sn, l⟩ (.slice ad l.length cap)) 24 (0, 0))) := (hb.block _ hw8).trans HX8.out
        have HB9 : Hid (Below w.heap.size w w9) := HB8.out.trans (hb.mono (by omega))
        have HE9 := hdhid (HE8.out.on hb)
        have hw9 : w.heap.size < w9.heap.size := by have := hb.size; omega
        have HY9 : Hid (w9.heap[w7.heap.size]? = some (.cells (headC ⟨house, gen, life, seq, next, clock, sb, sn, l⟩ (.slice (some ⟨gb, 0, none⟩) l.length l.length)) 24 (0, 0))) := (hb.block _ hy8).trans HY8.out
        have HG9 := hdhid (HG8.out.on hb)
        have hy9 : w7.heap.size < w9.heap.size := by have := hb.size; omega
        clear hE hb x0 x1 x2 x3 x4 x5 x6 x7 x8 HX8 HB8 HE8 HY8 HG8
        go_wp2_with fail
        refine (PX.out _ _ HC9.out).mono ?_
        rintro e wa ⟨rfl, hb⟩
        have HXa : Hid (wa.heap[w.heap.size]? = some (.cells (headC ⟨house, gen, life, seq, next, clock, sb, sn, l⟩ (.slice ad l.length cap)) 24 (0, 0))) := (hb.block _ hw9).trans HX9.out
        have HBa : Hid (Below w.heap.size w wa) := HB9.out.trans (hb.mono (by omega))
        have HEa := hdhid (HE9.out.on hb)
        have hwa : w.heap.size < wa.heap.size := by have := hb.size; omega
        have HYa : Hid (wa.heap[w7.heap.size]? = some (.cells (headC ⟨house, gen, life, seq, next, clock, sb, sn, l⟩ (.slice (some ⟨gb, 0, none⟩) l.length l.length)) 24 (0, 0))) := (hb.block _ hy9).trans HY9.out
        have HGa := hdhid (HG9.out.on hb)
        have hya : w7.heap.size < wa.heap.size := by have := hb.size; omega
        clear hb HX9 HB9 HE9 HY9 HG9 HC9 PX
        obtain ⟨x0, x1, x2, x3, x4, x5, x6, x7, x8⟩ := cells9 HXa.out
        obtain ⟨y0, y1, y2, y3, y4, y5, y6, y7, y8⟩ := cells9 HYa.out
        go_wp2_with fail
        refine (SA.out _ _ _ HGa.out HEa.out).mono ?_
        rintro e wb ⟨rfl, hb⟩
        have HBb : Hid (Below w.heap.size w wb) := HBa.out.trans (hb.mono (by omega))
        clear hb x0 x1 x2 x3 x4 x5 x6 x7 x8 y0 y1 y2 y3 y4 y5 y6 y7 y8 HXa HBa HEa HYa HGa SA CP
        go_wp2_with fail
        refine (SU2.out _).mono ?_
        rintro e wc ⟨rfl, rfl⟩
        clear SU2
        have hM0 : (0 : Int) < 8 * (252 + (s.size : Int)) := by omega
        have r0 := Int.emod_nonneg bit (show (8 * (252 + (s.size : Int))) ≠ 0 by omega)
        have r1 := Int.emod_lt_of_pos bit hM0
        have PLq := hdhid (fun w => gplace_t bit (8 * (252 + (s.size : Int))) w hM0 (by omega))
        obtain ⟨q, hq⟩ : ∃ q : Nat, bit % (8 * (252 + (s.size : Int))) = (q : Int) := ⟨(bit % (8 * (252 + (s.size : Int)))).toNat, by omega⟩
        rw [hq] at PLq r0 r1
        have hq2 : q / 8 < 252 + s.size := by omega
        clear hq r0 r1 hM0
        go_wp2_with fail
        refine (PLq.out _).mono ?_
        rintro e wc ⟨rfl, rfl⟩
        clear PLq
        have hTl : (S.extract 0 252 ++ s).data.toList = F ++ s.data.toList := by rw [ByteArray.data_append, Array.toList_append, take_extract, hS1]
        have hTs : (S.extract 0 252 ++ s).size = 252 + s.size := by rw [ByteArray.size_append, ByteArray.size_extract, hS2]; omega
        have hT9 : (S.extract 0 252).size + s.size ≤ 9223372036854775806 := by rw [ByteArray.size_extract, hS2]; omega
        have hcv := run_bytes_of_string (P := Try.prog) wb 9 38 5 (S.extract 0 252 ++ s) Try.underlying9 Try.underlying38 Try.underlying5
        have hgc := grownCap_ge wb (S.extract 0 252 ++ s).size 0 5
        have hgm := grownCap_le_maxLen wb (S.extract 0 252 ++ s).size 0 5 (by rw [hTs]; unfold maxLen; omega)
        unfold maxLen at hgm
        generalize grownCap wb (S.extract 0 252 ++ s).size 0 5 = gc at *
        obtain ⟨D, hD⟩ : ∃ D, D = wb.drew.alloc (.cells (bytesRow (S.extract 0 252 ++ s) gc) 5 ((bytesRow (S.extract 0 252 ++ s) gc).size, (bytesRow (S.extract 0 252 ++ s) gc).size + 1)) := ⟨_, rfl⟩
        rw [← hD] at hcv
        have HDB : Hid (Below wb.heap.size wb D) := by rw [hD]; exact ((Below.refl _ wb).drew).alloc (Nat.le_refl _) _
        have HDR : Hid (D.heap[wb.heap.size]? = some (.cells (bytesRow (S.extract 0 252 ++ s) gc) 5 ((bytesRow (S.extract 0 252 ++ s) gc).size, (bytesRow (S.extract 0 252 ++ s) gc).size + 1))) := by
          rw [hD]
          exact heap_alloc_new _ _
        clear hD
        obtain ⟨T0, hT0⟩ : ∃ T0, T0 = S.extract 0 252 ++ s := ⟨_, rfl⟩
        rw [← hT0] at hTl hTs hgc HDR hcv
        have hql : q / 8 < T0.data.toList.length := by
          have e : T0.data.toList.length = T0.size := by simp
          omega
        have hx := brow_cell HDR.out (q / 8) hql
        have hxf := brow_frozen HDR.out (q / 8) (by omega)
        obtain ⟨x, hxx⟩ : ∃ x : UInt8, x = T0.data.toList[q / 8] := ⟨_, rfl⟩
        rw [← hxx] at hx
        have HXE := hdhid hxx
        have HT0 := hdhid hT0
        rw [hTs] at hcv hgc
        have HTS := hdhid hTs
        have HTL := hdhid hTl
        rw [hT0] at hcv
        clear hxx hTs hTl hT0
        go_wp2_with fail
        rw [turn_bit]
        obtain ⟨y, hy⟩ : ∃ y : UInt8, y = x ^^^ UInt8.ofNat (2 ^ (q % 8) % 256) := ⟨_, rfl⟩
        rw [← hy]
        have hyx : y ≠ x := by rw [hy]; exact turn_other x _ (Nat.mod_lt _ (by decide))
        clear hy
        generalize hEE : World.setCell _ _ _ = E
        have HEB : Hid (Below wb.heap.size wb E) := by rw [← hEE]; exact HDB.out.setCell (Nat.le_refl _) _
        have HBE : Hid (Below w.heap.size w E) := HBb.out.trans (HEB.out.mono HBb.out.size)
        obtain ⟨R, fr, hR⟩ : ∃ R fr, E.heap[wb.heap.size]? = some (.cells R 5 fr) := by
          rw [← hEE]
          simp [World.setCell, Array.getElem?_modify, HDR.out]
        obtain ⟨TL, hTL⟩ : ∃ TL, TL = T0.data.toList.set (q / 8) y := ⟨_, rfl⟩
        have hTLl : TL.length = 252 + s.size := by
          rw [hTL, List.length_set, ← HTS.out]
          simp
        have hcell : ∀ j (hj : j < TL.length), E.cell? ⟨wb.heap.size, j, none⟩ = some (.int .u8 (TL[j].toNat : Int)) := by
          intro j hj
          have hj2 : j < T0.data.toList.length := by rw [hTL, List.length_set] at hj; exact hj
          have e : TL[j] = if q / 8 = j then y else T0.data.toList[j] := by
            simp only [hTL, List.getElem_set]
          rw [e, ← hEE]
          by_cases hjq : q / 8 = j
          · subst hjq
            rw [if_pos rfl]
            exact World.cell?_setCell_same' _ _ _ (by rw [hx]; rfl)
          · rw [if_neg hjq]
            exact (World.cell?_setCell_other _ _ _ _ (by intro h; cases h; exact hjq rfl)).trans (brow_cell HDR.out j hj2)
        have hcellw : ∀ (w' : World), w'.heap[wb.heap.size]? = some (.cells R 5 fr) → ∀ j (hj : j < TL.length), w'.cell? ⟨wb.heap.size, j, none⟩ = some (.int .u8 (TL[j].toNat : Int)) := by
          intro w' hw j hj
          rw [cell_of_row w' _ _ _ _ _ hw, ← cell_of_row E _ _ _ _ _ hR]
          exact hcell j hj
        have CV1 : ∀ (w' : World), w'.heap[wb.heap.size]? = some (.cells R 5 fr) → (convert 38 9 (.slice (some ⟨wb.heap.size, 0, none⟩) 252 gc)).run Try.prog w' = .ok (.string ⟨(TL.take 252).toArray⟩) w' := by
          intro w' hw
          have hl : (TL.take 252).length = 252 := by rw [List.length_take]; omega
          have := part_conv w' wb.heap.size 0 gc (TL.take 252) (fun j hj => by
            rw [Nat.zero_add, hcellw w' hw j (by omega), List.getElem_take])
          rw [hl] at this
          exact this
        have CV2 : Hid (gc ≠ 252 → ∀ (w' : World), w'.heap[wb.heap.size]? = some (.cells R 5 fr) → (convert 38 9 (.slice (some ⟨wb.heap.size, 252, none⟩) s.size (gc - 252))).run Try.prog w' = .ok (.string ⟨(TL.drop 252).toArray⟩) w') := by
          intro _ w' hw
          have hl : (TL.drop 252).length = s.size := by rw [List.length_drop]; omega
          have := part_conv w' wb.heap.size 252 (gc - 252) (TL.drop 252) (fun j hj => by
            rw [hcellw w' hw (252 + j) (by omega), List.getElem_drop])
          rw [hl] at this
          exact this
        have CV3 : Hid (s.size = 0 → ∀ (w' : World), (convert 38 9 (.slice (some ⟨wb.heap.size, 0, none⟩) 0 0)).run Try.prog w' = .ok (.string ⟨(TL.drop 252).toArray⟩) w') := by
          intro hs0 w'
          have hl : TL.drop 252 = [] := List.drop_of_length_le (by omega)
          have := part_conv w' wb.heap.size 0 0 [] (fun j hj => by cases hj)
          rw [hl]
          exact this
        have hTf : T0.data.toList = F ++ s.data.toList := HTL.out
        have hcrc : Sum.crc TL ≠ sm := by
          rw [HSE.out, hTL, hTf]
          have hlt9 : q / 8 < (F ++ s.data.toList).length := by rw [← hTf]; exact hql
          refine crc_set hlt9 ?_
          intro h
          apply hyx
          rw [h, HXE.out]
          simp only [hTf]
        have SUQ : Hid (∀ w1, Calls Try.prog 17 #[.string ⟨(TL.take 252).toArray⟩, .string ⟨(TL.drop 252).toArray⟩] w1 fun e w' => e = .returned (.int .i64 (Sum.crc TL : Nat)) ∧ w1 = w') := fun w1 => by
          have := hsum_t ⟨(TL.take 252).toArray⟩ ⟨(TL.drop 252).toArray⟩ w1 (by show (TL.take 252).toArray.size ≤ _; rw [List.size_toArray, List.length_take]; omega) (by show (TL.drop 252).toArray.size ≤ _; rw [List.size_toArray, List.length_drop]; omega)
          have e : sumL (TL.take 252) (TL.drop 252) = Sum.crc TL := by rw [sumL, List.take_take, Nat.min_self, List.take_append_drop]
          rw [e] at this
          exact this
        generalize Sum.crc TL = sq at *
        generalize (⟨(TL.take 252).toArray⟩ : ByteArray) = QA at *
        generalize (⟨(TL.drop 252).toArray⟩ : ByteArray) = QB at *
        have hne1 : ((sq : Int) == (sm : Int)) = false := by rw [beq_eq_false_iff_ne]; omega
        have hne2 : ((sq : Int) != (sm : Int)) = true := by rw [bne, hne1]; rfl
        have hp : Below E.heap.size E E := Below.refl _ _
        have hgl : wb.heap.size < E.heap.size := (Array.getElem?_eq_some_iff.1 hR).1
        have g1 : (252 : Int) ≤ (gc : Int) := by omega
        have g2 : (252 : Int) + (s.size : Int) ≤ (gc : Int) := by omega
        have g3 : (0 : Int) ≤ (s.size : Int) := by omega
        have HR := hdhid hR
        clear hcell hcellw hTf hcrc hTLl hTL hEE hx hxf hyx HXE HDR HDB HEB hql hcv HTS HTL HSE HT0 HBb hgc hgm hsb hS1 hS2 hS3 hFl hq1 hT9 hl24
        by_cases hgz : gc = 252
        · have hs0 : s.size = 0 := by omega
          have CW := CV3.out hs0
          subst hgz
          clear CV2 CV3 g1 g2 g3
          go_region_held3 (fun w' => w'.heap[wb.heap.size]? = some (.cells R 5 fr)) (first | exact hR | exact HR.out | go_keep)
            (first
              | (go_at_call 17; refine (SUQ.out _).mono ?_; rintro e y1 ⟨rfl, rfl⟩)
              | (go_at_call 8; refine (AW.out _).mono ?_; rintro e y2 ⟨rfl, qb⟩; have hp := hp.trans (Below.mono (show Below _ _ y2 from ⟨qb.os, qb.tape, qb.output, qb.size, qb.block⟩) hp.size); have hR : y2.heap[wb.heap.size]? = some (.cells R 5 fr) := (hp.block _ hgl).trans HR.out))
          have HBq : Hid (Below w.heap.size w y2) := HBE.out.trans (hp.mono HBE.out.size)
          clear hp
          go_wp2_with fail
          go_ret
          exact ⟨rfl, HBq.out⟩
        · have CW := CV2.out hgz
          have hsb2 := fun w' => slice_behind wb.heap.size s.size gc w' hgz
          clear CV2 CV3
          go_region_held3 (fun w' => w'.heap[wb.heap.size]? = some (.cells R 5 fr)) (first | exact hR | exact HR.out | go_keep)
            (first
              | (go_at_call 17; refine (SUQ.out _).mono ?_; rintro e y1 ⟨rfl, rfl⟩)
              | (go_at_call 8; refine (AW.out _).mono ?_; rintro e y2 ⟨rfl, qb⟩; have hp := hp.trans (Below.mono (show Below _ _ y2 from ⟨qb.os, qb.tape, qb.output, qb.size, qb.block⟩) hp.size); have hR : y2.heap[wb.heap.size]? = some (.cells R 5 fr) := (hp.block _ hgl).trans HR.out))
          have HBq : Hid (Below w.heap.size w y2) := HBE.out.trans (hp.mono HBE.out.size)
          clear hp
          go_wp2_with fail
          go_ret
          exact ⟨rfl, HBq.out⟩

theorem headBack_t (x : Hd) (vl : Value) (v bit : Int) (more : ByteArray) (w : World) (hE : Ents w vl x.list) :
    Calls Try.prog 4 #[headV x vl, .int .i64 v, .string more, .int .i64 bit] w fun e w' => e = .returned (.bool true) ∧ Below w.heap.size w w' := by
  by_cases h : x.list.length ≤ 40 ∧ more.size ≤ 7680
  · exact headBack_few x vl v bit more w hE h.1 h.2
  · exact headBack_many x vl v bit more w hE h
end Go.Proofs.Ytmhhlchddkdjnaa
