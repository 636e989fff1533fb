/- HeadAll walked: any head, any body, any bytes: the program's answers are the document's. -/
import Derived.Test.YtmhhlchddkdjnaaHeadRefGet
import Derived.Test.YtmhhlchddkdjnaaHeadSame
namespace Go.Proofs.Ytmhhlchddkdjnaa
open Go.RowKit Rec Hdp

/-- What is got of bytes: the head, or none. -/
def gotX (s : ByteArray) : Hd := if getB s = true then getX s.data.toList else Hd.z
def gotS (s : ByteArray) : Int := if getB s = true then getS s.data.toList else 0
theorem gotX_yes {s : ByteArray} (h : getB s = true) : gotX s = getX s.data.toList := if_pos h
theorem gotS_yes {s : ByteArray} (h : getB s = true) : gotS s = getS s.data.toList := if_pos h
theorem gotX_no {s : ByteArray} (h : getB s = false) : gotX s = Hd.z := if_neg (by rw [h]; decide)
theorem gotS_no {s : ByteArray} (h : getB s = false) : gotS s = 0 := if_neg (by rw [h]; decide)
theorem gotX_len (s : ByteArray) : (gotX s).list.length ≤ 24 := by
  cases h : getB s
  · rw [gotX_no h]
    exact Nat.zero_le _
  · rw [gotX_yes h]
    exact getX_len _

theorem hgetall_t (s : ByteArray) (w : World) (hl : s.size ≤ 100000) :
    Calls Try.prog 12 #[.string s] w fun e w' => ∃ ad cap, e = .returned (.tuple #[headV (gotX s) (.slice ad (gotX s).list.length cap), .int .i64 (gotS s), .bool (getB s)]) ∧ Ents w' (.slice ad (gotX s).list.length cap) (gotX s).list ∧ Below w.heap.size w w' := by
  by_cases h : s.size < 256
  · have hb : getB s = false := by
      unfold getB
      rw [decide_eq_false (by omega)]
      rfl
    refine (hget_short s w h).mono ?_
    rintro e w1 ⟨rfl, hq⟩
    rw [gotX_no hb, gotS_no hb, hb]
    exact ⟨none, 0, rfl, Ents.nil _, hq⟩
  · refine (hget_full s w (by omega) hl).mono ?_
    rintro e w1 ⟨⟨hb, b, rfl, hE⟩ | ⟨hb, rfl⟩, hq⟩
    · rw [gotX_yes hb, gotS_yes hb, hb]
      exact ⟨_, _, rfl, hE, hq⟩
    · rw [gotX_no hb, gotS_no hb, hb]
      exact ⟨none, 0, rfl, Ents.nil _, hq⟩

theorem rgetall_t (s : ByteArray) (w : World) (hl : s.size ≤ 100000) :
    Calls Try.prog 13 #[.string s] w fun e w' => ∃ ad cap, e = .returned (.tuple #[headV (gotX s) (.slice ad (gotX s).list.length cap), .int .i64 (gotS s), .bool (getB s)]) ∧ Ents w' (.slice ad (gotX s).list.length cap) (gotX s).list ∧ Below w.heap.size w w' := by
  by_cases h : s.size < 256
  · have hb : getB s = false := by
      unfold getB
      rw [decide_eq_false (by omega)]
      rfl
    refine (rget_short s w h).mono ?_
    rintro e w1 ⟨rfl, hq⟩
    rw [gotX_no hb, gotS_no hb, hb]
    exact ⟨none, 0, rfl, Ents.nil _, hq⟩
  · refine (rget_full s w (by omega) hl).mono ?_
    rintro e w1 ⟨⟨hb, ad, cap, rfl, hE⟩ | ⟨hb, rfl⟩, hq⟩
    · rw [gotX_yes hb, gotS_yes hb, hb]
      exact ⟨_, _, rfl, hE, hq⟩
    · rw [gotX_no hb, gotS_no hb, hb]
      exact ⟨none, 0, rfl, Ents.nil _, hq⟩

set_option maxRecDepth 10000 in
set_option maxHeartbeats 2000000 in
theorem headAll_many (x : Hd) (vl : Value) (body s : ByteArray) (w : World) (hE : Ents w vl x.list) (hf : ¬ (x.list.length ≤ 40 ∧ body.size ≤ 7680)) :
    Calls Try.prog 3 #[headV x vl, .string body, .string s] w fun e w' => e = .returned (.bool true) ∧ Below w.heap.size w w' := by
  have HEI := hdhid hE
  obtain ⟨ad, cap, rfl, _, hc⟩ := hE
  clear hc
  have FEW := hdhid (fun w1 => few_t x ad x.list.length cap body w1)
  rw [decide_eq_false hf] at FEW
  clear hf
  have AW := hdhid awake_t
  obtain ⟨house, gen, life, seq, next, clock, sb, sn, l⟩ := x
  show Calls _ _ #[.agg #[.int .i64 house, .int .i64 gen, .int .i64 life, .int .i64 seq, .int .i64 next, .int .i64 clock, .int .i64 sb, .int .i64 sn, .slice ad l.length cap], _, _] _ _
  go_enter Try.func3, Try.ntmps3
  go_wp2_with fail
  generalize hW : World.alloc w _ = w0
  have HX0 : Hid (w0.heap[w.heap.size]? = some (.cells (headC ⟨house, gen, life, seq, next, clock, sb, sn, l⟩ (.slice ad l.length cap)) 24 (0, 0))) := by rw [← hW]; exact heap_alloc_new _ _
  have HB0 : Hid (Below w.heap.size w w0) := by rw [← hW]; exact (Below.refl _ w).alloc (Nat.le_refl _) _
  have hw0 : w.heap.size < w0.heap.size := by rw [← hW]; simp
  have HE0 := hdhid (HEI.out.on HB0.out)
  clear hW HEI
  refine (FEW.out _).mono ?_
  rintro e w1 ⟨rfl, hb⟩
  have HX1 : Hid (w1.heap[w.heap.size]? = some (.cells (headC ⟨house, gen, life, seq, next, clock, sb, sn, l⟩ (.slice ad l.length cap)) 24 (0, 0))) := (hb.block _ hw0).trans HX0.out
  have HB1 : Hid (Below w.heap.size w w1) := HB0.out.trans (hb.mono (by omega))
  have HE1 := hdhid (HE0.out.on hb)
  have hw1 : w.heap.size < w1.heap.size := by have := hb.size; omega
  clear hb HX0 HB0 HE0 FEW
  go_wp2_with fail
  refine (AW.out _).mono ?_
  rintro e w2 ⟨rfl, hb⟩
  have HB2 : Hid (Below w.heap.size w w2) := HB1.out.trans (hb.mono (by omega))
  clear hb HB1 AW
  go_wp2_with fail
  go_ret
  exact ⟨rfl, HB2.out⟩

set_option maxRecDepth 10000 in
set_option maxHeartbeats 2000000 in
theorem headAll_long (x : Hd) (vl : Value) (body s : ByteArray) (w : World) (hE : Ents w vl x.list) (hf : x.list.length ≤ 40 ∧ body.size ≤ 7680) (h3 : (3000 : Int) < (s.size : Int)) (_ : s.size ≤ 9223372036854775807) :
    Calls Try.prog 3 #[headV x vl, .string body, .string s] w fun e w' => e = .returned (.bool true) ∧ Below w.heap.size w w' := by
  have HEI := hdhid hE
  obtain ⟨ad, cap, rfl, _, hc⟩ := hE
  clear hc
  have FEW := hdhid (fun w1 => few_t x ad x.list.length cap body w1)
  rw [decide_eq_true hf] at FEW
  clear hf
  have AW := hdhid awake_t
  obtain ⟨house, gen, life, seq, next, clock, sb, sn, l⟩ := x
  show Calls _ _ #[.agg #[.int .i64 house, .int .i64 gen, .int .i64 life, .int .i64 seq, .int .i64 next, .int .i64 clock, .int .i64 sb, .int .i64 sn, .slice ad l.length cap], _, _] _ _
  go_enter Try.func3, Try.ntmps3
  go_wp2_with fail
  generalize hW : World.alloc w _ = w0
  have HX0 : Hid (w0.heap[w.heap.size]? = some (.cells (headC ⟨house, gen, life, seq, next, clock, sb, sn, l⟩ (.slice ad l.length cap)) 24 (0, 0))) := by rw [← hW]; exact heap_alloc_new _ _
  have HB0 : Hid (Below w.heap.size w w0) := by rw [← hW]; exact (Below.refl _ w).alloc (Nat.le_refl _) _
  have hw0 : w.heap.size < w0.heap.size := by rw [← hW]; simp
  have HE0 := hdhid (HEI.out.on HB0.out)
  clear hW HEI
  refine (FEW.out _).mono ?_
  rintro e w1 ⟨rfl, hb⟩
  have HX1 : Hid (w1.heap[w.heap.size]? = some (.cells (headC ⟨house, gen, life, seq, next, clock, sb, sn, l⟩ (.slice ad l.length cap)) 24 (0, 0))) := (hb.block _ hw0).trans HX0.out
  have HB1 : Hid (Below w.heap.size w w1) := HB0.out.trans (hb.mono (by omega))
  have HE1 := hdhid (HE0.out.on hb)
  have hw1 : w.heap.size < w1.heap.size := by have := hb.size; omega
  clear hb HX0 HB0 HE0 FEW
  go_wp2_with fail
  refine (AW.out _).mono ?_
  rintro e w2 ⟨rfl, hb⟩
  have HB2 : Hid (Below w.heap.size w w2) := HB1.out.trans (hb.mono (by omega))
  clear hb HB1 AW
  go_wp2_with fail
  go_ret
  exact ⟨rfl, HB2.out⟩

set_option maxRecDepth 20000 in
set_option maxHeartbeats 16000000 in
theorem headAll_few (x : Hd) (vl : Value) (body s : ByteArray) (w : World) (hE : Ents w vl x.list) (hl : x.list.length ≤ 40) (hm : body.size ≤ 7680) (h3 : s.size ≤ 3000) :
    Calls Try.prog 3 #[headV x vl, .string body, .string s] w fun e w' => e = .returned (.bool true) ∧ Below w.heap.size w w' := by
  have HEI := hdhid hE
  obtain ⟨ad, cap, rfl, _, hc⟩ := hE
  clear hc
  have FEW := hdhid (fun w1 => few_t x ad x.list.length cap body w1)
  rw [decide_eq_true ⟨hl, hm⟩] at FEW
  have h4 : ¬ (3000 : Int) < (s.size : Int) := by omega
  have AW := hdhid awake_t
  have CP := hdhid (fun v w1 (h : Ents w1 v x.list) => copied_t x v w1 h (by omega))
  have PY := hdhid (fun v w1 (h : Ents w1 v x.list) => hput_t x v body w1 h)
  have RP := hdhid (fun v w1 (h : Ents w1 v x.list) => rput_t x v body w1 h)
  have CK := hdhid (fun v w1 (h : Ents w1 v x.list) => hcheck_t x v w1 h)
  have RC := hdhid (fun v w1 (h : Ents w1 v x.list) => rcheck_t x v w1 h)
  have GE := hdhid (fun w1 => hgetall_t s w1 (by omega))
  have RG := hdhid (fun w1 => rgetall_t s w1 (by omega))
  have hXl := gotX_len s
  have SA := hdhid (fun v v' w1 (h : Ents w1 v (gotX s).list) (h' : Ents w1 v' (gotX s).list) => same_t (gotX s) v v' w1 h h' (by omega))
  have SU := hdhid (fun w1 => hsum_t s body w1 (by omega) (by omega))
  have RS := hdhid (fun w1 => rsum_t s body w1 (by omega) (by omega))
  generalize gotX s = X at *
  generalize gotS s = gs at *
  generalize getB s = gb at *
  generalize sumL s.data.toList body.data.toList = sm at *
  generalize putS x body = PS at *
  generalize putB x body.size = PB at *
  generalize okB x = OK at *
  obtain ⟨house, gen, life, seq, next, clock, sb, sn, l⟩ := x
  obtain ⟨u0, u1, u2, u3, u4, u5, u6, u7, k⟩ := X
  have hl2 : l.length ≤ 40 := hl
  clear hl hXl
  show Calls _ _ #[.agg #[.int .i64 house, .int .i64 gen, .int .i64 life, .int .i64 seq, .int .i64 next, .int .i64 clock, .int .i64 sb, .int .i64 sn, .slice ad l.length cap], _, _] _ _
  go_enter Try.func3, Try.ntmps3
  go_wp2_with fail
  generalize hW : World.alloc w _ = w0
  have HX0 : Hid (w0.heap[w.heap.size]? = some (.cells (headC ⟨house, gen, life, seq, next, clock, sb, sn, l⟩ (.slice ad l.length cap)) 24 (0, 0))) := by rw [← hW]; exact heap_alloc_new _ _
  have HB0 : Hid (Below w.heap.size w w0) := by rw [← hW]; exact (Below.refl _ w).alloc (Nat.le_refl _) _
  have hw0 : w.heap.size < w0.heap.size := by rw [← hW]; simp
  have HE0 := hdhid (HEI.out.on HB0.out)
  clear hW HEI
  refine (FEW.out _).mono ?_
  rintro e w1 ⟨rfl, hb⟩
  have HX1 : Hid (w1.heap[w.heap.size]? = some (.cells (headC ⟨house, gen, life, seq, next, clock, sb, sn, l⟩ (.slice ad l.length cap)) 24 (0, 0))) := (hb.block _ hw0).trans HX0.out
  have HB1 : Hid (Below w.heap.size w w1) := HB0.out.trans (hb.mono (by omega))
  have HE1 := hdhid (HE0.out.on hb)
  have hw1 : w.heap.size < w1.heap.size := by have := hb.size; omega
  clear hb HX0 HB0 HE0 FEW
  obtain ⟨x0, x1, x2, x3, x4, x5, x6, x7, x8⟩ := cells9 HX1.out
  go_wp2_with fail
  refine (CP.out _ _ HE1.out).mono ?_
  rintro e w2 ⟨ad2, cap2, rfl, hE, hb⟩
  have HC2 := hdhid hE
  have HX2 : Hid (w2.heap[w.heap.size]? = some (.cells (headC ⟨house, gen, life, seq, next, clock, sb, sn, l⟩ (.slice ad l.length cap)) 24 (0, 0))) := (hb.block _ hw1).trans HX1.out
  have HB2 : Hid (Below w.heap.size w w2) := HB1.out.trans (hb.mono (by omega))
  have HE2 := hdhid (HE1.out.on hb)
  have hw2 : w.heap.size < w2.heap.size := by have := hb.size; omega
  clear hE hb x0 x1 x2 x3 x4 x5 x6 x7 x8 HX1 HB1 HE1
  go_wp2_with fail
  refine (PY.out _ _ HC2.out).mono ?_
  rintro e w3 ⟨rfl, hb⟩
  have HX3 : Hid (w3.heap[w.heap.size]? = some (.cells (headC ⟨house, gen, life, seq, next, clock, sb, sn, l⟩ (.slice ad l.length cap)) 24 (0, 0))) := (hb.block _ hw2).trans HX2.out
  have HB3 : Hid (Below w.heap.size w w3) := HB2.out.trans (hb.mono (by omega))
  have HE3 := hdhid (HE2.out.on hb)
  have hw3 : w.heap.size < w3.heap.size := by have := hb.size; omega
  clear hb HX2 HB2 HE2 HC2 PY
  obtain ⟨x0, x1, x2, x3, x4, x5, x6, x7, x8⟩ := cells9 HX3.out
  go_wp2_with fail
  refine (RP.out _ _ HE3.out).mono ?_
  rintro e w4 ⟨rfl, hb⟩
  have HX4 : Hid (w4.heap[w.heap.size]? = some (.cells (headC ⟨house, gen, life, seq, next, clock, sb, sn, l⟩ (.slice ad l.length cap)) 24 (0, 0))) := (hb.block _ hw3).trans HX3.out
  have HB4 : Hid (Below w.heap.size w w4) := HB3.out.trans (hb.mono (by omega))
  have HE4 := hdhid (HE3.out.on hb)
  have hw4 : w.heap.size < w4.heap.size := by have := hb.size; omega
  clear hb x0 x1 x2 x3 x4 x5 x6 x7 x8 HX3 HB3 HE3 RP
  go_wp2_with fail
  refine (GE.out _).mono ?_
  rintro e w5 ⟨ad5, cap5, rfl, hG, hb⟩
  have HG5 := hdhid hG
  have HX5 : Hid (w5.heap[w.heap.size]? = some (.cells (headC ⟨house, gen, life, seq, next, clock, sb, sn, l⟩ (.slice ad l.length cap)) 24 (0, 0))) := (hb.block _ hw4).trans HX4.out
  have HB5 : Hid (Below w.heap.size w w5) := HB4.out.trans (hb.mono (by omega))
  have HE5 := hdhid (HE4.out.on hb)
  have hw5 : w.heap.size < w5.heap.size := by have := hb.size; omega
  clear hb hG HX4 HB4 HE4 GE
  go_wp2_with fail
  generalize hV : World.alloc w5 _ = w6
  have hb : Below w5.heap.size w5 w6 := by rw [← hV]; exact (Below.refl _ w5).alloc (Nat.le_refl _) _
  have HY6 : Hid (w6.heap[w5.heap.size]? = some (.cells (headC ⟨u0, u1, u2, u3, u4, u5, u6, u7, k⟩ (.slice ad5 k.length cap5)) 24 (0, 0))) := by rw [← hV]; exact heap_alloc_new _ _
  have HG6 := hdhid (HG5.out.on hb)
  have hy6 : w5.heap.size < w6.heap.size := by rw [← hV]; simp
  have HX6 : Hid (w6.heap[w.heap.size]? = some (.cells (headC ⟨house, gen, life, seq, next, clock, sb, sn, l⟩ (.slice ad l.length cap)) 24 (0, 0))) := (hb.block _ hw5).trans HX5.out
  have HB6 : Hid (Below w.heap.size w w6) := HB5.out.trans (hb.mono (by omega))
  have HE6 := hdhid (HE5.out.on hb)
  have hw6 : w.heap.size < w6.heap.size := by have := hb.size; omega
  clear hV hb HX5 HB5 HE5 HG5
  refine (RG.out _).mono ?_
  rintro e w7 ⟨ad7, cap7, rfl, hZ, hb⟩
  have HF7 := hdhid hZ
  have HX7 : Hid (w7.heap[w.heap.size]? = some (.cells (headC ⟨house, gen, life, seq, next, clock, sb, sn, l⟩ (.slice ad l.length cap)) 24 (0, 0))) := (hb.block _ hw6).trans HX6.out
  have HB7 : Hid (Below w.heap.size w w7) := HB6.out.trans (hb.mono (by omega))
  have HE7 := hdhid (HE6.out.on hb)
  have hw7 : w.heap.size < w7.heap.size := by have := hb.size; omega
  have HY7 : Hid (w7.heap[w5.heap.size]? = some (.cells (headC ⟨u0, u1, u2, u3, u4, u5, u6, u7, k⟩ (.slice ad5 k.length cap5)) 24 (0, 0))) := (hb.block _ hy6).trans HY6.out
  have HG7 := hdhid (HG6.out.on hb)
  have hy7 : w5.heap.size < w7.heap.size := by have := hb.size; omega
  clear hb hZ HX6 HB6 HE6 HY6 HG6 RG
  go_wp2_with fail
  generalize hV : World.alloc w7 _ = w8
  have hb : Below w7.heap.size w7 w8 := by rw [← hV]; exact (Below.refl _ w7).alloc (Nat.le_refl _) _
  have HZ8 : Hid (w8.heap[w7.heap.size]? = some (.cells (headC ⟨u0, u1, u2, u3, u4, u5, u6, u7, k⟩ (.slice ad7 k.length cap7)) 24 (0, 0))) := by rw [← hV]; exact heap_alloc_new _ _
  have HF8 := hdhid (HF7.out.on hb)
  have hz8 : w7.heap.size < w8.heap.size := by rw [← hV]; simp
  have HX8 : Hid (w8.heap[w.heap.size]? = some (.cells (headC ⟨house, gen, life, seq, next, clock, sb, sn, l⟩ (.slice ad l.length cap)) 24 (0, 0))) := (hb.block _ hw7).trans HX7.out
  have HB8 : Hid (Below w.heap.size w w8) := HB7.out.trans (hb.mono (by omega))
  have HE8 := hdhid (HE7.out.on hb)
  have hw8 : w.heap.size < w8.heap.size := by have := hb.size; omega
  have HY8 : Hid (w8.heap[w5.heap.size]? = some (.cells (headC ⟨u0, u1, u2, u3, u4, u5, u6, u7, k⟩ (.slice ad5 k.length cap5)) 24 (0, 0))) := (hb.block _ hy7).trans HY7.out
  have HG8 := hdhid (HG7.out.on hb)
  have hy8 : w5.heap.size < w8.heap.size := by have := hb.size; omega
  clear hV hb HX7 HB7 HE7 HY7 HG7 HF7
  obtain ⟨x0, x1, x2, x3, x4, x5, x6, x7, x8⟩ := cells9 HX8.out
  obtain ⟨y0, y1, y2, y3, y4, y5, y6, y7, y8⟩ := cells9 HY8.out
  obtain ⟨z0, z1, z2, z3, z4, z5, z6, z7, z8⟩ := cells9 HZ8.out
  have hp : Below w8.heap.size w8 w8 := Below.refl _ _
  go_region_held3 (fun w' => w'.cell? ⟨w.heap.size, 0, none⟩ = some (.int .i64 house) ∧ w'.cell? ⟨w.heap.size, 1, none⟩ = some (.int .i64 gen) ∧ w'.cell? ⟨w.heap.size, 2, none⟩ = some (.int .i64 life) ∧ w'.cell? ⟨w.heap.size, 3, none⟩ = some (.int .i64 seq) ∧ w'.cell? ⟨w.heap.size, 4, none⟩ = some (.int .i64 next) ∧ w'.cell? ⟨w.heap.size, 5, none⟩ = some (.int .i64 clock) ∧ w'.cell? ⟨w.heap.size, 6, none⟩ = some (.int .i64 sb) ∧ w'.cell? ⟨w.heap.size, 7, none⟩ = some (.int .i64 sn) ∧ w'.cell? ⟨w.heap.size, 8, none⟩ = some (.slice ad l.length cap) ∧ w'.cell? ⟨w5.heap.size, 0, none⟩ = some (.int .i64 u0) ∧ w'.cell? ⟨w5.heap.size, 1, none⟩ = some (.int .i64 u1) ∧ w'.cell? ⟨w5.heap.size, 2, none⟩ = some (.int .i64 u2) ∧ w'.cell? ⟨w5.heap.size, 3, none⟩ = some (.int .i64 u3) ∧ w'.cell? ⟨w5.heap.size, 4, none⟩ = some (.int .i64 u4) ∧ w'.cell? ⟨w5.heap.size, 5, none⟩ = some (.int .i64 u5) ∧ w'.cell? ⟨w5.heap.size, 6, none⟩ = some (.int .i64 u6) ∧ w'.cell? ⟨w5.heap.size, 7, none⟩ = some (.int .i64 u7) ∧ w'.cell? ⟨w5.heap.size, 8, none⟩ = some (.slice ad5 k.length cap5) ∧ w'.cell? ⟨w7.heap.size, 0, none⟩ = some (.int .i64 u0) ∧ w'.cell? ⟨w7.heap.size, 1, none⟩ = some (.int .i64 u1) ∧ w'.cell? ⟨w7.heap.size, 2, none⟩ = some (.int .i64 u2) ∧ w'.cell? ⟨w7.heap.size, 3, none⟩ = some (.int .i64 u3) ∧ w'.cell? ⟨w7.heap.size, 4, none⟩ = some (.int .i64 u4) ∧ w'.cell? ⟨w7.heap.size, 5, none⟩ = some (.int .i64 u5) ∧ w'.cell? ⟨w7.heap.size, 6, none⟩ = some (.int .i64 u6) ∧ w'.cell? ⟨w7.heap.size, 7, none⟩ = some (.int .i64 u7) ∧ w'.cell? ⟨w7.heap.size, 8, none⟩ = some (.slice ad7 k.length cap7)) (first | go_keep)
    (first
      | (go_at_call 10; refine (CP.out _ _ (by exact HE8.out.on ⟨hp.os, hp.tape, hp.output, hp.size, hp.block⟩)).mono ?_; rintro e q1 ⟨adc, capc, rfl, hE, qb⟩; have hC := hdhid hE; clear hE; have hp := hp.trans (Below.mono (show Below _ _ q1 from ⟨qb.os, qb.tape, qb.output, qb.size, qb.block⟩) hp.size); obtain ⟨x0, x1, x2, x3, x4, x5, x6, x7, x8⟩ := cells9 (show q1.heap[w.heap.size]? = some (.cells (headC ⟨house, gen, life, seq, next, clock, sb, sn, l⟩ (.slice ad l.length cap)) 24 (0, 0)) from (hp.block _ hw8).trans HX8.out); obtain ⟨y0, y1, y2, y3, y4, y5, y6, y7, y8⟩ := cells9 (show q1.heap[w5.heap.size]? = some (.cells (headC ⟨u0, u1, u2, u3, u4, u5, u6, u7, k⟩ (.slice ad5 k.length cap5)) 24 (0, 0)) from (hp.block _ hy8).trans HY8.out); obtain ⟨z0, z1, z2, z3, z4, z5, z6, z7, z8⟩ := cells9 (show q1.heap[w7.heap.size]? = some (.cells (headC ⟨u0, u1, u2, u3, u4, u5, u6, u7, k⟩ (.slice ad7 k.length cap7)) 24 (0, 0)) from (hp.block _ hz8).trans HZ8.out))
      | (go_at_call 14; refine (CK.out _ _ (by exact hC.out)).mono ?_; rintro e q1 ⟨rfl, qb⟩; clear hC; have hp := hp.trans (Below.mono (show Below _ _ q1 from ⟨qb.os, qb.tape, qb.output, qb.size, qb.block⟩) hp.size); obtain ⟨x0, x1, x2, x3, x4, x5, x6, x7, x8⟩ := cells9 (show q1.heap[w.heap.size]? = some (.cells (headC ⟨house, gen, life, seq, next, clock, sb, sn, l⟩ (.slice ad l.length cap)) 24 (0, 0)) from (hp.block _ hw8).trans HX8.out); obtain ⟨y0, y1, y2, y3, y4, y5, y6, y7, y8⟩ := cells9 (show q1.heap[w5.heap.size]? = some (.cells (headC ⟨u0, u1, u2, u3, u4, u5, u6, u7, k⟩ (.slice ad5 k.length cap5)) 24 (0, 0)) from (hp.block _ hy8).trans HY8.out); obtain ⟨z0, z1, z2, z3, z4, z5, z6, z7, z8⟩ := cells9 (show q1.heap[w7.heap.size]? = some (.cells (headC ⟨u0, u1, u2, u3, u4, u5, u6, u7, k⟩ (.slice ad7 k.length cap7)) 24 (0, 0)) from (hp.block _ hz8).trans HZ8.out))
      | (go_at_call 15; refine (RC.out _ _ (by exact HE8.out.on ⟨hp.os, hp.tape, hp.output, hp.size, hp.block⟩)).mono ?_; rintro e q1 ⟨rfl, qb⟩; (try have hC := hdhid (hC.out.on ⟨qb.os, qb.tape, qb.output, qb.size, qb.block⟩)); have hp := hp.trans (Below.mono (show Below _ _ q1 from ⟨qb.os, qb.tape, qb.output, qb.size, qb.block⟩) hp.size); obtain ⟨x0, x1, x2, x3, x4, x5, x6, x7, x8⟩ := cells9 (show q1.heap[w.heap.size]? = some (.cells (headC ⟨house, gen, life, seq, next, clock, sb, sn, l⟩ (.slice ad l.length cap)) 24 (0, 0)) from (hp.block _ hw8).trans HX8.out); obtain ⟨y0, y1, y2, y3, y4, y5, y6, y7, y8⟩ := cells9 (show q1.heap[w5.heap.size]? = some (.cells (headC ⟨u0, u1, u2, u3, u4, u5, u6, u7, k⟩ (.slice ad5 k.length cap5)) 24 (0, 0)) from (hp.block _ hy8).trans HY8.out); obtain ⟨z0, z1, z2, z3, z4, z5, z6, z7, z8⟩ := cells9 (show q1.heap[w7.heap.size]? = some (.cells (headC ⟨u0, u1, u2, u3, u4, u5, u6, u7, k⟩ (.slice ad7 k.length cap7)) 24 (0, 0)) from (hp.block _ hz8).trans HZ8.out))
      | (go_at_call 16; refine (SA.out _ _ _ (by exact HG8.out.on ⟨hp.os, hp.tape, hp.output, hp.size, hp.block⟩) (by exact HF8.out.on ⟨hp.os, hp.tape, hp.output, hp.size, hp.block⟩)).mono ?_; rintro e q1 ⟨rfl, qb⟩; have hp := hp.trans (Below.mono (show Below _ _ q1 from ⟨qb.os, qb.tape, qb.output, qb.size, qb.block⟩) hp.size); obtain ⟨x0, x1, x2, x3, x4, x5, x6, x7, x8⟩ := cells9 (show q1.heap[w.heap.size]? = some (.cells (headC ⟨house, gen, life, seq, next, clock, sb, sn, l⟩ (.slice ad l.length cap)) 24 (0, 0)) from (hp.block _ hw8).trans HX8.out); obtain ⟨y0, y1, y2, y3, y4, y5, y6, y7, y8⟩ := cells9 (show q1.heap[w5.heap.size]? = some (.cells (headC ⟨u0, u1, u2, u3, u4, u5, u6, u7, k⟩ (.slice ad5 k.length cap5)) 24 (0, 0)) from (hp.block _ hy8).trans HY8.out); obtain ⟨z0, z1, z2, z3, z4, z5, z6, z7, z8⟩ := cells9 (show q1.heap[w7.heap.size]? = some (.cells (headC ⟨u0, u1, u2, u3, u4, u5, u6, u7, k⟩ (.slice ad7 k.length cap7)) 24 (0, 0)) from (hp.block _ hz8).trans HZ8.out))
      | (go_at_call 17; refine (SU.out _).mono ?_; rintro e q2 ⟨rfl, rfl⟩)
      | (go_at_call 18; refine (RS.out _).mono ?_; rintro e q2 ⟨rfl, rfl⟩)
      | (go_at_call 8; refine (AW.out _).mono ?_; rintro e q1 ⟨rfl, qb⟩; have hp := hp.trans (Below.mono (show Below _ _ q1 from ⟨qb.os, qb.tape, qb.output, qb.size, qb.block⟩) hp.size); obtain ⟨x0, x1, x2, x3, x4, x5, x6, x7, x8⟩ := cells9 (show q1.heap[w.heap.size]? = some (.cells (headC ⟨house, gen, life, seq, next, clock, sb, sn, l⟩ (.slice ad l.length cap)) 24 (0, 0)) from (hp.block _ hw8).trans HX8.out); obtain ⟨y0, y1, y2, y3, y4, y5, y6, y7, y8⟩ := cells9 (show q1.heap[w5.heap.size]? = some (.cells (headC ⟨u0, u1, u2, u3, u4, u5, u6, u7, k⟩ (.slice ad5 k.length cap5)) 24 (0, 0)) from (hp.block _ hy8).trans HY8.out); obtain ⟨z0, z1, z2, z3, z4, z5, z6, z7, z8⟩ := cells9 (show q1.heap[w7.heap.size]? = some (.cells (headC ⟨u0, u1, u2, u3, u4, u5, u6, u7, k⟩ (.slice ad7 k.length cap7)) 24 (0, 0)) from (hp.block _ hz8).trans HZ8.out)))
  have HBq : Hid (Below w.heap.size w q1) := HB8.out.trans (hp.mono HB8.out.size)
  clear hp
  go_wp2_with fail
  go_ret
  exact ⟨rfl, HBq.out⟩

theorem headAll_t (x : Hd) (vl : Value) (body s : ByteArray) (w : World) (hE : Ents w vl x.list) (_ : body.size ≤ 9223372036854775807) (hs : s.size ≤ 9223372036854775807) :
    Calls Try.prog 3 #[headV x vl, .string body, .string s] w fun e w' => e = .returned (.bool true) ∧ Below w.heap.size w w' := by
  by_cases h : x.list.length ≤ 40 ∧ body.size ≤ 7680
  · by_cases h3 : s.size ≤ 3000
    · exact headAll_few x vl body s w hE h.1 h.2 h3
    · exact headAll_long x vl body s w hE h (by omega) hs
  · exact headAll_many x vl body s w hE h
end Go.Proofs.Ytmhhlchddkdjnaa
