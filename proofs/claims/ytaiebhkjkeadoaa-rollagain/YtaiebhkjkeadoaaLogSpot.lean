/- spot walked: where a chunk of so many blocks stands. -/
import Derived.Test.YtaiebhkjkeadoaaLogSet
import Derived.Test.YtaiebhkjkeadoaaChunkRes
import Derived.BigRegion
namespace Go.Proofs.Ytaiebhkjkeadoaa
open Go.RowKit Lo Hdp

theorem cells19 {w : World} {lb b : Nat} {S G : Int} {house gen num life clock seg pos next seq m0 m1 m2 m3 sb sn : Int} {fl : List Int} {v : Value} {t : TypeId} (h : w.heap[lb]? = some (.cells (lgC b S G ⟨house, gen, num, life, clock, seg, pos, next, seq, m0, m1, m2, m3, sb, sn, fl⟩ v) t (0, 0))) :
    (w.cell? ⟨lb, 0, none⟩ = some (.pointer (some ⟨b, 0, none⟩)) ∧ w.cell? ⟨lb, 1, none⟩ = some (.int .i64 S) ∧ w.cell? ⟨lb, 2, none⟩ = some (.int .i64 G) ∧ w.cell? ⟨lb, 3, none⟩ = some (.int .i64 house) ∧ w.cell? ⟨lb, 4, none⟩ = some (.int .i64 gen)) ∧
    (w.cell? ⟨lb, 5, none⟩ = some (.int .i64 num) ∧ w.cell? ⟨lb, 6, none⟩ = some (.int .i64 life) ∧ w.cell? ⟨lb, 7, none⟩ = some (.int .i64 clock) ∧ w.cell? ⟨lb, 8, none⟩ = some (.int .i64 seg) ∧ w.cell? ⟨lb, 9, none⟩ = some (.int .i64 pos) ∧ w.cell? ⟨lb, 10, none⟩ = some (.int .i64 next) ∧ w.cell? ⟨lb, 11, none⟩ = some (.int .i64 seq) ∧ w.cell? ⟨lb, 12, none⟩ = some (.int .i64 m0) ∧ w.cell? ⟨lb, 13, none⟩ = some (.int .i64 m1) ∧ w.cell? ⟨lb, 14, none⟩ = some (.int .i64 m2) ∧ w.cell? ⟨lb, 15, none⟩ = some (.int .i64 m3) ∧ w.cell? ⟨lb, 16, none⟩ = some (.int .i64 sb) ∧ w.cell? ⟨lb, 17, none⟩ = some (.int .i64 sn)) ∧ w.cell? ⟨lb, 18, none⟩ = some v :=
  ⟨⟨(cell_of_row w _ _ _ _ _ h).trans rfl, (cell_of_row w _ _ _ _ _ h).trans rfl, (cell_of_row w _ _ _ _ _ h).trans rfl, (cell_of_row w _ _ _ _ _ h).trans rfl, (cell_of_row w _ _ _ _ _ h).trans rfl⟩, ⟨(cell_of_row w _ _ _ _ _ h).trans rfl, (cell_of_row w _ _ _ _ _ h).trans rfl, (cell_of_row w _ _ _ _ _ h).trans rfl, (cell_of_row w _ _ _ _ _ h).trans rfl, (cell_of_row w _ _ _ _ _ h).trans rfl, (cell_of_row w _ _ _ _ _ h).trans rfl, (cell_of_row w _ _ _ _ _ h).trans rfl, (cell_of_row w _ _ _ _ _ h).trans rfl, (cell_of_row w _ _ _ _ _ h).trans rfl, (cell_of_row w _ _ _ _ _ h).trans rfl, (cell_of_row w _ _ _ _ _ h).trans rfl, (cell_of_row w _ _ _ _ _ h).trans rfl, (cell_of_row w _ _ _ _ _ h).trans rfl⟩, (cell_of_row w _ _ _ _ _ h).trans rfl⟩

theorem Try.slotSize : (Try.prog.info? 29).map (·.size) = some 13 := by kernel_rfl

set_option maxRecDepth 10000 in
set_option maxHeartbeats 4000000 in
theorem spot_stay (lb b : Nat) (S G n sg : Int) (L : Lg) (ad : Option Addr) (fn cap : Nat) (t : TypeId) (w : World) (h : w.heap[lb]? = some (.cells (lgC b S G L (.slice ad fn cap)) t (0, 0))) (hn0 : 0 ≤ n) (hn1 : n ≤ 1000000) (hG0 : 32 ≤ G) (hG1 : G ≤ 64) (hS : SegsSaid S G sg) (h0 : 0 ≤ L.pos) (h1 : 0 ≤ L.seg) (h2 : L.seg < sg) (hp : L.pos ≤ G - 1 - n) :
    Calls Try.prog 30 #[.pointer (some ⟨lb, 0, none⟩), .int .i64 n] w fun e w' => e = .returned (.tuple #[plV L, .slice ad fn cap, .bool true]) ∧ Below w.heap.size w w' := by
  have HAS := lohid (fun w1 => has_yes b S G sg L w1 hS h0 h1 h2)
  clear hS h1 h2
  obtain ⟨house, gen, num, life, clock, seg, pos, next, seq, m0, m1, m2, m3, sb, sn, fl⟩ := L
  dsimp only at h0 hp
  dsimp only [plV, plC] at HAS ⊢
  have HR := lohid h
  have hlb : lb < w.heap.size := (Array.getElem?_eq_some_iff.1 h).1
  clear h
  obtain ⟨⟨g0, g1, g2, g3, g4⟩, ⟨p0, p1, p2, p3, p4, p5, p6, p7, p8, p9, p10, p11, p12⟩, fc⟩ := cells19 HR.out
  go_enter Try.func30, Try.ntmps30
  go_wp2_with fail
  go_region
  generalize hV : World.drew _ = V
  have Z0 : Hid (V.heap[w.heap.size]? = some (.cells #[.int .i64 0, .int .i64 0, .int .i64 0, .int .i64 0, .int .i64 0, .int .i64 0, .int .i64 0, .int .i64 0, .int .i64 0, .int .i64 0, .int .i64 0, .int .i64 0, .int .i64 0] 29 (0, 0))) := by rw [← hV]; exact heap_alloc2_old _ _ _
  have X1 : Hid (V.heap[w.heap.size + 1]? = some (.cells #[.int .i64 num, .int .i64 life, .int .i64 clock, .int .i64 seg, .int .i64 pos, .int .i64 next, .int .i64 seq, .int .i64 m0, .int .i64 m1, .int .i64 m2, .int .i64 m3, .int .i64 sb, .int .i64 sn] 29 (0, 0))) := by rw [← hV]; exact heap_alloc2_new _ _ _
  have HB : Hid (Below w.heap.size w V) := by rw [← hV]; exact (((Below.refl _ w).alloc (Nat.le_refl _) _).alloc (by simp) _).drew
  have HRV := lohid (row_on HR.out HB.out)
  clear hV g0 g1 g2 g3 g4 p0 p1 p2 p3 p4 p5 p6 p7 p8 p9 p10 p11 p12 fc HR
  obtain ⟨⟨g0, g1, g2, g3, g4⟩, -, -⟩ := cells19 HRV.out
  obtain ⟨q0, q1, q2, q3, q4, q5, q6, q7, q8, q9, q10, q11, q12⟩ := cells13 X1.out
  have hw1 : wrap64 (G - 1) = G - 1 := Go.IntWalk.wrap64_in _ (by omega)
  have hw2 : wrap64 (G - 1 - n) = G - 1 - n := Go.IntWalk.wrap64_in _ (by omega)
  have hng : ¬ G - 1 - n < pos := by omega
  go_wp2_with fail
  go_quiet (fail)
  go_wp2_with fail
  generalize hV2 : V.drewN _ = V2
  have Z2 : Hid (V2.heap[w.heap.size]? = some (.cells #[.int .i64 0, .int .i64 0, .int .i64 0, .int .i64 0, .int .i64 0, .int .i64 0, .int .i64 0, .int .i64 0, .int .i64 0, .int .i64 0, .int .i64 0, .int .i64 0, .int .i64 0] 29 (0, 0))) := by rw [← hV2]; exact Z0.out
  have X2 : Hid (V2.heap[w.heap.size + 1]? = some (.cells #[.int .i64 num, .int .i64 life, .int .i64 clock, .int .i64 seg, .int .i64 pos, .int .i64 next, .int .i64 seq, .int .i64 m0, .int .i64 m1, .int .i64 m2, .int .i64 m3, .int .i64 sb, .int .i64 sn] 29 (0, 0))) := by rw [← hV2]; exact X1.out
  have HR2 := lohid ((by rw [← hV2]; rfl : V2.heap[lb]? = V.heap[lb]?).trans HRV.out)
  have HB2 : Hid (Below w.heap.size w V2) := by rw [← hV2]; exact ⟨HB.out.os, HB.out.tape, HB.out.output, HB.out.size, HB.out.block⟩
  clear hV2 Z0 X1 HRV HB g0 g1 g2 g3 g4 q0 q1 q2 q3 q4 q5 q6 q7 q8 q9 q10 q11 q12
  obtain ⟨⟨g0, g1, g2, -, -⟩, -, -⟩ := cells19 HR2.out
  obtain ⟨q0, q1, q2, q3, q4, q5, q6, q7, q8, q9, q10, q11, q12⟩ := cells13 X2.out
  have hwl : w.heap.size ≠ lb := by omega
  go_region_held3 (fun w' => w'.cell? ⟨lb, 0, none⟩ = some (.pointer (some ⟨b, 0, none⟩)) ∧ w'.cell? ⟨lb, 1, none⟩ = some (.int .i64 S) ∧ w'.cell? ⟨lb, 2, none⟩ = some (.int .i64 G) ∧
      w'.cell? ⟨w.heap.size + 1, 0, none⟩ = some (.int .i64 num) ∧ w'.cell? ⟨w.heap.size + 1, 1, none⟩ = some (.int .i64 life) ∧ w'.cell? ⟨w.heap.size + 1, 2, none⟩ = some (.int .i64 clock) ∧ w'.cell? ⟨w.heap.size + 1, 3, none⟩ = some (.int .i64 seg) ∧ w'.cell? ⟨w.heap.size + 1, 4, none⟩ = some (.int .i64 pos) ∧ w'.cell? ⟨w.heap.size + 1, 5, none⟩ = some (.int .i64 next) ∧ w'.cell? ⟨w.heap.size + 1, 6, none⟩ = some (.int .i64 seq) ∧ w'.cell? ⟨w.heap.size + 1, 7, none⟩ = some (.int .i64 m0) ∧ w'.cell? ⟨w.heap.size + 1, 8, none⟩ = some (.int .i64 m1) ∧ w'.cell? ⟨w.heap.size + 1, 9, none⟩ = some (.int .i64 m2) ∧ w'.cell? ⟨w.heap.size + 1, 10, none⟩ = some (.int .i64 m3) ∧ w'.cell? ⟨w.heap.size + 1, 11, none⟩ = some (.int .i64 sb) ∧ w'.cell? ⟨w.heap.size + 1, 12, none⟩ = some (.int .i64 sn)) (go_keep)
    (first
      | (go_at_call 38; refine (HAS.out _).mono ?_; rintro e w1 ⟨rfl, hb1⟩
         have hb1 := lo_undrew hb1
         have hB1 := lohid hb1
         have HZ1 := lohid (row_on Z2.out hb1)
         obtain ⟨⟨g0, g1, g2, -, -⟩, -, -⟩ := cells19 (row_on HR2.out hb1)
         obtain ⟨q0, q1, q2, q3, q4, q5, q6, q7, q8, q9, q10, q11, q12⟩ := cells13 (row_on X2.out hb1)
         obtain ⟨z0, z1, z2, z3, z4, z5, z6, z7, z8, z9, z10, z11, z12⟩ := cells13 HZ1.out
         have f0 : ∀ k, w1.frozen? ⟨w.heap.size, k, none⟩ = false := fun k => frozen_of_row w1 _ k _ _ HZ1.out))
  generalize hV3 : World.setCell _ _ _ = V3
  have Z3 : Hid (V3.heap[w.heap.size]? = some (.cells #[.int .i64 num, .int .i64 life, .int .i64 clock, .int .i64 seg, .int .i64 pos, .int .i64 next, .int .i64 seq, .int .i64 m0, .int .i64 m1, .int .i64 m2, .int .i64 m3, .int .i64 sb, .int .i64 sn] 29 (0, 0))) := by rw [← hV3]; exact set13_row rfl HZ1.out _ _ _ _ _ _ _ _ _ _ _ _ _
  have HB3 : Hid (Below w.heap.size w V3) := by rw [← hV3]; exact set13_below (HB2.out.trans (hB1.out.mono HB2.out.size)) (Nat.le_refl _) _ _ _ _ _ _ _ _ _ _ _ _ _
  clear hV3 g0 g1 g2 q0 q1 q2 q3 q4 q5 q6 q7 q8 q9 q10 q11 q12 z0 z1 z2 z3 z4 z5 z6 z7 z8 z9 z10 z11 z12 f0
  go_wp2_with fail
  refine bodyPost_ret (v := .tuple #[.agg #[.int .i64 num, .int .i64 life, .int .i64 clock, .int .i64 seg, .int .i64 pos, .int .i64 next, .int .i64 seq, .int .i64 m0, .int .i64 m1, .int .i64 m2, .int .i64 m3, .int .i64 sb, .int .i64 sn], .slice ad fn cap, .bool true]) (results_ctt_row Try.results30 _ _ w.heap.size 29 #[.int .i64 num, .int .i64 life, .int .i64 clock, .int .i64 seg, .int .i64 pos, .int .i64 next, .int .i64 seq, .int .i64 m0, .int .i64 m1, .int .i64 m2, .int .i64 m3, .int .i64 sb, .int .i64 sn] (0, 0) _ rfl Z3.out Try.underlying29 rfl Try.slotSize) rfl ⟨rfl, HB3.out⟩
set_option maxRecDepth 10000 in
set_option maxHeartbeats 4000000 in
theorem spot_none (lb b : Nat) (S G n : Int) (L : Lg) (ad : Option Addr) (cap : Nat) (t : TypeId) (w : World) (h : w.heap[lb]? = some (.cells (lgC b S G L (.slice ad 0 cap)) t (0, 0))) (hn0 : 0 ≤ n) (hn1 : n ≤ 1000000) (hG0 : 32 ≤ G) (hG1 : G ≤ 64) (hp : G - 1 - n < L.pos) :
    Calls Try.prog 30 #[.pointer (some ⟨lb, 0, none⟩), .int .i64 n] w fun e w' => e = .returned (.tuple #[.agg #[.int .i64 0, .int .i64 0, .int .i64 0, .int .i64 0, .int .i64 0, .int .i64 0, .int .i64 0, .int .i64 0, .int .i64 0, .int .i64 0, .int .i64 0, .int .i64 0, .int .i64 0], .slice none 0 0, .bool false]) ∧ Below w.heap.size w w' := by
  obtain ⟨house, gen, num, life, clock, seg, pos, next, seq, m0, m1, m2, m3, sb, sn, fl⟩ := L
  dsimp only at hp
  have HR := lohid h
  have hlb : lb < w.heap.size := (Array.getElem?_eq_some_iff.1 h).1
  clear h
  obtain ⟨⟨g0, g1, g2, g3, g4⟩, ⟨p0, p1, p2, p3, p4, p5, p6, p7, p8, p9, p10, p11, p12⟩, fc⟩ := cells19 HR.out
  go_enter Try.func30, Try.ntmps30
  go_wp2_with fail
  go_region
  generalize hV : World.drew _ = V
  have Z0 : Hid (V.heap[w.heap.size]? = some (.cells #[.int .i64 0, .int .i64 0, .int .i64 0, .int .i64 0, .int .i64 0, .int .i64 0, .int .i64 0, .int .i64 0, .int .i64 0, .int .i64 0, .int .i64 0, .int .i64 0, .int .i64 0] 29 (0, 0))) := by rw [← hV]; exact heap_alloc2_old _ _ _
  have X1 : Hid (V.heap[w.heap.size + 1]? = some (.cells #[.int .i64 num, .int .i64 life, .int .i64 clock, .int .i64 seg, .int .i64 pos, .int .i64 next, .int .i64 seq, .int .i64 m0, .int .i64 m1, .int .i64 m2, .int .i64 m3, .int .i64 sb, .int .i64 sn] 29 (0, 0))) := by rw [← hV]; exact heap_alloc2_new _ _ _
  have HB : Hid (Below w.heap.size w V) := by rw [← hV]; exact (((Below.refl _ w).alloc (Nat.le_refl _) _).alloc (by simp) _).drew
  have HRV := lohid (row_on HR.out HB.out)
  clear hV g0 g1 g2 g3 g4 p0 p1 p2 p3 p4 p5 p6 p7 p8 p9 p10 p11 p12 fc HR
  obtain ⟨⟨g0, g1, g2, g3, g4⟩, -, -⟩ := cells19 HRV.out
  obtain ⟨q0, q1, q2, q3, q4, q5, q6, q7, q8, q9, q10, q11, q12⟩ := cells13 X1.out
  have hw1 : wrap64 (G - 1) = G - 1 := Go.IntWalk.wrap64_in _ (by omega)
  have hw2 : wrap64 (G - 1 - n) = G - 1 - n := Go.IntWalk.wrap64_in _ (by omega)
  obtain ⟨z0, z1, z2, z3, z4, z5, z6, z7, z8, z9, z10, z11, z12⟩ := cells13 Z0.out
  have f0 : ∀ n, ∀ k, (V.drewN n).frozen? ⟨w.heap.size, k, none⟩ = false := fun n k => frozen_of_row V _ k _ _ Z0.out
  go_wp2_with fail
  go_quiet (fail)
  generalize hV2 : V.drewN _ = V2
  have Z2 : Hid (V2.heap[w.heap.size]? = some (.cells #[.int .i64 0, .int .i64 0, .int .i64 0, .int .i64 0, .int .i64 0, .int .i64 0, .int .i64 0, .int .i64 0, .int .i64 0, .int .i64 0, .int .i64 0, .int .i64 0, .int .i64 0] 29 (0, 0))) := by rw [← hV2]; exact Z0.out
  have HB2 : Hid (Below w.heap.size w V2) := by rw [← hV2]; exact ⟨HB.out.os, HB.out.tape, HB.out.output, HB.out.size, HB.out.block⟩
  clear hV2 Z0 X1 HRV HB g0 g1 g2 g3 g4 q0 q1 q2 q3 q4 q5 q6 q7 q8 q9 q10 q11 q12 z0 z1 z2 z3 z4 z5 z6 z7 z8 z9 z10 z11 z12 f0
  go_wp2_with (first
    | (refine wpList_store_row rfl 29 (.tmp 4) (.tmp 32) rfl w.heap.size #[.int .i64 0, .int .i64 0, .int .i64 0, .int .i64 0, .int .i64 0, .int .i64 0, .int .i64 0, .int .i64 0, .int .i64 0, .int .i64 0, .int .i64 0, .int .i64 0, .int .i64 0] rfl rfl 29 _ Z2.out Try.slotSize rfl (by simp [Value.oneCell']) ?_)
    | fail)
  refine bodyPost_ret (v := .tuple #[.agg #[.int .i64 0, .int .i64 0, .int .i64 0, .int .i64 0, .int .i64 0, .int .i64 0, .int .i64 0, .int .i64 0, .int .i64 0, .int .i64 0, .int .i64 0, .int .i64 0, .int .i64 0], .slice none 0 0, .bool false]) (results_ctt_row Try.results30 _ _ w.heap.size 29 #[.int .i64 0, .int .i64 0, .int .i64 0, .int .i64 0, .int .i64 0, .int .i64 0, .int .i64 0, .int .i64 0, .int .i64 0, .int .i64 0, .int .i64 0, .int .i64 0, .int .i64 0] (0, 0) _ rfl (setRow_heap _ _ _ _ _ _ Z2.out) Try.underlying29 rfl Try.slotSize) rfl ⟨rfl, ?_⟩
  exact below_setRow HB2.out (Nat.le_refl _) _

theorem Try.loSize3 (w : World) : (sizeOf 3).run Try.prog w = .ok 1 w := by kernel_rfl

/-- A slice without its first number. -/
theorem tail_run (fb off m cap : Nat) (h : m + 1 ≤ cap) : ∃ ad, (∀ w, (Instr.slice 22 (.slice (some ⟨fb, off, none⟩) (m + 1) cap) (some (.int .i64 1)) none none).run Try.prog w = .ok (.slice ad m (cap - 1)) w) ∧ (cap = 1 ∨ ad = some ⟨fb, off + 1, none⟩) := by
  have e : (⟨fb, off, none⟩ : Addr).add 1 = ⟨fb, off + 1, none⟩ := num_addr fb off 1
  by_cases hc : cap = 1
  · refine ⟨some ⟨fb, off, none⟩, fun w => ?_, .inl hc⟩
    have hm : m = 0 := by omega
    subst hc hm
    simp [Instr.slice, Instr.sliceBounds, Instr.sliceBound, asIntOf, run_underlying Try.underlying22]
  · refine ⟨some ⟨fb, off + 1, none⟩, fun w => ?_, .inr rfl⟩
    simp [Instr.slice, Instr.sliceBounds, Instr.sliceBound, asIntOf, run_underlying Try.underlying22, hc, e]
    omega

set_option maxRecDepth 10000 in
set_option maxHeartbeats 4000000 in
theorem spot_move (lb b : Nat) (S G n sg : Int) (L : Lg) (f : Int) (fb off m cap : Nat) (t : TypeId) (w : World) (h : w.heap[lb]? = some (.cells (lgC b S G L (.slice (some ⟨fb, off, none⟩) (m + 1) cap)) t (0, 0))) (hn0 : 0 ≤ n) (hn1 : n ≤ 1000000) (hG0 : 32 ≤ G) (hG1 : G ≤ 64) (hS : SegsSaid S G sg) (h1 : 0 ≤ L.next) (h2 : L.next < sg) (hp : G - 1 - n < L.pos) (hf : w.cell? ⟨fb, off, none⟩ = some (.int .i64 f)) (hmc : m + 1 ≤ cap) (hm : m ≤ 1000000) :
    Calls Try.prog 30 #[.pointer (some ⟨lb, 0, none⟩), .int .i64 n] w fun e w' => ∃ ad, e = .returned (.tuple #[.agg #[.int .i64 L.num, .int .i64 L.life, .int .i64 L.clock, .int .i64 L.next, .int .i64 0, .int .i64 f, .int .i64 L.seq, .int .i64 L.m0, .int .i64 L.m1, .int .i64 L.m2, .int .i64 L.m3, .int .i64 L.sb, .int .i64 L.sn], .slice ad m (cap - 1), .bool true]) ∧ (cap = 1 ∨ ad = some ⟨fb, off + 1, none⟩) ∧ Below w.heap.size w w' := by
  have HAS := lohid (fun w1 => has_yes b S G sg ⟨L.house, L.gen, L.num, L.life, L.clock, L.next, 0, f, L.seq, L.m0, L.m1, L.m2, L.m3, L.sb, L.sn, []⟩ w1 hS (Int.le_refl 0) h1 h2)
  clear hS h1 h2
  obtain ⟨house, gen, num, life, clock, seg, pos, next, seq, m0, m1, m2, m3, sb, sn, fl⟩ := L
  dsimp only at hp
  dsimp only [plV, plC] at HAS
  obtain ⟨ad, htl, had⟩ := tail_run fb off m cap hmc
  have HAD := lohid had
  clear had
  have hfb := block_lt_of_cell hf
  have HR := lohid h
  have hlb : lb < w.heap.size := (Array.getElem?_eq_some_iff.1 h).1
  clear h
  obtain ⟨⟨g0, g1, g2, g3, g4⟩, ⟨p0, p1, p2, p3, p4, p5, p6, p7, p8, p9, p10, p11, p12⟩, fc⟩ := cells19 HR.out
  go_enter Try.func30, Try.ntmps30
  go_wp2_with fail
  go_region
  generalize hV : World.drew _ = V
  have Z0 : Hid (V.heap[w.heap.size]? = some (.cells #[.int .i64 0, .int .i64 0, .int .i64 0, .int .i64 0, .int .i64 0, .int .i64 0, .int .i64 0, .int .i64 0, .int .i64 0, .int .i64 0, .int .i64 0, .int .i64 0, .int .i64 0] 29 (0, 0))) := by rw [← hV]; exact heap_alloc2_old _ _ _
  have X1 : Hid (V.heap[w.heap.size + 1]? = some (.cells #[.int .i64 num, .int .i64 life, .int .i64 clock, .int .i64 seg, .int .i64 pos, .int .i64 next, .int .i64 seq, .int .i64 m0, .int .i64 m1, .int .i64 m2, .int .i64 m3, .int .i64 sb, .int .i64 sn] 29 (0, 0))) := by rw [← hV]; exact heap_alloc2_new _ _ _
  have HB : Hid (Below w.heap.size w V) := by rw [← hV]; exact (((Below.refl _ w).alloc (Nat.le_refl _) _).alloc (by simp) _).drew
  have HRV := lohid (row_on HR.out HB.out)
  have hfV : V.cell? ⟨fb, off, none⟩ = some (.int .i64 f) := (HB.out.cell hfb).trans hf
  clear hV hf g0 g1 g2 g3 g4 p0 p1 p2 p3 p4 p5 p6 p7 p8 p9 p10 p11 p12 fc HR
  obtain ⟨⟨g0, g1, g2, g3, g4⟩, -, -⟩ := cells19 HRV.out
  obtain ⟨q0, q1, q2, q3, q4, q5, q6, q7, q8, q9, q10, q11, q12⟩ := cells13 X1.out
  have hw1 : wrap64 (G - 1) = G - 1 := Go.IntWalk.wrap64_in _ (by omega)
  have hw2 : wrap64 (G - 1 - n) = G - 1 - n := Go.IntWalk.wrap64_in _ (by omega)
  have hmz : ((m : Int) + 1 == 0) = false := by simp; omega
  have fx : ∀ k, V.frozen? ⟨w.heap.size + 1, k, none⟩ = false := fun k => frozen_of_row V _ k _ _ X1.out
  have hne : w.heap.size + 1 ≠ fb := by omega
  go_wp2_with fail
  go_quiet (fail)
  go_wp2_with fail
  go_region
  have X1n : ∀ n, (V.drewN n).heap[w.heap.size + 1]? = some (.cells #[.int .i64 num, .int .i64 life, .int .i64 clock, .int .i64 seg, .int .i64 pos, .int .i64 next, .int .i64 seq, .int .i64 m0, .int .i64 m1, .int .i64 m2, .int .i64 m3, .int .i64 sb, .int .i64 sn] 29 (0, 0)) := fun n => X1.out
  generalize hV2 : World.setCell _ _ _ = V2
  have Z2 : Hid (V2.heap[w.heap.size]? = some (.cells #[.int .i64 0, .int .i64 0, .int .i64 0, .int .i64 0, .int .i64 0, .int .i64 0, .int .i64 0, .int .i64 0, .int .i64 0, .int .i64 0, .int .i64 0, .int .i64 0, .int .i64 0] 29 (0, 0))) := by
    rw [← hV2]
    rw [heap_setCell_other _ _ _ _ (by simp), heap_setCell_other _ _ _ _ (by simp), heap_setCell_other _ _ _ _ (by simp)]
    exact Z0.out
  have X2 : Hid (V2.heap[w.heap.size + 1]? = some (.cells #[.int .i64 num, .int .i64 life, .int .i64 clock, .int .i64 next, .int .i64 0, .int .i64 f, .int .i64 seq, .int .i64 m0, .int .i64 m1, .int .i64 m2, .int .i64 m3, .int .i64 sb, .int .i64 sn] 29 (0, 0))) := by
    rw [← hV2]
    exact heap_setCell_same _ _ 5 _ _ _ (heap_setCell_same _ _ 4 _ _ _ (heap_setCell_same _ _ 3 _ _ _ (X1n _)))
  have e2 : V2.heap[lb]? = V.heap[lb]? := by
    rw [← hV2]
    rw [heap_setCell_other _ _ _ _ (by dsimp only; omega), heap_setCell_other _ _ _ _ (by dsimp only; omega), heap_setCell_other _ _ _ _ (by dsimp only; omega)]
    rfl
  have HR2 := lohid (e2.trans HRV.out)
  have HB2 : Hid (Below w.heap.size w V2) := by
    rw [← hV2]
    have BVn : ∀ n, Below w.heap.size w (V.drewN n) := fun n => ⟨HB.out.os, HB.out.tape, HB.out.output, HB.out.size, HB.out.block⟩
    refine Below.setCell (Below.setCell (Below.setCell (BVn _) ?_ _) ?_ _) ?_ _
    all_goals
      show w.heap.size ≤ w.heap.size + 1
      omega
  clear hV2 e2 X1n Z0 X1 HRV HB g0 g1 g2 g3 g4 q0 q1 q2 q3 q4 q5 q6 q7 q8 q9 q10 q11 q12 fx hfV hne
  go_wp2_with fail
  obtain ⟨⟨g0, g1, g2, -, -⟩, -, -⟩ := cells19 HR2.out
  obtain ⟨q0, q1, q2, q3, q4, q5, q6, q7, q8, q9, q10, q11, q12⟩ := cells13 X2.out
  have hwl : w.heap.size ≠ lb := by omega
  go_region_held3 (fun w' => w'.cell? ⟨lb, 0, none⟩ = some (.pointer (some ⟨b, 0, none⟩)) ∧ w'.cell? ⟨lb, 1, none⟩ = some (.int .i64 S) ∧ w'.cell? ⟨lb, 2, none⟩ = some (.int .i64 G) ∧
      w'.cell? ⟨w.heap.size + 1, 0, none⟩ = some (.int .i64 num) ∧ w'.cell? ⟨w.heap.size + 1, 1, none⟩ = some (.int .i64 life) ∧ w'.cell? ⟨w.heap.size + 1, 2, none⟩ = some (.int .i64 clock) ∧ w'.cell? ⟨w.heap.size + 1, 3, none⟩ = some (.int .i64 next) ∧ w'.cell? ⟨w.heap.size + 1, 4, none⟩ = some (.int .i64 0) ∧ w'.cell? ⟨w.heap.size + 1, 5, none⟩ = some (.int .i64 f) ∧ w'.cell? ⟨w.heap.size + 1, 6, none⟩ = some (.int .i64 seq) ∧ w'.cell? ⟨w.heap.size + 1, 7, none⟩ = some (.int .i64 m0) ∧ w'.cell? ⟨w.heap.size + 1, 8, none⟩ = some (.int .i64 m1) ∧ w'.cell? ⟨w.heap.size + 1, 9, none⟩ = some (.int .i64 m2) ∧ w'.cell? ⟨w.heap.size + 1, 10, none⟩ = some (.int .i64 m3) ∧ w'.cell? ⟨w.heap.size + 1, 11, none⟩ = some (.int .i64 sb) ∧ w'.cell? ⟨w.heap.size + 1, 12, none⟩ = some (.int .i64 sn)) (go_keep)
    (first
      | (go_at_call 38; refine (HAS.out _).mono ?_; rintro e w1 ⟨rfl, hb1⟩
         have hb1 := lo_undrew hb1
         have hB1 := lohid hb1
         have HZ1 := lohid (row_on Z2.out hb1)
         obtain ⟨⟨g0, g1, g2, -, -⟩, -, -⟩ := cells19 (row_on HR2.out hb1)
         obtain ⟨q0, q1, q2, q3, q4, q5, q6, q7, q8, q9, q10, q11, q12⟩ := cells13 (row_on X2.out hb1)
         obtain ⟨z0, z1, z2, z3, z4, z5, z6, z7, z8, z9, z10, z11, z12⟩ := cells13 HZ1.out
         have f0 : ∀ k, w1.frozen? ⟨w.heap.size, k, none⟩ = false := fun k => frozen_of_row w1 _ k _ _ HZ1.out))
  generalize hV3 : World.setCell _ _ _ = V3
  have Z3 : Hid (V3.heap[w.heap.size]? = some (.cells #[.int .i64 num, .int .i64 life, .int .i64 clock, .int .i64 next, .int .i64 0, .int .i64 f, .int .i64 seq, .int .i64 m0, .int .i64 m1, .int .i64 m2, .int .i64 m3, .int .i64 sb, .int .i64 sn] 29 (0, 0))) := by rw [← hV3]; exact set13_row rfl HZ1.out _ _ _ _ _ _ _ _ _ _ _ _ _
  have HB3 : Hid (Below w.heap.size w V3) := by rw [← hV3]; exact set13_below (HB2.out.trans (hB1.out.mono HB2.out.size)) (Nat.le_refl _) _ _ _ _ _ _ _ _ _ _ _ _ _
  clear hV3 g0 g1 g2 q0 q1 q2 q3 q4 q5 q6 q7 q8 q9 q10 q11 q12 z0 z1 z2 z3 z4 z5 z6 z7 z8 z9 z10 z11 z12 f0
  go_wp2_with fail
  refine bodyPost_ret (v := .tuple #[.agg #[.int .i64 num, .int .i64 life, .int .i64 clock, .int .i64 next, .int .i64 0, .int .i64 f, .int .i64 seq, .int .i64 m0, .int .i64 m1, .int .i64 m2, .int .i64 m3, .int .i64 sb, .int .i64 sn], .slice ad m (cap - 1), .bool true]) (results_ctt_row Try.results30 _ _ w.heap.size 29 #[.int .i64 num, .int .i64 life, .int .i64 clock, .int .i64 next, .int .i64 0, .int .i64 f, .int .i64 seq, .int .i64 m0, .int .i64 m1, .int .i64 m2, .int .i64 m3, .int .i64 sb, .int .i64 sn] (0, 0) _ rfl Z3.out Try.underlying29 rfl Try.slotSize) rfl ⟨ad, rfl, HAD.out, HB3.out⟩
end Go.Proofs.Ytaiebhkjkeadoaa
