/- Append walked where there is no room, or no chunk. -/
import Derived.Test.YtaiebhkjkeadoaaLogAt
import Derived.Test.YtaiebhkjkeadoaaChunkMake
namespace Go.Proofs.Ytaiebhkjkeadoaa
open Go.RowKit Lo Hdp Chk

set_option maxRecDepth 10000 in
set_option maxHeartbeats 4000000 in
theorem append_full (lb b : Nat) (S G : Int) (L : Lg) (v : Value) (P : Nat → Prop) (t : TypeId) (x : Hd) (hv bv : Value) (l : List ByteArray) (w : World) (h : w.heap[lb]? = some (.cells (lgC b S G L v) t (0, 0))) (hf : FreeAt w P v L.free) (hG0 : 32 ≤ G) (hG1 : G ≤ 64) (hT : Txts w bv l) (hl : l.length ≤ 1000) (hc : L.canB G l.length = false) :
    Calls Try.prog 21 #[.pointer (some ⟨lb, 0, none⟩), headV x hv, bv] w fun e w' => e = .returned (.tuple #[.slice none 0 0, .bool false]) ∧ Below w.heap.size w w' := by
  obtain ⟨bad, bcap, rfl, -, hlc, -⟩ := hT
  obtain ⟨m, hm⟩ : ∃ m, l.length = m := ⟨_, rfl⟩
  rw [hm] at hc hl hlc ⊢
  clear hm
  have SP := lohid (fun w1 (hb : Below w.heap.size w w1) => spot_no (w := w1) m (row_on h hb) (hf.on hb) hG0 hG1 (by omega) hc)
  clear h hf hc
  go_enter Try.func21, Try.ntmps21
  go_wp2_with fail
  generalize hW : World.alloc w _ = W
  have HB : Hid (Below w.heap.size w W) := by rw [← hW]; exact (Below.refl _ w).alloc (Nat.le_refl _) _
  clear hW
  refine (SP.out W HB.out).mono ?_
  rintro e w1 ⟨L0, rfl, hb1⟩
  have HB1 : Hid (Below w.heap.size w w1) := HB.out.trans (hb1.mono HB.out.size)
  clear hb1 HB SP
  go_wp2_with fail
  go_ret2
  exact ⟨rfl, HB1.out.alloc HB1.out.size _⟩

set_option maxRecDepth 10000 in
set_option maxHeartbeats 4000000 in
theorem append_unmade (lb b : Nat) (S G sg : Int) (L : Lg) (v : Value) (P : Nat → Prop) (t : TypeId) (x : Hd) (ad : Option Addr) (cap : Nat) (bv : Value) (l : List ByteArray) (w : World) (h : w.heap[lb]? = some (.cells (lgC b S G L v) t (0, 0))) (hf : FreeAt w P v L.free) (hok : L.Ok G sg) (hG0 : 32 ≤ G) (hG1 : G ≤ 64) (hS : SegsSaid S G sg) (hE : Ents w (.slice ad x.list.length cap) x.list) (hT : Txts w bv l) (hl : l.length ≤ 1000) (hc : L.canB G l.length = true)
    (hmk : makeB ((L.move G l.length).head x) l = false) :
    Calls Try.prog 21 #[.pointer (some ⟨lb, 0, none⟩), headV x (.slice ad x.list.length cap), bv] w fun e w' => e = .returned (.tuple #[.slice none 0 0, .bool false]) ∧ Below w.heap.size w w' := by
  obtain ⟨bad, bcap, rfl, hbn, hlc, hbc⟩ := hT
  have hT : Txts w (.slice bad l.length bcap) l := ⟨bad, bcap, rfl, hbn, hlc, hbc⟩
  clear hbn hbc
  have HTI := lohid hT
  have HEI := lohid hE
  clear hT hE
  have SP := lohid (fun w1 (hb : Below w.heap.size w w1) => spot_yes (w := w1) (P := P) l.length (row_on h hb) (hf.on hb) hok hG0 hG1 hS (by omega) hc)
  have hlb : lb < w.heap.size := (Array.getElem?_eq_some_iff.1 h).1
  have HRW := lohid h
  have hh1 : (L.move G l.length).house = L.house := by unfold Lg.move; split <;> rfl
  have hh2 : (L.move G l.length).gen = L.gen := by unfold Lg.move; split <;> rfl
  clear h hf hc hS
  generalize L.move G l.length = L1 at *
  have ST := lohid (fun (w1 : World) c3 c4 => stamp_t lb L1 x ad x.list.length cap w1 c3 c4)
  have MK := lohid (fun w1 (h1 : Ents w1 (.slice ad x.list.length cap) x.list) (h2 : Txts w1 (.slice bad l.length bcap) l) => make_t (L1.head x) (.slice ad x.list.length cap) (.slice bad l.length bcap) l w1 h1 h2 (by omega))
  rw [hmk, makeS_no hmk] at MK
  clear hmk
  obtain ⟨m, hm⟩ : ∃ m, l.length = m := ⟨_, rfl⟩
  rw [hm] at SP MK HTI hlc hl ⊢
  obtain ⟨en, hen⟩ : ∃ n, x.list.length = n := ⟨_, rfl⟩
  rw [hen] at ST MK HEI ⊢
  clear hm hen
  obtain ⟨X, hX⟩ : ∃ X, L1.head x = X := ⟨_, rfl⟩
  rw [hX] at ST MK
  clear hX
  obtain ⟨house, gen, num, life, clock, seg, pos, next, seq, m0, m1, m2, m3, sb, sn, fl⟩ := L1
  dsimp only at hh1 hh2
  go_enter Try.func21, Try.ntmps21
  go_wp2_with fail
  generalize hW : World.alloc w _ = W
  have HB : Hid (Below w.heap.size w W) := by rw [← hW]; exact (Below.refl _ w).alloc (Nat.le_refl _) _
  have RH0 : Hid (W.heap[w.heap.size]? = some (.cells (headC x (.slice ad en cap)) 43 (0, 0))) := by rw [← hW]; exact heap_alloc_new _ _
  clear hW
  refine (SP.out W HB.out).mono ?_
  rintro e w1 ⟨v1, rfl, hfr, hb1⟩
  obtain ⟨fad, fcap, rfl⟩ := hfr.slice
  have HFR := lohid hfr
  have RH1 := lohid (row_on RH0.out hb1)
  have HB1 : Hid (Below w.heap.size w w1) := HB.out.trans (hb1.mono HB.out.size)
  clear hb1 HB SP hfr RH0
  dsimp only [plV, plC]
  have RHQ : Hid (∀ o, (w1.alloc o).heap[w.heap.size]? = some (.cells (headC x (.slice ad en cap)) 43 (0, 0))) := fun o => (Below.heap_alloc _ _ _ (Array.getElem?_eq_some_iff.1 RH1.out).1).trans RH1.out
  go_wp2_with (first
    | (refine wpList_load_row rfl 43 (.tmp 4) rfl w.heap.size rfl 43 _ (0, 0) _ (RHQ.out _) Try.underlying43 rfl Try.headSize ?_)
    | (refine wpList_load_row rfl 29 (.tmp 8) rfl w1.heap.size rfl 29 _ (0, 0) _ (heap_alloc_new _ _) Try.underlying29 rfl Try.slotSize ?_)
    | fail)
  generalize hW2 : World.alloc w1 _ = W2
  have HB2 : Hid (Below w.heap.size w W2) := by rw [← hW2]; exact HB1.out.alloc HB1.out.size _
  have RH2 : Hid (W2.heap[w.heap.size]? = some (.cells (headC x (.slice ad en cap)) 43 (0, 0))) := by rw [← hW2]; exact RHQ.out _
  have RS2 : Hid (W2.heap[w1.heap.size]? = some (.cells #[.int .i64 num, .int .i64 life, .int .i64 clock, .int .i64 seg, .int .i64 pos, .int .i64 next, .int .i64 seq, .int .i64 m0, .int .i64 m1, .int .i64 m2, .int .i64 m3, .int .i64 sb, .int .i64 sn] 29 (0, 0))) := by rw [← hW2]; exact heap_alloc_new _ _
  have HFR2 : Hid (FreeAt W2 P (.slice fad fl.length fcap) fl) := by rw [← hW2]; exact HFR.out.on ((Below.refl _ _).alloc (Nat.le_refl _) _)
  have hs1 : w1.heap.size < W2.heap.size := by rw [← hW2]; simp
  have hs0 : w.heap.size < w1.heap.size := (Array.getElem?_eq_some_iff.1 RH1.out).1
  clear hW2 HFR RH1 RHQ HB1
  have RL2 := lohid (row_on HRW.out HB2.out)
  have k3 : W2.cell? ⟨lb, 3, none⟩ = some (.int .i64 house) := by rw [hh1]; exact (cell_of_row _ _ _ _ _ _ RL2.out).trans rfl
  have k4 : W2.cell? ⟨lb, 4, none⟩ = some (.int .i64 gen) := by rw [hh2]; exact (cell_of_row _ _ _ _ _ _ RL2.out).trans rfl
  refine (ST.out W2 k3 k4).mono ?_
  rintro e w3 ⟨rfl, hb3⟩
  have HB3 : Hid (Below w.heap.size w w3) := HB2.out.trans (hb3.mono HB2.out.size)
  have RH3 := lohid (row_on RH2.out hb3)
  have RS3 := lohid (row_on RS2.out hb3)
  have HFR3 := lohid (HFR2.out.on hb3)
  have hs3 := hb3.size
  clear hb3 RH2 RS2 HFR2 HB2 RL2 k3 k4 ST
  go_wp2_with fail
  refine (MK.out w3 (HEI.out.on HB3.out) (HTI.out.on HB3.out)).mono ?_
  rintro e w4 ⟨rfl, hb4⟩
  have HB4 : Hid (Below w.heap.size w w4) := HB3.out.trans (hb4.mono HB3.out.size)
  have RH4 := lohid (row_on RH3.out hb4)
  have RS4 := lohid (row_on RS3.out hb4)
  have HFR4 := lohid (HFR3.out.on hb4)
  have RL4 := lohid (row_on HRW.out HB4.out)
  have hs4 := hb4.size
  clear hb4 RH3 RS3 HFR3 HB3 MK HEI HTI
  go_wp2_with fail
  go_quiet (fail)
  go_wp2_with fail
  go_ret2
  exact ⟨rfl, ⟨HB4.out.os, HB4.out.tape, HB4.out.output, HB4.out.size, HB4.out.block⟩⟩
end Go.Proofs.Ytaiebhkjkeadoaa
