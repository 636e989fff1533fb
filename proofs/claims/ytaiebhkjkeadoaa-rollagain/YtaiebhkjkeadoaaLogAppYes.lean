/- Append walked where there is a chunk: the disk takes it, or does not. -/
import Derived.Test.YtaiebhkjkeadoaaLogAppNo
namespace Go.Proofs.Ytaiebhkjkeadoaa
open Go.RowKit Lo Hdp Chk Rec

/-- The first sector of a log's next chunk. -/
def Lg.sec (L : Lg) (G : Int) : Nat := (48 + L.seg * G + L.pos).toNat
theorem move_in {L : Lg} {G sg : Int} {n : Nat} (hok : L.Ok G sg) (hG0 : 32 ≤ G) (hn : n ≤ 24) (_hc : L.canB G n = true) : 0 ≤ (L.move G n).pos ∧ (L.move G n).pos + 1 + n ≤ G ∧ 0 ≤ (L.move G n).seg ∧ (L.move G n).seg < sg := by
  by_cases hp : L.pos ≤ G - 1 - n
  · have e : L.move G n = L := if_pos hp
    rw [e]
    exact ⟨hok.pos0, by omega, hok.seg0, hok.seg1⟩
  · have e : L.move G n = { L with seg := L.next, pos := 0, next := L.free.headD 0, free := L.free.tail } := if_neg hp
    rw [e]
    exact ⟨Int.le_refl 0, by dsimp only; omega, hok.next0, hok.next1⟩
theorem sec_in {L : Lg} {G sg N : Int} {n : Nat} (hg : GeomOk N G) (hsg : (N - 48) / G = sg) (hp0 : 0 ≤ L.pos) (hp1 : L.pos + 1 + n ≤ G) (hs0 : 0 ≤ L.seg) (hs1 : L.seg < sg) :
    0 ≤ L.seg * G ∧ L.seg * G ≤ 16384 ∧ (L.sec G : Int) = 48 + L.seg * G + L.pos ∧ 48 + L.seg * G + L.pos + 1 + n ≤ N := by
  obtain ⟨h1, h2, h3, h4⟩ := hg
  have a0 : 0 ≤ L.seg * G := Int.mul_nonneg hs0 (by omega)
  have a1 : (L.seg + 1) * G ≤ sg * G := Int.mul_le_mul_of_nonneg_right (by omega) (by omega)
  have a2 : sg * G ≤ N - 48 := by rw [← hsg]; exact Int.ediv_mul_le _ (by omega)
  rw [Int.add_mul, Int.one_mul] at a1
  refine ⟨a0, by omega, ?_, by omega⟩
  unfold Lg.sec
  omega
theorem Txts.len {w : World} {v : Value} {l : List ByteArray} (h : Txts w v l) : ∃ ad cap, v = .slice ad l.length cap := by
  obtain ⟨ad, cap, hv, _⟩ := h
  exact ⟨ad, cap, hv⟩


set_option maxRecDepth 10000 in
set_option maxHeartbeats 4000000 in
theorem append_lost (lb b gd : Nat) (S : St) (V : Nat → Value) (G sg : Int) (L : Lg) (v : Value) (x : Hd) (ad : Option Addr) (cap : Nat) (bv : Value) (l : List ByteArray) (w : World) (H : LogAt w lb b gd S V G L v) (hok : L.Ok G sg) (hgeo : GeomOk S.n G) (hsg : ((S.n : Int) - 48) / G = sg) (hE : Ents w (.slice ad x.list.length cap) x.list) (hT : Txts w bv l) (hl : l.length ≤ 1000) (hc : L.canB G l.length = true)
    (hmk : makeB ((L.move G l.length).head x) l = true) (hw : S.writes + 1 + l.length ≤ 1000000) (htk : took S l.length = false) :
    Calls Try.prog 21 #[.pointer (some ⟨lb, 0, none⟩), headV x (.slice ad x.list.length cap), bv] w fun e w' => e = .returned (.tuple #[.slice none 0 0, .bool false]) ∧ ∃ V', LogAt w' lb b gd (chunk S L.house.toNat ((L.move G l.length).sec G) (makeS ((L.move G l.length).head x) l) l.length) V' G L v ∧ LStep lb b gd w V w' V' := by
  have hmk2 := hmk
  obtain ⟨-, -, hokX, hlen, -⟩ := makeB_parts hmk2
  have h24 : l.length ≤ 24 := by rw [hlen]; exact okB_len hokX
  have hnum := okB_num hokX
  obtain ⟨p0, p1, s0, s1⟩ := move_in hok hgeo.1 h24 hc
  obtain ⟨a0, a1, a2, a3⟩ := sec_in hgeo hsg p0 p1 s0 s1
  have hhouse : 1 ≤ L.house ∧ L.house ≤ 16 := by
    have e : ((L.move G l.length).head x).house = L.house := by unfold Lg.move; split <;> rfl
    rw [numB, e] at hnum
    simp only [Bool.and_eq_true, inB_iff] at hnum
    omega
  have hTS := makeS_size hmk
  have hDk := H.disk
  have hN := hgeo.2.2.2
  have SEC := lohid (fun w1 => sector_t b S.n G (48 + (L.move G l.length).seg * G) ((L.move G l.length).sec G) (L.move G l.length) w1 (fun w2 => start_yes S.n G (L.move G l.length).seg _ w2 hgeo s0 (by rw [hsg]; exact s1) rfl a0 a1) (by omega) (by omega) (by omega))
  have GW := lohid (fun (w1 : World) (hb : Disk w1 b S gd V) => gwrite_t b gd S V S.n G L.house.toNat ((L.move G l.length).sec G) l.length (makeS ((L.move G l.length).head x) l) w1 hb (by omega) (by omega) hTS (by omega) (by omega))
  rw [htk] at GW
  have hsq : -1000000 ≤ (L.move G l.length).seq ∧ (L.move G l.length).seq ≤ 1125899906842624 := by
    have e : (L.move G l.length).seq = L.seq := by unfold Lg.move; split <;> rfl
    rw [e]
    exact ⟨hok.seq0, hok.seq1⟩
  have hS : SegsSaid S.n G sg := fun w1 => by rw [← hsg]; exact segs_yes S.n G w1 hgeo
  have hG0 := hgeo.1
  have hG1 := hgeo.2.1
  have HLA := lohid H
  have h := H.row
  have hf := H.free
  obtain ⟨P, hP⟩ : ∃ P, P = fun k => ¬ foot b gd V k ∧ b < k ∧ k < lb := ⟨_, rfl⟩
  rw [← hP] at hf
  have HP := lohid hP
  clear hP
  have hho : ((L.house.toNat : Nat) : Int) = L.house := by omega
  rw [hho] at GW
  have HD0 := lohid hDk
  clear hmk2 hokX hlen hnum hDk H hgeo htk hTS hw
  obtain ⟨bad, bcap, rfl, hbn, hlc, hbc⟩ := hT
  have hT : Txts w (.slice bad l.length bcap) l := ⟨bad, bcap, rfl, hbn, hlc, hbc⟩
  clear hbn hbc
  have HTI := lohid hT
  have HEI := lohid hE
  clear hT hE
  have SP := lohid (fun w1 (hb : Below w.heap.size w w1) => spot_yes (w := w1) (P := P) l.length (row_on h hb) (hf.on hb) hok hG0 hG1 hS (by omega) hc)
  have hlb : lb < w.heap.size := (Array.getElem?_eq_some_iff.1 h).1
  have HRW := lohid h
  have hh1 : (L.move G l.length).house = L.house := by unfold Lg.move; split <;> rfl
  have hh2 : (L.move G l.length).gen = L.gen := by unfold Lg.move; split <;> rfl
  clear h hf hc hS
  generalize hL1 : L.move G l.length = L1 at *
  have HL1 := lohid hL1
  clear hL1
  have ST := lohid (fun (w1 : World) c3 c4 => stamp_t lb L1 x ad x.list.length cap w1 c3 c4)
  have MK := lohid (fun w1 (h1 : Ents w1 (.slice ad x.list.length cap) x.list) (h2 : Txts w1 (.slice bad l.length bcap) l) => make_t (L1.head x) (.slice ad x.list.length cap) (.slice bad l.length bcap) l w1 h1 h2 (by omega))
  rw [hmk] at MK
  clear hmk
  obtain ⟨m, hm⟩ : ∃ m, l.length = m := ⟨_, rfl⟩
  rw [hm] at SP MK HTI hlc hl GW h24 p1 a3 HL1 ⊢
  obtain ⟨en, hen⟩ : ∃ n, x.list.length = n := ⟨_, rfl⟩
  rw [hen] at ST MK HEI ⊢
  clear hm hen
  obtain ⟨X, hX⟩ : ∃ X, L1.head x = X := ⟨_, rfl⟩
  rw [hX] at ST MK GW ⊢
  obtain ⟨F, hF⟩ : ∃ F, L1.sec G = F := ⟨_, rfl⟩
  rw [hF] at SEC GW a2 ⊢
  have hF1 : F + 1 + m ≤ S.n := by omega
  have HA2 := lohid a2
  clear a0 a1 a2 a3 hF
  obtain ⟨T, hTT⟩ : ∃ T, makeS X l = T := ⟨_, rfl⟩
  rw [hTT] at GW MK ⊢

  obtain ⟨house, gen, num, life, clock, seg, pos, next, seq, m0, m1, m2, m3, sb, sn, fl⟩ := L1
  dsimp only at hh1 hh2
  go_enter Try.func21, Try.ntmps21
  go_wp2_with fail
  generalize hW : World.alloc w _ = W
  have HB : Hid (Below w.heap.size w W) := by rw [← hW]; exact (Below.refl _ w).alloc (Nat.le_refl _) _
  have RH0 : Hid (W.heap[w.heap.size]? = some (.cells (headC x (.slice ad en cap)) 43 (0, 0))) := by rw [← hW]; exact heap_alloc_new _ _
  clear hW
  refine (SP.out W HB.out).mono ?_
  rintro e w1 ⟨v1, rfl, hfr, hb1⟩
  obtain ⟨fad, fcap, rfl⟩ := hfr.slice
  have HFR := lohid hfr
  have RH1 := lohid (row_on RH0.out hb1)
  have HB1 : Hid (Below w.heap.size w w1) := HB.out.trans (hb1.mono HB.out.size)
  clear hb1 HB SP hfr RH0
  dsimp only [plV, plC]
  have RHQ : Hid (∀ o, (w1.alloc o).heap[w.heap.size]? = some (.cells (headC x (.slice ad en cap)) 43 (0, 0))) := fun o => (Below.heap_alloc _ _ _ (Array.getElem?_eq_some_iff.1 RH1.out).1).trans RH1.out
  go_wp2_with (first
    | (refine wpList_load_row rfl 43 (.tmp 4) rfl w.heap.size rfl 43 _ (0, 0) _ (RHQ.out _) Try.underlying43 rfl Try.headSize ?_)
    | (refine wpList_load_row rfl 29 (.tmp 8) rfl w1.heap.size rfl 29 _ (0, 0) _ (heap_alloc_new _ _) Try.underlying29 rfl Try.slotSize ?_)
    | fail)
  generalize hW2 : World.alloc w1 _ = W2
  have HB2 : Hid (Below w.heap.size w W2) := by rw [← hW2]; exact HB1.out.alloc HB1.out.size _
  have RH2 : Hid (W2.heap[w.heap.size]? = some (.cells (headC x (.slice ad en cap)) 43 (0, 0))) := by rw [← hW2]; exact RHQ.out _
  have RS2 : Hid (W2.heap[w1.heap.size]? = some (.cells #[.int .i64 num, .int .i64 life, .int .i64 clock, .int .i64 seg, .int .i64 pos, .int .i64 next, .int .i64 seq, .int .i64 m0, .int .i64 m1, .int .i64 m2, .int .i64 m3, .int .i64 sb, .int .i64 sn] 29 (0, 0))) := by rw [← hW2]; exact heap_alloc_new _ _
  have HFR2 : Hid (FreeAt W2 P (.slice fad fl.length fcap) fl) := by rw [← hW2]; exact HFR.out.on ((Below.refl _ _).alloc (Nat.le_refl _) _)
  have hs1 : w1.heap.size < W2.heap.size := by rw [← hW2]; simp
  have hs0 : w.heap.size < w1.heap.size := (Array.getElem?_eq_some_iff.1 RH1.out).1
  clear hW2 HFR RH1 RHQ HB1
  have RL2 := lohid (row_on HRW.out HB2.out)
  have k3 : W2.cell? ⟨lb, 3, none⟩ = some (.int .i64 house) := by rw [hh1]; exact (cell_of_row _ _ _ _ _ _ RL2.out).trans rfl
  have k4 : W2.cell? ⟨lb, 4, none⟩ = some (.int .i64 gen) := by rw [hh2]; exact (cell_of_row _ _ _ _ _ _ RL2.out).trans rfl
  refine (ST.out W2 k3 k4).mono ?_
  rintro e w3 ⟨rfl, hb3⟩
  have HB3 : Hid (Below w.heap.size w w3) := HB2.out.trans (hb3.mono HB2.out.size)
  have RH3 := lohid (row_on RH2.out hb3)
  have RS3 := lohid (row_on RS2.out hb3)
  have HFR3 := lohid (HFR2.out.on hb3)
  have hs3 := hb3.size
  clear hb3 RH2 RS2 HFR2 HB2 RL2 k3 k4 ST
  go_wp2_with fail
  refine (MK.out w3 (HEI.out.on HB3.out) (HTI.out.on HB3.out)).mono ?_
  rintro e w4 ⟨rfl, hb4⟩
  have HB4 : Hid (Below w.heap.size w w4) := HB3.out.trans (hb4.mono HB3.out.size)
  have RH4 := lohid (row_on RH3.out hb4)
  have RS4 := lohid (row_on RS3.out hb4)
  have HFR4 := lohid (HFR3.out.on hb4)
  have RL4 := lohid (row_on HRW.out HB4.out)
  have hs4 := hb4.size
  clear hb4 RH3 RS3 HFR3 HB3 MK HEI HTI
  have hkf : ∀ k, w.heap.size ≤ k → ¬ foot b gd V k := fun k hk hf => by have := HD0.out.lt hf; omega
  have HKF := lohid hkf
  have HD4 : Hid (Disk w4 b S gd V) := HD0.out.below HB4.out
  have HLA4 := lohid (HLA.out.on HB4.out)
  clear hkf HD0
  have g0 : w4.cell? ⟨lb, 0, none⟩ = some (.pointer (some ⟨b, 0, none⟩)) := (cell_of_row _ _ _ _ _ _ RL4.out).trans rfl
  have g1 : w4.cell? ⟨lb, 1, none⟩ = some (.int .i64 S.n) := (cell_of_row _ _ _ _ _ _ RL4.out).trans rfl
  have g2 : w4.cell? ⟨lb, 2, none⟩ = some (.int .i64 G) := (cell_of_row _ _ _ _ _ _ RL4.out).trans rfl
  have g3 : w4.cell? ⟨lb, 3, none⟩ = some (.int .i64 L.house) := (cell_of_row _ _ _ _ _ _ RL4.out).trans rfl
  obtain ⟨q0, q1, q2, q3, q4, q5, q6, q7, q8, q9, q10, q11, q12⟩ := cells13 RS4.out
  generalize hp8 : w1.heap.size = p8 at *
  go_wp2_with fail
  go_region_held3 (fun w' => w'.cell? ⟨lb, 0, none⟩ = some (.pointer (some ⟨b, 0, none⟩)) ∧ w'.cell? ⟨lb, 1, none⟩ = some (.int .i64 S.n) ∧ w'.cell? ⟨lb, 2, none⟩ = some (.int .i64 G) ∧ w'.cell? ⟨lb, 3, none⟩ = some (.int .i64 L.house) ∧
      w'.cell? ⟨p8, 0, none⟩ = some (.int .i64 num) ∧ w'.cell? ⟨p8, 1, none⟩ = some (.int .i64 life) ∧ w'.cell? ⟨p8, 2, none⟩ = some (.int .i64 clock) ∧ w'.cell? ⟨p8, 3, none⟩ = some (.int .i64 seg) ∧ w'.cell? ⟨p8, 4, none⟩ = some (.int .i64 pos) ∧ w'.cell? ⟨p8, 5, none⟩ = some (.int .i64 next) ∧ w'.cell? ⟨p8, 6, none⟩ = some (.int .i64 seq) ∧ w'.cell? ⟨p8, 7, none⟩ = some (.int .i64 m0) ∧ w'.cell? ⟨p8, 8, none⟩ = some (.int .i64 m1) ∧ w'.cell? ⟨p8, 9, none⟩ = some (.int .i64 m2) ∧ w'.cell? ⟨p8, 10, none⟩ = some (.int .i64 m3) ∧ w'.cell? ⟨p8, 11, none⟩ = some (.int .i64 sb) ∧ w'.cell? ⟨p8, 12, none⟩ = some (.int .i64 sn)) (go_keep)
    (first
      | (go_at_call 34; refine (SEC.out _).mono ?_; rintro e w5 ⟨rfl, hb5⟩
         have hb5 := lo_undrew hb5
         have HB5 := lohid hb5
         have HD5 : Hid (Disk w5 b S gd V) := HD4.out.below hb5
         have HLA5 := lohid (HLA4.out.on hb5)
         have RS5 := lohid (row_on RS4.out hb5)
         have RH5 := lohid (row_on RH4.out hb5)
         have HFR5 := lohid (HFR4.out.on hb5)
         have g0 : w5.cell? ⟨lb, 0, none⟩ = some (.pointer (some ⟨b, 0, none⟩)) := (cell_of_row _ _ _ _ _ _ HLA5.out.row).trans rfl
         have g1 : w5.cell? ⟨lb, 1, none⟩ = some (.int .i64 S.n) := (cell_of_row _ _ _ _ _ _ HLA5.out.row).trans rfl
         have g2 : w5.cell? ⟨lb, 2, none⟩ = some (.int .i64 G) := (cell_of_row _ _ _ _ _ _ HLA5.out.row).trans rfl
         have g3 : w5.cell? ⟨lb, 3, none⟩ = some (.int .i64 L.house) := (cell_of_row _ _ _ _ _ _ HLA5.out.row).trans rfl
         obtain ⟨q0, q1, q2, q3, q4, q5, q6, q7, q8, q9, q10, q11, q12⟩ := cells13 RS5.out
         clear hb5)
      | (go_at_call 33; refine (GW.out _ HD5.out).mono ?_; rintro e w6 ⟨rfl, V6, hd6, hs6⟩
         have HS6 := lohid hs6
         have HD6 := lohid hd6
         have HLA6 := lohid (HLA5.out.step hd6 hs6 chunk_n)
         have RS6 := lohid (hs6.row RS5.out (HKF.out p8 (by omega)))
         have RH6 := lohid (hs6.row RH5.out (HKF.out w.heap.size (Nat.le_refl _)))
         have g0 : w6.cell? ⟨lb, 0, none⟩ = some (.pointer (some ⟨b, 0, none⟩)) := (cell_of_row _ _ _ _ _ _ (hs6.row HLA5.out.row HLA5.out.off)).trans rfl
         have g1 : w6.cell? ⟨lb, 1, none⟩ = some (.int .i64 S.n) := (cell_of_row _ _ _ _ _ _ (hs6.row HLA5.out.row HLA5.out.off)).trans rfl
         have g2 : w6.cell? ⟨lb, 2, none⟩ = some (.int .i64 G) := (cell_of_row _ _ _ _ _ _ (hs6.row HLA5.out.row HLA5.out.off)).trans rfl
         have g3 : w6.cell? ⟨lb, 3, none⟩ = some (.int .i64 L.house) := (cell_of_row _ _ _ _ _ _ (hs6.row HLA5.out.row HLA5.out.off)).trans rfl
         obtain ⟨q0, q1, q2, q3, q4, q5, q6, q7, q8, q9, q10, q11, q12⟩ := cells13 RS6.out
         clear hs6 hd6))
  go_wp2_with fail
  go_ret2
  exact ⟨rfl, V6, HLA6.out, (LStep.below HB4.out).trans ((LStep.below HB5.out).trans (LStep.step HS6.out))⟩
end Go.Proofs.Ytaiebhkjkeadoaa
