/- Append walked where there is a chunk: the disk takes it. -/
import Derived.Test.YtaiebhkjkeadoaaLogAppYes
import Derived.Test.YtaiebhkjkeadoaaLogPos
namespace Go.Proofs.Ytaiebhkjkeadoaa
open Go.RowKit Lo Hdp Chk Rec


set_option maxRecDepth 10000 in
set_option maxHeartbeats 4000000 in
theorem append_done (lb b gd : Nat) (S : St) (V : Nat → Value) (G sg : Int) (L : Lg) (v : Value) (x : Hd) (ad : Option Addr) (cap : Nat) (bv : Value) (l : List ByteArray) (w : World) (H : LogAt w lb b gd S V G L v) (hok : L.Ok G sg) (hgeo : GeomOk S.n G) (hsg : ((S.n : Int) - 48) / G = sg) (hE : Ents w (.slice ad x.list.length cap) x.list) (hT : Txts w bv l) (hl : l.length ≤ 1000) (hc : L.canB G l.length = true)
    (hmk : makeB ((L.move G l.length).head x) l = true) (hw : S.writes + 1 + l.length ≤ 1000000) (htk : took S l.length = true) :
    Calls Try.prog 21 #[.pointer (some ⟨lb, 0, none⟩), headV x (.slice ad x.list.length cap), bv] w fun e w' => ∃ a V' v', e = .returned (.tuple #[.slice (some ⟨a, 0, none⟩) l.length l.length, .bool true]) ∧ w'.heap[a]? = some (.cells (icells (posL ((L.move G l.length).sec G) l.length)).toArray 3 (0, 0)) ∧ w.heap.size ≤ a ∧ ¬ foot b gd V' a ∧ LogAt w' lb b gd (chunk S L.house.toNat ((L.move G l.length).sec G) (makeS ((L.move G l.length).head x) l) l.length) V' G ((L.move G l.length).after l.length x) v' ∧ LStep lb b gd w V w' V' := by
  have hmk2 := hmk
  obtain ⟨-, -, hokX, hlen, -⟩ := makeB_parts hmk2
  have h24 : l.length ≤ 24 := by rw [hlen]; exact okB_len hokX
  have hnum := okB_num hokX
  obtain ⟨p0, p1, s0, s1⟩ := move_in hok hgeo.1 h24 hc
  obtain ⟨a0, a1, a2, a3⟩ := sec_in hgeo hsg p0 p1 s0 s1
  have hhouse : 1 ≤ L.house ∧ L.house ≤ 16 := by
    have e : ((L.move G l.length).head x).house = L.house := by unfold Lg.move; split <;> rfl
    rw [numB, e] at hnum
    simp only [Bool.and_eq_true, inB_iff] at hnum
    omega
  have hTS := makeS_size hmk
  have hDk := H.disk
  have hN := hgeo.2.2.2
  have SEC := lohid (fun w1 => sector_t b S.n G (48 + (L.move G l.length).seg * G) ((L.move G l.length).sec G) (L.move G l.length) w1 (fun w2 => start_yes S.n G (L.move G l.length).seg _ w2 hgeo s0 (by rw [hsg]; exact s1) rfl a0 a1) (by omega) (by omega) (by omega))
  have GW := lohid (fun (w1 : World) (hb : Disk w1 b S gd V) => gwrite_t b gd S V S.n G L.house.toNat ((L.move G l.length).sec G) l.length (makeS ((L.move G l.length).head x) l) w1 hb (by omega) (by omega) hTS (by omega) (by omega))
  rw [htk] at GW
  have hsq : -1000000 ≤ (L.move G l.length).seq ∧ (L.move G l.length).seq ≤ 1125899906842624 := by
    have e : (L.move G l.length).seq = L.seq := by unfold Lg.move; split <;> rfl
    rw [e]
    exact ⟨hok.seq0, hok.seq1⟩
  have hS : SegsSaid S.n G sg := fun w1 => by rw [← hsg]; exact segs_yes S.n G w1 hgeo
  have hG0 := hgeo.1
  have hG1 := hgeo.2.1
  have HLA := lohid H
  have h := H.row
  have hf := H.free
  obtain ⟨P, hP⟩ : ∃ P, P = fun k => ¬ foot b gd V k ∧ b < k ∧ k < lb := ⟨_, rfl⟩
  rw [← hP] at hf
  have HP := lohid hP
  clear hP
  have hho : ((L.house.toNat : Nat) : Int) = L.house := by omega
  rw [hho] at GW
  have HD0 := lohid hDk
  clear hmk2 hokX hlen hnum hDk H hgeo htk hTS hw
  obtain ⟨bad, bcap, rfl, hbn, hlc, hbc⟩ := hT
  have hT : Txts w (.slice bad l.length bcap) l := ⟨bad, bcap, rfl, hbn, hlc, hbc⟩
  clear hbn hbc
  have HTI := lohid hT
  have HEI := lohid hE
  clear hT hE
  have SP := lohid (fun w1 (hb : Below w.heap.size w w1) => spot_yes (w := w1) (P := P) l.length (row_on h hb) (hf.on hb) hok hG0 hG1 hS (by omega) hc)
  have hlb : lb < w.heap.size := (Array.getElem?_eq_some_iff.1 h).1
  have HRW := lohid h
  have hh1 : (L.move G l.length).house = L.house := by unfold Lg.move; split <;> rfl
  have hh2 : (L.move G l.length).gen = L.gen := by unfold Lg.move; split <;> rfl
  clear h hf hc hS
  generalize hL1 : L.move G l.length = L1 at *
  have HL1 := lohid hL1
  clear hL1
  have ST := lohid (fun (w1 : World) c3 c4 => stamp_t lb L1 x ad x.list.length cap w1 c3 c4)
  have MK := lohid (fun w1 (h1 : Ents w1 (.slice ad x.list.length cap) x.list) (h2 : Txts w1 (.slice bad l.length bcap) l) => make_t (L1.head x) (.slice ad x.list.length cap) (.slice bad l.length bcap) l w1 h1 h2 (by omega))
  rw [hmk] at MK
  clear hmk
  obtain ⟨m, hm⟩ : ∃ m, l.length = m := ⟨_, rfl⟩
  rw [hm] at SP MK HTI hlc hl GW h24 p1 a3 HL1 ⊢
  obtain ⟨en, hen⟩ : ∃ n, x.list.length = n := ⟨_, rfl⟩
  rw [hen] at ST MK HEI ⊢
  clear hm hen
  obtain ⟨X, hX⟩ : ∃ X, L1.head x = X := ⟨_, rfl⟩
  rw [hX] at ST MK GW ⊢
  obtain ⟨F, hF⟩ : ∃ F, L1.sec G = F := ⟨_, rfl⟩
  rw [hF] at SEC GW a2 ⊢
  have hF1 : F + 1 + m ≤ S.n := by omega
  have HA2 := lohid a2
  clear a0 a1 a2 a3 hF
  obtain ⟨T, hTT⟩ : ∃ T, makeS X l = T := ⟨_, rfl⟩
  rw [hTT] at GW MK ⊢

  obtain ⟨house, gen, num, life, clock, seg, pos, next, seq, m0, m1, m2, m3, sb, sn, fl⟩ := L1
  dsimp only at hh1 hh2
  go_enter Try.func21, Try.ntmps21
  go_wp2_with fail
  generalize hW : World.alloc w _ = W
  have HB : Hid (Below w.heap.size w W) := by rw [← hW]; exact (Below.refl _ w).alloc (Nat.le_refl _) _
  have RH0 : Hid (W.heap[w.heap.size]? = some (.cells (headC x (.slice ad en cap)) 43 (0, 0))) := by rw [← hW]; exact heap_alloc_new _ _
  clear hW
  refine (SP.out W HB.out).mono ?_
  rintro e w1 ⟨v1, rfl, hfr, hb1⟩
  obtain ⟨fad, fcap, rfl⟩ := hfr.slice
  have HFR := lohid hfr
  have RH1 := lohid (row_on RH0.out hb1)
  have HB1 : Hid (Below w.heap.size w w1) := HB.out.trans (hb1.mono HB.out.size)
  clear hb1 HB SP hfr RH0
  dsimp only [plV, plC]
  have RHQ : Hid (∀ o, (w1.alloc o).heap[w.heap.size]? = some (.cells (headC x (.slice ad en cap)) 43 (0, 0))) := fun o => (Below.heap_alloc _ _ _ (Array.getElem?_eq_some_iff.1 RH1.out).1).trans RH1.out
  go_wp2_with (first
    | (refine wpList_load_row rfl 43 (.tmp 4) rfl w.heap.size rfl 43 _ (0, 0) _ (RHQ.out _) Try.underlying43 rfl Try.headSize ?_)
    | (refine wpList_load_row rfl 29 (.tmp 8) rfl w1.heap.size rfl 29 _ (0, 0) _ (heap_alloc_new _ _) Try.underlying29 rfl Try.slotSize ?_)
    | fail)
  generalize hW2 : World.alloc w1 _ = W2
  have HB2 : Hid (Below w.heap.size w W2) := by rw [← hW2]; exact HB1.out.alloc HB1.out.size _
  have RH2 : Hid (W2.heap[w.heap.size]? = some (.cells (headC x (.slice ad en cap)) 43 (0, 0))) := by rw [← hW2]; exact RHQ.out _
  have RS2 : Hid (W2.heap[w1.heap.size]? = some (.cells #[.int .i64 num, .int .i64 life, .int .i64 clock, .int .i64 seg, .int .i64 pos, .int .i64 next, .int .i64 seq, .int .i64 m0, .int .i64 m1, .int .i64 m2, .int .i64 m3, .int .i64 sb, .int .i64 sn] 29 (0, 0))) := by rw [← hW2]; exact heap_alloc_new _ _
  have HFR2 : Hid (FreeAt W2 P (.slice fad fl.length fcap) fl) := by rw [← hW2]; exact HFR.out.on ((Below.refl _ _).alloc (Nat.le_refl _) _)
  have hs1 : w1.heap.size < W2.heap.size := by rw [← hW2]; simp
  have hs0 : w.heap.size < w1.heap.size := (Array.getElem?_eq_some_iff.1 RH1.out).1
  clear hW2 HFR RH1 RHQ HB1
  have RL2 := lohid (row_on HRW.out HB2.out)
  have k3 : W2.cell? ⟨lb, 3, none⟩ = some (.int .i64 house) := by rw [hh1]; exact (cell_of_row _ _ _ _ _ _ RL2.out).trans rfl
  have k4 : W2.cell? ⟨lb, 4, none⟩ = some (.int .i64 gen) := by rw [hh2]; exact (cell_of_row _ _ _ _ _ _ RL2.out).trans rfl
  refine (ST.out W2 k3 k4).mono ?_
  rintro e w3 ⟨rfl, hb3⟩
  have HB3 : Hid (Below w.heap.size w w3) := HB2.out.trans (hb3.mono HB2.out.size)
  have RH3 := lohid (row_on RH2.out hb3)
  have RS3 := lohid (row_on RS2.out hb3)
  have HFR3 := lohid (HFR2.out.on hb3)
  have hs3 := hb3.size
  clear hb3 RH2 RS2 HFR2 HB2 RL2 k3 k4 ST
  go_wp2_with fail
  refine (MK.out w3 (HEI.out.on HB3.out) (HTI.out.on HB3.out)).mono ?_
  rintro e w4 ⟨rfl, hb4⟩
  have HB4 : Hid (Below w.heap.size w w4) := HB3.out.trans (hb4.mono HB3.out.size)
  have RH4 := lohid (row_on RH3.out hb4)
  have RS4 := lohid (row_on RS3.out hb4)
  have HFR4 := lohid (HFR3.out.on hb4)
  have RL4 := lohid (row_on HRW.out HB4.out)
  have hs4 := hb4.size
  clear hb4 RH3 RS3 HFR3 HB3 MK HEI HTI
  have hkf : ∀ k, w.heap.size ≤ k → ¬ foot b gd V k := fun k hk hf => by have := HD0.out.lt hf; omega
  have HKF := lohid hkf
  have HD4 : Hid (Disk w4 b S gd V) := HD0.out.below HB4.out
  have HLA4 := lohid (HLA.out.on HB4.out)
  clear hkf HD0
  have g0 : w4.cell? ⟨lb, 0, none⟩ = some (.pointer (some ⟨b, 0, none⟩)) := (cell_of_row _ _ _ _ _ _ RL4.out).trans rfl
  have g1 : w4.cell? ⟨lb, 1, none⟩ = some (.int .i64 S.n) := (cell_of_row _ _ _ _ _ _ RL4.out).trans rfl
  have g2 : w4.cell? ⟨lb, 2, none⟩ = some (.int .i64 G) := (cell_of_row _ _ _ _ _ _ RL4.out).trans rfl
  have g3 : w4.cell? ⟨lb, 3, none⟩ = some (.int .i64 L.house) := (cell_of_row _ _ _ _ _ _ RL4.out).trans rfl
  obtain ⟨q0, q1, q2, q3, q4, q5, q6, q7, q8, q9, q10, q11, q12⟩ := cells13 RS4.out
  generalize hp8 : w1.heap.size = p8 at *
  go_wp2_with fail
  go_region_held3 (fun w' => w'.cell? ⟨lb, 0, none⟩ = some (.pointer (some ⟨b, 0, none⟩)) ∧ w'.cell? ⟨lb, 1, none⟩ = some (.int .i64 S.n) ∧ w'.cell? ⟨lb, 2, none⟩ = some (.int .i64 G) ∧ w'.cell? ⟨lb, 3, none⟩ = some (.int .i64 L.house) ∧
      w'.cell? ⟨p8, 0, none⟩ = some (.int .i64 num) ∧ w'.cell? ⟨p8, 1, none⟩ = some (.int .i64 life) ∧ w'.cell? ⟨p8, 2, none⟩ = some (.int .i64 clock) ∧ w'.cell? ⟨p8, 3, none⟩ = some (.int .i64 seg) ∧ w'.cell? ⟨p8, 4, none⟩ = some (.int .i64 pos) ∧ w'.cell? ⟨p8, 5, none⟩ = some (.int .i64 next) ∧ w'.cell? ⟨p8, 6, none⟩ = some (.int .i64 seq) ∧ w'.cell? ⟨p8, 7, none⟩ = some (.int .i64 m0) ∧ w'.cell? ⟨p8, 8, none⟩ = some (.int .i64 m1) ∧ w'.cell? ⟨p8, 9, none⟩ = some (.int .i64 m2) ∧ w'.cell? ⟨p8, 10, none⟩ = some (.int .i64 m3) ∧ w'.cell? ⟨p8, 11, none⟩ = some (.int .i64 sb) ∧ w'.cell? ⟨p8, 12, none⟩ = some (.int .i64 sn)) (go_keep)
    (first
      | (go_at_call 34; refine (SEC.out _).mono ?_; rintro e w5 ⟨rfl, hb5⟩
         have hb5 := lo_undrew hb5
         have HB5 := lohid hb5
         have HD5 : Hid (Disk w5 b S gd V) := HD4.out.below hb5
         have HLA5 := lohid (HLA4.out.on hb5)
         have RS5 := lohid (row_on RS4.out hb5)
         have RH5 := lohid (row_on RH4.out hb5)
         have HFR5 := lohid (HFR4.out.on hb5)
         have g0 : w5.cell? ⟨lb, 0, none⟩ = some (.pointer (some ⟨b, 0, none⟩)) := (cell_of_row _ _ _ _ _ _ HLA5.out.row).trans rfl
         have g1 : w5.cell? ⟨lb, 1, none⟩ = some (.int .i64 S.n) := (cell_of_row _ _ _ _ _ _ HLA5.out.row).trans rfl
         have g2 : w5.cell? ⟨lb, 2, none⟩ = some (.int .i64 G) := (cell_of_row _ _ _ _ _ _ HLA5.out.row).trans rfl
         have g3 : w5.cell? ⟨lb, 3, none⟩ = some (.int .i64 L.house) := (cell_of_row _ _ _ _ _ _ HLA5.out.row).trans rfl
         obtain ⟨q0, q1, q2, q3, q4, q5, q6, q7, q8, q9, q10, q11, q12⟩ := cells13 RS5.out
         clear hb5)
      | (go_at_call 33; refine (GW.out _ HD5.out).mono ?_; rintro e w6 ⟨rfl, V6, hd6, hs6⟩
         have HS6 := lohid hs6
         have HD6 := lohid hd6
         have HLA6 := lohid (HLA5.out.step hd6 hs6 chunk_n)
         have RS6 := lohid (hs6.row RS5.out (HKF.out p8 (by omega)))
         have RH6 := lohid (hs6.row RH5.out (HKF.out w.heap.size (Nat.le_refl _)))
         have g0 : w6.cell? ⟨lb, 0, none⟩ = some (.pointer (some ⟨b, 0, none⟩)) := (cell_of_row _ _ _ _ _ _ (hs6.row HLA5.out.row HLA5.out.off)).trans rfl
         have g1 : w6.cell? ⟨lb, 1, none⟩ = some (.int .i64 S.n) := (cell_of_row _ _ _ _ _ _ (hs6.row HLA5.out.row HLA5.out.off)).trans rfl
         have g2 : w6.cell? ⟨lb, 2, none⟩ = some (.int .i64 G) := (cell_of_row _ _ _ _ _ _ (hs6.row HLA5.out.row HLA5.out.off)).trans rfl
         have g3 : w6.cell? ⟨lb, 3, none⟩ = some (.int .i64 L.house) := (cell_of_row _ _ _ _ _ _ (hs6.row HLA5.out.row HLA5.out.off)).trans rfl
         obtain ⟨q0, q1, q2, q3, q4, q5, q6, q7, q8, q9, q10, q11, q12⟩ := cells13 RS6.out
         clear hs6 hd6))
  have MS := make_ints m (by omega) w6
  have HFR6 : Hid (FreeAt w6 (fun k => ¬ foot b gd V6 k ∧ b < k ∧ k < lb) (.slice fad fl.length fcap) fl) := by
    have h5 := HFR5.out
    rw [HP.out] at h5
    exact h5.keep HS6.out.keep (fun _ hb hf => hb.1 hf) (fun _ hl hb => ⟨HS6.out.off hl hb.1, hb.2⟩)
  have HDC6 := lohid HLA6.out.disk
  have hl6 : lb < w6.heap.size := HLA6.out.lt
  have hp6 : p8 < w6.heap.size := (Array.getElem?_eq_some_iff.1 RS6.out).1
  have hsz6 : w.heap.size ≤ w6.heap.size := by have := HS6.out.keep.size; have := HB5.out.size; omega
  have HP6 : Hid (¬ foot b gd V6 p8) := HS6.out.off (by have := HB5.out.size; omega) (HKF.out p8 (by omega))
  have HLS6 : Hid (LStep lb b gd w V w6 V6) := (LStep.below HB4.out).trans ((LStep.below HB5.out).trans (LStep.step HS6.out))
  clear HFR5 HFR4 HLA5 HLA4 HD5 HD4 HS6 HB5 HB4 RS5 RS4 RH5 RH4 RL4 HKF HRW HLA GW HD6 g0 g1 g2 g3 q0 q1 q2 q3 q4 q5 q6 q7 q8 q9 q10 q11 q12
  go_wp2_with fail
  have HW7 : Hid (w6.heap.size < (w6.alloc (.cells (posC 0 m 0) 3)).heap.size) := by show _ < _; simp
  go_loopw [59] (fun c wr => ∃ k : Nat, k ≤ m ∧ c = .int .i64 k ∧ Hid (wr.heap[w6.heap.size]? = some (.cells (posC F m k) 3 (0, 0)) ∧ Below w6.heap.size w6 wr)) (fun c _ => m - (intOf c).toNat)
  case atStart => exact ⟨0, Nat.zero_le _, rfl, (by rw [posC_zero, ← posC_zero 0]; exact heap_alloc_new _ _), (Below.refl _ _).alloc (Nat.le_refl _) _⟩
  case round =>
    obtain ⟨k, hk, rfl, HI⟩ := hrel
    obtain ⟨hRP, hBP⟩ := HI.out
    have HRP := lohid hRP
    have HBP := lohid hBP
    have RSr := lohid (row_on RS6.out hBP)
    have RLr := lohid (row_on HLA6.out.row hBP)
    clear hRP hBP HI
    rcases Nat.lt_or_ge k m with hkm | hkm
    · have g0 : wr.cell? ⟨lb, 0, none⟩ = some (.pointer (some ⟨b, 0, none⟩)) := (cell_of_row _ _ _ _ _ _ RLr.out).trans rfl
      have g1 : wr.cell? ⟨lb, 1, none⟩ = some (.int .i64 S.n) := (cell_of_row _ _ _ _ _ _ RLr.out).trans (by rw [chunk_n]; rfl)
      have g2 : wr.cell? ⟨lb, 2, none⟩ = some (.int .i64 G) := (cell_of_row _ _ _ _ _ _ RLr.out).trans rfl
      obtain ⟨q0, q1, q2, q3, q4, q5, q6, q7, q8, q9, q10, q11, q12⟩ := cells13 RSr.out
      have hw1 : IntKind.i64.wrap ((F : Int) + 1) = (F : Int) + 1 := lgwrap _ (by omega) (by omega)
      have hw2 : IntKind.i64.wrap ((F : Int) + 1 + (k : Int)) = (F : Int) + 1 + (k : Int) := lgwrap _ (by omega) (by omega)
      have hne1 : w6.heap.size ≠ lb := by omega
      have hne2 : w6.heap.size ≠ p8 := by omega
      go_wp2_with fail
      go_region_held3 (fun w' => w'.cell? ⟨lb, 0, none⟩ = some (.pointer (some ⟨b, 0, none⟩)) ∧ w'.cell? ⟨lb, 1, none⟩ = some (.int .i64 S.n) ∧ w'.cell? ⟨lb, 2, none⟩ = some (.int .i64 G) ∧
          w'.cell? ⟨p8, 0, none⟩ = some (.int .i64 num) ∧ w'.cell? ⟨p8, 1, none⟩ = some (.int .i64 life) ∧ w'.cell? ⟨p8, 2, none⟩ = some (.int .i64 clock) ∧ w'.cell? ⟨p8, 3, none⟩ = some (.int .i64 seg) ∧ w'.cell? ⟨p8, 4, none⟩ = some (.int .i64 pos) ∧ w'.cell? ⟨p8, 5, none⟩ = some (.int .i64 next) ∧ w'.cell? ⟨p8, 6, none⟩ = some (.int .i64 seq) ∧ w'.cell? ⟨p8, 7, none⟩ = some (.int .i64 m0) ∧ w'.cell? ⟨p8, 8, none⟩ = some (.int .i64 m1) ∧ w'.cell? ⟨p8, 9, none⟩ = some (.int .i64 m2) ∧ w'.cell? ⟨p8, 10, none⟩ = some (.int .i64 m3) ∧ w'.cell? ⟨p8, 11, none⟩ = some (.int .i64 sb) ∧ w'.cell? ⟨p8, 12, none⟩ = some (.int .i64 sn)) (go_keep)
        (first
          | (go_at_call 34; refine (SEC.out _).mono ?_; rintro e w7 ⟨rfl, hb7⟩
             have hb7 := lo_undrew hb7
             have HB7 := lohid hb7
             have RP7 := lohid (row_on HRP.out hb7)
             have RS7 := row_on RSr.out hb7
             have RL7 := row_on RLr.out hb7
             have g0 : w7.cell? ⟨lb, 0, none⟩ = some (.pointer (some ⟨b, 0, none⟩)) := (cell_of_row _ _ _ _ _ _ RL7).trans rfl
             have g1 : w7.cell? ⟨lb, 1, none⟩ = some (.int .i64 S.n) := (cell_of_row _ _ _ _ _ _ RL7).trans (by rw [chunk_n]; rfl)
             have g2 : w7.cell? ⟨lb, 2, none⟩ = some (.int .i64 G) := (cell_of_row _ _ _ _ _ _ RL7).trans rfl
             obtain ⟨q0, q1, q2, q3, q4, q5, q6, q7, q8, q9, q10, q11, q12⟩ := cells13 RS7
             have pk : w7.cell? ⟨w6.heap.size, k, none⟩ = _ := (cell_of_row _ _ _ _ _ _ RP7.out).trans (posC_get F m k k hkm)
             have fk : w7.frozen? ⟨w6.heap.size, k, none⟩ = false := frozen_of_row w7 _ k _ _ RP7.out
             clear hb7 RS7 RL7))
      go_wp2_with fail
      have HI2 : Hid ((w7.setCell ⟨w6.heap.size, k, none⟩ (.int .i64 ((F : Int) + 1 + (k : Int)))).heap[w6.heap.size]? = some (.cells (posC F m (k + 1)) 3 (0, 0)) ∧ Below w6.heap.size w6 (w7.setCell ⟨w6.heap.size, k, none⟩ (.int .i64 ((F : Int) + 1 + (k : Int))))) :=
        ⟨by rw [← posC_set F m k hkm]; exact heap_setCell_same _ _ k _ _ _ RP7.out, (HBP.out.trans (HB7.out.mono HBP.out.size)).setCell (Nat.le_refl _) _⟩
      exact ⟨⟨k + 1, hkm, by go_num, HI2⟩, by simp [intOf]; omega⟩
    · have hk2 : k = m := by omega
      subst hk2
      have RHr := lohid (row_on RH6.out HBP.out)
      obtain ⟨xh, xg, xl, xs, xn, xc, xb, xm, xe⟩ := x
      obtain ⟨-, -, -, -, -, h5, h6, h7, -⟩ := cells9 RHr.out
      obtain ⟨q0, q1, q2, q3, q4, q5, q6, q7, q8, q9, q10, q11, q12⟩ := cells13 RSr.out
      have fs : ∀ j, wr.frozen? ⟨p8, j, none⟩ = false := fun j => frozen_of_row wr _ j _ _ RSr.out
      have hpw : w.heap.size ≠ p8 := by omega
      clear SEC MS
      go_wp2_with fail
      generalize hW8 : World.setCell _ _ _ = W8
      have RS8 : Hid (W8.heap[p8]? = some (.cells #[.int .i64 num, .int .i64 life, .int .i64 clock, .int .i64 seg, .int .i64 (pos + (1 + k)), .int .i64 next, .int .i64 (seq + 1), .int .i64 m0, .int .i64 m1, .int .i64 m2, .int .i64 m3, .int .i64 sb, .int .i64 sn] 29 (0, 0))) := by
        rw [← hW8]
        exact heap_setCell_same _ _ 6 _ _ _ (heap_setCell_same _ _ 4 _ _ _ RSr.out)
      have K8 : Hid (Keep (fun j => j = p8) wr W8) := by
        rw [← hW8]
        exact Keep.setCell (Keep.setCell (Keep.refl (fun j => j = p8) wr) (p := ⟨p8, 4, none⟩) (fun _ => rfl) _) (p := ⟨p8, 6, none⟩) (fun _ => rfl) _
      clear hW8 h5 h6 h7 q0 q1 q2 q3 q4 q5 q6 q7 q8 q9 q10 q11 q12 fs
      have RH8 := lohid ((K8.out.block w.heap.size (Array.getElem?_eq_some_iff.1 RHr.out).1 hpw).trans RHr.out)
      obtain ⟨-, -, -, -, -, h5, h6, h7, -⟩ := cells9 RH8.out
      obtain ⟨q0, q1, q2, q3, q4, q5, q6, q7, q8, q9, q10, q11, q12⟩ := cells13 RS8.out
      have fs : ∀ j, W8.frozen? ⟨p8, j, none⟩ = false := fun j => frozen_of_row W8 _ j _ _ RS8.out
      go_region
      generalize hW9 : World.drew _ = W9
      have RS9 : Hid (W9.heap[p8]? = some (.cells #[.int .i64 num, .int .i64 life, .int .i64 xc, .int .i64 seg, .int .i64 (pos + (1 + k)), .int .i64 next, .int .i64 (seq + 1), .int .i64 m0, .int .i64 m1, .int .i64 m2, .int .i64 m3, .int .i64 xb, .int .i64 xm] 29 (0, 0))) := by
        rw [← hW9]
        exact heap_setCell_same _ _ 12 _ _ _ (heap_setCell_same _ _ 11 _ _ _ (heap_setCell_same _ _ 2 _ _ _ RS8.out))
      have K9 : Hid (Keep (fun j => j = p8) wr W9) := by
        rw [← hW9]
        exact (Keep.setCell (Keep.setCell (Keep.setCell K8.out (p := ⟨p8, 2, none⟩) (fun _ => rfl) _) (p := ⟨p8, 11, none⟩) (fun _ => rfl) _) (p := ⟨p8, 12, none⟩) (fun _ => rfl) _).drew
      clear hW9 h5 h6 h7 q0 q1 q2 q3 q4 q5 q6 q7 q8 q9 q10 q11 q12 fs RS8 K8 RH8
      have hlp : lb ≠ p8 := by omega
      have RL9 := lohid ((K9.out.block lb (Array.getElem?_eq_some_iff.1 RLr.out).1 hlp).trans RLr.out)
      obtain ⟨-, ⟨l0, l1, l2, l3, l4, l5, l6, l7, l8, l9, l10, l11, l12⟩, l18⟩ := cells19 RL9.out
      have f9 : ∀ j, W9.frozen? ⟨lb, j, none⟩ = false := fun j => frozen_of_row W9 _ j _ _ RL9.out
      obtain ⟨q0, q1, q2, q3, q4, q5, q6, q7, q8, q9, q10, q11, q12⟩ := cells13 RS9.out
      go_wp2_with fail
      generalize hWA : World.setCell _ _ _ = WA
      have RLA := setLg_row RL9.out (.int .i64 num) (.int .i64 life) (.int .i64 xc) (.int .i64 seg) (.int .i64 (pos + (1 + (k : Int)))) (.int .i64 next) (.int .i64 (seq + 1)) (.int .i64 m0) (.int .i64 m1) (.int .i64 m2) (.int .i64 m3) (.int .i64 xb) (.int .i64 xm) (.slice fad fl.length fcap)
      have KA := setLg_keep W9 lb (.int .i64 num) (.int .i64 life) (.int .i64 xc) (.int .i64 seg) (.int .i64 (pos + (1 + (k : Int)))) (.int .i64 next) (.int .i64 (seq + 1)) (.int .i64 m0) (.int .i64 m1) (.int .i64 m2) (.int .i64 m3) (.int .i64 xb) (.int .i64 xm) (.slice fad fl.length fcap)
      have hWA2 : setLg W9 lb (.int .i64 num) (.int .i64 life) (.int .i64 xc) (.int .i64 seg) (.int .i64 (pos + (1 + (k : Int)))) (.int .i64 next) (.int .i64 (seq + 1)) (.int .i64 m0) (.int .i64 m1) (.int .i64 m2) (.int .i64 m3) (.int .i64 xb) (.int .i64 xm) (.slice fad fl.length fcap) = WA := hWA
      rw [hWA2] at RLA KA
      clear hWA hWA2 l0 l1 l2 l3 l4 l5 l6 l7 l8 l9 l10 l11 l12 l18 q0 q1 q2 q3 q4 q5 q6 q7 q8 q9 q10 q11 q12 f9
      have KT : Keep (fun j => j = p8 ∨ j = lb) w6 WA := ((keep_of_below HBP.out _).trans (K9.out.mono fun _ _ h => .inl h)).trans (KA.mono fun _ _ h => .inr h)
      have HFR7 := (HFR6.out.other RS6.out (by decide)).keep (Q := fun j => ¬ foot b gd V6 j ∧ b < j ∧ j < lb) KT (fun j hj hf => hf.elim hj.2 (fun e => by have := hj.1.2.2; omega)) (fun j _ hj => hj.1)
      go_ret2
      refine ⟨w6.heap.size, V6, .slice fad fl.length fcap, rfl, ?_, hsz6, fun hf => absurd (HDC6.out.lt hf) (by omega), ⟨?_, ?_, HFR7, HLA6.out.off⟩, ⟨HLS6.out.keep.trans' KT (fun i hi hf => ?_), HLS6.out.foot'⟩⟩
      · rw [← posC_all]
        have hlt := (Array.getElem?_eq_some_iff.1 HRP.out).1
        exact (KA.block _ (by have := K9.out.size; omega) (by omega)).trans ((K9.out.block _ hlt (by omega)).trans HRP.out)
      · exact RLA.trans (by rw [hh1, hh2]; rfl)
      · exact HDC6.out.apart KT (fun i hi hf => by
          rcases hf with rfl | rfl
          · exact HP6.out hi
          · exact HLA6.out.off hi)
      · rcases hf with rfl | rfl
        · omega
        · exact .inr rfl
end Go.Proofs.Ytaiebhkjkeadoaa
