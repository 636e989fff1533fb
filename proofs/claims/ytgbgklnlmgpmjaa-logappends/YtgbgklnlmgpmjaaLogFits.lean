/- Fits walked. -/
import Derived.Test.YtgbgklnlmgpmjaaLogAppYes
import Derived.Test.YtgbgklnlmgpmjaaDiskDown
namespace Go.Proofs.Ytgbgklnlmgpmjaa
open Go.RowKit Lo Hdp Chk Rec

theorem lo_drewN {B : Nat} {a w : World} (h : Below B a w) (n : Nat) : Below B a (w.drewN n) := ⟨h.os, h.tape, h.output, h.size, h.block⟩

theorem fits_out (p : Value) (n : Int) (w : World) (h : n < 0 ∨ 24 < n) :
    Calls Try.prog 12 #[p, .int .i64 n] w fun e w' => e = .returned (.bool false) ∧ w = w' := by
  rcases h with h | h
  · go_enter Try.func12, Try.ntmps12
    go_wp2_with fail
    go_ret
    exact ⟨rfl, rfl⟩
  · have h0 : ¬ n < 0 := by omega
    go_enter Try.func12, Try.ntmps12
    go_wp2_with fail
    go_ret
    exact ⟨rfl, rfl⟩

set_option maxRecDepth 10000 in
set_option maxHeartbeats 4000000 in
theorem fits_full (lb b gd : Nat) (S : St) (V : Nat → Value) (G : Int) (L : Lg) (v : Value) (n : Nat) (w : World) (H : LogAt w lb b gd S V G L v) (hG0 : 32 ≤ G) (hG1 : G ≤ 64) (hn : n ≤ 24) (hd : S.down = false) (hc : L.canB G n = false) :
    Calls Try.prog 12 #[.pointer (some ⟨lb, 0, none⟩), .int .i64 n] w fun e w' => e = .returned (.bool false) ∧ Below w.heap.size w w' := by
  have SP := lohid (fun w1 (hb : Below w.heap.size w w1) => spot_no (w := w1) n (row_on H.row hb) (H.free.on hb) hG0 hG1 (by omega) hc)
  have DN := lohid (kDown (lohid H.disk) false hd)
  have g0 : w.cell? ⟨lb, 0, none⟩ = some (.pointer (some ⟨b, 0, none⟩)) := (cell_of_row _ _ _ _ _ _ H.row).trans rfl
  clear H hc hd
  go_enter Try.func12, Try.ntmps12
  go_wp2_with (first | (go_at_call 30; refine DN.out.mono ?_; rintro e w1 ⟨rfl, rfl⟩) | fail)
  refine (SP.out _ (Below.refl _ _)).mono ?_
  rintro e w1 ⟨L0, rfl, hb1⟩
  have HB1 := lohid hb1
  clear hb1 SP
  go_wp2_with fail
  go_quiet (fail)
  go_wp2_with fail
  go_ret
  exact ⟨rfl, lo_drewN (HB1.out.alloc HB1.out.size _) _⟩

set_option maxRecDepth 10000 in
set_option maxHeartbeats 4000000 in
theorem fits_yes (lb b gd : Nat) (S : St) (V : Nat → Value) (G sg : Int) (L : Lg) (v : Value) (n : Nat) (w : World) (H : LogAt w lb b gd S V G L v) (hok : L.Ok G sg) (hgeo : GeomOk S.n G) (hsg : ((S.n : Int) - 48) / G = sg) (hn : n ≤ 24) (hd : S.down = false) (hc : L.canB G n = true) (hmk : makeB ((L.move G n).head Hd.z) [] = true) :
    Calls Try.prog 12 #[.pointer (some ⟨lb, 0, none⟩), .int .i64 n] w fun e w' => e = .returned (.bool true) ∧ Below w.heap.size w w' := by
  obtain ⟨p0, p1, s0, s1⟩ := move_in hok hgeo.1 hn hc
  obtain ⟨a0, a1, a2, a3⟩ := sec_in hgeo hsg p0 p1 s0 s1
  have hN := hgeo.2.2.2
  have hS : SegsSaid S.n G sg := fun w1 => by rw [← hsg]; exact segs_yes S.n G w1 hgeo
  have HO := lohid (fun (w1 : World) c0 => holds_yes b gd S.n S.n G (48 + (L.move G n).seg * G) ((L.move G n).sec G) n (L.move G n) w1 c0 (fun w2 => start_yes S.n G (L.move G n).seg _ w2 hgeo s0 (by rw [hsg]; exact s1) rfl a0 a1) (by omega) (by omega) (by omega) (by omega) (by omega) (by omega) (by omega))
  have SP := lohid (fun w1 (hb : Below w.heap.size w w1) => spot_yes (w := w1) n (row_on H.row hb) (H.free.on hb) hok hgeo.1 hgeo.2.1 hS (by omega) hc)
  have hh1 : (L.move G n).house = L.house := by unfold Lg.move; split <;> rfl
  have hh2 : (L.move G n).gen = L.gen := by unfold Lg.move; split <;> rfl
  have DN := lohid (kDown (lohid H.disk) false hd)
  have HLA := lohid H
  have hlb := H.lt
  clear H hc hd hgeo hsg hS a0 a1 a2 a3 p0 p1 s0 s1 hok
  generalize L.move G n = L1 at *
  have ST := lohid (fun (w1 : World) c3 c4 => stamp_t lb L1 Hd.z none 0 0 w1 c3 c4)
  have MK := lohid (fun (w1 : World) => make_t (L1.head Hd.z) (.slice none 0 0) (.slice none 0 0) [] w1 (Ents.nil _) (Txts.nil _) (by simp))
  rw [hmk] at MK
  obtain ⟨X, hX⟩ : ∃ X, L1.head Hd.z = X := ⟨_, rfl⟩
  rw [hX] at ST MK
  obtain ⟨T, hT⟩ : ∃ T, makeS X [] = T := ⟨_, rfl⟩
  rw [hT] at MK
  clear hX hT hmk
  obtain ⟨house, gen, num, life, clock, seg, pos, next, seq, m0, m1, m2, m3, sb, sn, fl⟩ := L1
  dsimp only at hh1 hh2
  have g0 : w.cell? ⟨lb, 0, none⟩ = some (.pointer (some ⟨b, 0, none⟩)) := (cell_of_row _ _ _ _ _ _ HLA.out.row).trans rfl
  go_enter Try.func12, Try.ntmps12
  go_wp2_with (first | (go_at_call 30; refine DN.out.mono ?_; rintro e w1 ⟨rfl, rfl⟩) | fail)
  refine (SP.out _ (Below.refl _ _)).mono ?_
  rintro e w1 ⟨v1, rfl, hfr, hb1⟩
  obtain ⟨fad, fcap, rfl⟩ := hfr.slice
  have HB1 := lohid hb1
  clear hb1 SP hfr g0 DN
  dsimp only [plV, plC]
  go_wp2_with fail
  generalize hW2 : World.alloc w1 _ = W2
  have HB2 : Hid (Below w.heap.size w W2) := by rw [← hW2]; exact HB1.out.alloc HB1.out.size _
  have RS2 : Hid (W2.heap[w1.heap.size]? = some (.cells #[.int .i64 num, .int .i64 life, .int .i64 clock, .int .i64 seg, .int .i64 pos, .int .i64 next, .int .i64 seq, .int .i64 m0, .int .i64 m1, .int .i64 m2, .int .i64 m3, .int .i64 sb, .int .i64 sn] 45 (0, 0))) := by rw [← hW2]; exact heap_alloc_new _ _
  clear hW2
  generalize hp8 : w1.heap.size = p8 at *
  have HLA2 := lohid (HLA.out.on HB2.out)
  have g0 : W2.cell? ⟨lb, 0, none⟩ = some (.pointer (some ⟨b, 0, none⟩)) := (cell_of_row _ _ _ _ _ _ HLA2.out.row).trans rfl
  have g1 : W2.cell? ⟨lb, 1, none⟩ = some (.int .i64 S.n) := (cell_of_row _ _ _ _ _ _ HLA2.out.row).trans rfl
  have g2 : W2.cell? ⟨lb, 2, none⟩ = some (.int .i64 G) := (cell_of_row _ _ _ _ _ _ HLA2.out.row).trans rfl
  obtain ⟨q0, q1, q2, q3, q4, q5, q6, q7, q8, q9, q10, q11, q12⟩ := cells13 RS2.out
  go_region_held3 (fun w' => w'.cell? ⟨lb, 0, none⟩ = some (.pointer (some ⟨b, 0, none⟩)) ∧ w'.cell? ⟨lb, 1, none⟩ = some (.int .i64 S.n) ∧ w'.cell? ⟨lb, 2, none⟩ = some (.int .i64 G) ∧
      w'.cell? ⟨p8, 0, none⟩ = some (.int .i64 num) ∧ w'.cell? ⟨p8, 1, none⟩ = some (.int .i64 life) ∧ w'.cell? ⟨p8, 2, none⟩ = some (.int .i64 clock) ∧ w'.cell? ⟨p8, 3, none⟩ = some (.int .i64 seg) ∧ w'.cell? ⟨p8, 4, none⟩ = some (.int .i64 pos) ∧ w'.cell? ⟨p8, 5, none⟩ = some (.int .i64 next) ∧ w'.cell? ⟨p8, 6, none⟩ = some (.int .i64 seq) ∧ w'.cell? ⟨p8, 7, none⟩ = some (.int .i64 m0) ∧ w'.cell? ⟨p8, 8, none⟩ = some (.int .i64 m1) ∧ w'.cell? ⟨p8, 9, none⟩ = some (.int .i64 m2) ∧ w'.cell? ⟨p8, 10, none⟩ = some (.int .i64 m3) ∧ w'.cell? ⟨p8, 11, none⟩ = some (.int .i64 sb) ∧ w'.cell? ⟨p8, 12, none⟩ = some (.int .i64 sn)) (go_keep)
    (first
      | (go_at_call 32; refine (HO.out _ (by exact HLA2.out.disk.drewn.hd.c0)).mono ?_; rintro e w5 ⟨rfl, hb5⟩
         have hb5 := lo_undrew hb5
         have HB5 := lohid hb5
         have HLA5 := lohid (HLA2.out.on hb5)
         have RS5 := lohid (row_on RS2.out hb5)
         have g0 : w5.cell? ⟨lb, 0, none⟩ = some (.pointer (some ⟨b, 0, none⟩)) := (cell_of_row _ _ _ _ _ _ HLA5.out.row).trans rfl
         have g1 : w5.cell? ⟨lb, 1, none⟩ = some (.int .i64 S.n) := (cell_of_row _ _ _ _ _ _ HLA5.out.row).trans rfl
         have g2 : w5.cell? ⟨lb, 2, none⟩ = some (.int .i64 G) := (cell_of_row _ _ _ _ _ _ HLA5.out.row).trans rfl
         obtain ⟨q0, q1, q2, q3, q4, q5, q6, q7, q8, q9, q10, q11, q12⟩ := cells13 RS5.out
         clear hb5))
  have HB6 : Hid (Below w.heap.size w w5) := HB2.out.trans (HB5.out.mono HB2.out.size)
  clear HO HB2 HB5 HLA2 RS2
  go_wp2_with fail
  have k3 : w5.cell? ⟨lb, 3, none⟩ = some (.int .i64 house) := by rw [hh1]; exact (cell_of_row _ _ _ _ _ _ HLA5.out.row).trans rfl
  have k4 : w5.cell? ⟨lb, 4, none⟩ = some (.int .i64 gen) := by rw [hh2]; exact (cell_of_row _ _ _ _ _ _ HLA5.out.row).trans rfl
  refine (ST.out w5 k3 k4).mono ?_
  rintro e w7 ⟨rfl, hb7⟩
  have HB7 : Hid (Below w.heap.size w w7) := HB6.out.trans (hb7.mono HB6.out.size)
  clear hb7 HB6 k3 k4 g0 g1 g2 q0 q1 q2 q3 q4 q5 q6 q7 q8 q9 q10 q11 q12 RS5 HLA5
  go_wp2_with fail
  refine (MK.out w7).mono ?_
  rintro e w8 ⟨rfl, hb8⟩
  have HB8 : Hid (Below w.heap.size w w8) := HB7.out.trans (hb8.mono HB7.out.size)
  clear hb8 HB7
  go_wp2_with fail
  go_ret
  exact ⟨rfl, HB8.out⟩
end Go.Proofs.Ytgbgklnlmgpmjaa
