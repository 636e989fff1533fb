/- TableAll walked: any houses, any limit, any bytes. -/
import Derived.Test.YtdhdjnpgebddmaaTabAwake
import Derived.Test.YtdhdjnpgebddmaaTabCopied
import Derived.Test.YtdhdjnpgebddmaaTabSame
import Derived.Test.YtdhdjnpgebddmaaTabRefPut
import Derived.Test.YtdhdjnpgebddmaaTabRefGet
namespace Go.Proofs.Ytdhdjnpgebddmaa
open Go.RowKit Tab

theorem refGetAll_t (s : ByteArray) (w : World) : Calls Try.prog 14 #[.string s] w fun e w' => Got s e w' ∧ Below w.heap.size w w' := by
  by_cases hs : s.size = 2048
  · exact refGet_full s w hs (fun num l v w hH hs => by
      exact refTPut_t num l v w hH (fun x hx => by have := hs x hx; omega))
  · exact (refGet_short s w hs).mono fun _ _ ⟨h1, h2⟩ => ⟨h1, h2 ▸ Below.refl _ _⟩
/-- What Get tells. -/
def gotN (s : ByteArray) : Int := if getB s then getN s.data.toList else 0
def gotL (s : ByteArray) : List Ho := if getB s then getL s.data.toList else []
theorem gotL_segs (s : ByteArray) : ∀ y ∈ gotL s, y.segs.length ≤ 1000 := by
  intro y hy
  unfold gotL at hy
  split at hy
  · have := getL_segs hy
    omega
  · cases hy
theorem gotL_len (s : ByteArray) : (gotL s).length ≤ 1000 := by
  unfold gotL
  split
  · simp [getL, housesAt]
  · simp
theorem Got.parts {s : ByteArray} {e : Ending} {w' : World} (h : Got s e w') : ∃ ad cap, e = .returned (.tuple #[.int .i64 (gotN s), .slice ad (gotL s).length cap, .bool (getB s)]) ∧ Houses w' (.slice ad (gotL s).length cap) (gotL s) := by
  obtain ⟨v, rfl, hv⟩ := h
  have hv1 : Houses w' v (gotL s) := hv
  have hv2 := hv1
  obtain ⟨ad, cap, rfl, _⟩ := hv1
  exact ⟨ad, cap, rfl, hv2⟩
theorem few_parts {l : List Ho} (h : fewB l = true) : l.length ≤ 20 ∧ ∀ y ∈ l, y.segs.length ≤ 60 := by
  simp only [fewB, Bool.and_eq_true, decide_eq_true_eq, List.all_eq_true] at h
  refine ⟨h.2, fun y hy => h.1 y ?_⟩
  rw [List.take_of_length_le h.2]
  exact hy

set_option maxRecDepth 10000 in
set_option maxHeartbeats 8000000 in
theorem tableAll_t (segs num : Int) (l : List Ho) (v : Value) (x : Lm) (s : ByteArray) (w : World) (hH : Houses w v l) (hl : l.length ≤ 9223372036854775807) (hs : ∀ y ∈ l, y.segs.length ≤ 9223372036854775807) (hsg : segs ≤ 9223372036854775807) (hss : s.size ≤ 9223372036854775807) :
    Calls Try.prog 3 #[.int .i64 segs, .int .i64 num, v, limV x, .string s] w fun e w' => e = .returned (.bool true) ∧ Below w.heap.size w w' := by
  have FEW := tabhid (fun w1 (k : Below w.heap.size w w1) => few_t l v w1 (hH.on k) hl hs)
  have HH := tabhid hH
  obtain ⟨B, hB⟩ : ∃ B, B = fewB l := ⟨_, rfl⟩
  rw [← hB] at FEW
  have HFB : Hid (B = true → l.length ≤ 20 ∧ ∀ y ∈ l, y.segs.length ≤ 60) := fun h => few_parts (by rw [← hB]; exact h)
  clear hB hs
  obtain ⟨vad, vcap, hve, hvc⟩ := hH
  subst hve
  clear hvc
  show Calls _ _ #[.int .i64 segs, .int .i64 num, .slice vad l.length vcap, .agg #[.int .i64 x.s, .int .i64 x.hb, .int .i64 x.sb, .int .i64 x.hn, .int .i64 x.sn, .int .i64 x.gr, .int .i64 x.bu], .string s] _ _
  go_enter Try.func3, Try.ntmps3
  go_wp2_with fail
  refine (FEW.out _ ((Below.refl _ w).alloc (Nat.le_refl _) _)).mono ?_
  rintro e w' ⟨rfl, rfl⟩
  have AW : Hid (∀ w1, Below w.heap.size w w1 → Calls Try.prog 9 #[] w1 fun e w' => e = .returned (.bool true) ∧ Below w.heap.size w w') := fun w1 k => (awake_t w1).mono fun _ _ ⟨h1, h2⟩ => ⟨h1, k.trans (h2.mono k.size)⟩
  cases B
  · go_wp2_with fail
    refine (AW.out _ ((Below.refl _ w).alloc (Nat.le_refl _) _)).mono ?_
    rintro e w1 ⟨rfl, hb1⟩
    have HB1 := tabhid hb1
    clear hb1
    go_wp2_with fail
    go_ret
    exact ⟨rfl, HB1.out⟩
  · by_cases hs3 : 3000 < s.size
    · go_wp2_with fail
      refine (AW.out _ ((Below.refl _ w).alloc (Nat.le_refl _) _)).mono ?_
      rintro e w1 ⟨rfl, hb1⟩
      have HB1 := tabhid hb1
      clear hb1
      go_wp2_with fail
      go_ret
      exact ⟨rfl, HB1.out⟩
    · obtain ⟨hl20, hs60⟩ := HFB.out rfl
      have H60 := tabhid hs60
      clear HFB hs60 FEW
      generalize hW0 : w.alloc _ = W0
      have HB0 : Hid (Below w.heap.size w W0) := by rw [← hW0]; exact (Below.refl _ w).alloc (Nat.le_refl _) _
      have HN0 : Hid (W0.heap[w.heap.size]? = some (.cells #[.int .i64 x.s, .int .i64 x.hb, .int .i64 x.sb, .int .i64 x.hn, .int .i64 x.sn, .int .i64 x.gr, .int .i64 x.bu] 24 (0, 0))) := by rw [← hW0]; exact heap_alloc_new _ _
      clear hW0
      go_wp2_with fail
      refine (copied_t l _ W0 (HH.out.on HB0.out) hl20 H60.out).mono ?_
      rintro e wa ⟨⟨v1, rfl, hv1⟩, hba⟩
      have CPUT := tabhid (tput_t num l v1 wa hv1 (by omega) (fun y hy => by have := H60.out y hy; omega))
      go_wp2_with fail
      refine CPUT.out.mono ?_
      rintro e wb ⟨rfl, hbb⟩
      have KB : Hid (Below W0.heap.size W0 wb) := hba.trans (hbb.mono hba.size)
      clear CPUT hba hbb hv1
      go_wp2_with fail
      refine (refTPut_t num l _ wb ((HH.out.on HB0.out).on KB.out) (fun y hy => by have := H60.out y hy; omega)).mono ?_
      rintro e wc ⟨rfl, hbc⟩
      have KC : Hid (Below W0.heap.size W0 wc) := KB.out.trans (hbc.mono KB.out.size)
      clear hbc KB
      go_wp2_with fail
      refine (tget_t s wc).mono ?_
      rintro e wd ⟨hg1, hbd⟩
      obtain ⟨ga, gc, rfl, hh1⟩ := hg1.parts
      have KD : Hid (Below W0.heap.size W0 wd) := KC.out.trans (hbd.mono KC.out.size)
      have HG1 := tabhid hh1
      clear hbd KC hg1 hh1
      go_wp2_with fail
      refine (refGetAll_t s wd).mono ?_
      rintro e W ⟨hg2, hbe⟩
      obtain ⟨ha, hc, rfl, hh2⟩ := hg2.parts
      have KE : Hid (Below W0.heap.size W0 W) := KD.out.trans (hbe.mono KD.out.size)
      have HG2 := tabhid hh2
      have HG3 := tabhid (HG1.out.on hbe)
      clear hbe KD hg2 hh2 HG1
      have HSG := tabhid (gotL_segs s)
      have HSL := tabhid (gotL_len s)
      generalize gotL s = G at *
      generalize gotN s = gn at *
      generalize getB s = gb at *
      generalize putS num l = PS at *
      generalize putB num l = PB at *
      have hwW : w.heap.size < W.heap.size := Nat.lt_of_lt_of_le (Array.getElem?_eq_some_iff.1 HN0.out).1 KE.out.size
      have HNW : Hid (W.heap[w.heap.size]? = some (.cells #[.int .i64 x.s, .int .i64 x.hb, .int .i64 x.sb, .int .i64 x.hn, .int .i64 x.sn, .int .i64 x.gr, .int .i64 x.bu] 24 (0, 0))) := by
        show _ = _
        rw [KE.out.block _ (Array.getElem?_eq_some_iff.1 HN0.out).1]
        exact HN0.out
      have HBW : Hid (Below w.heap.size w W) := HB0.out.trans (KE.out.mono HB0.out.size)
      have HHW := tabhid (HH.out.on HBW.out)
      have d0 : W.cell? ⟨w.heap.size, 0, none⟩ = some (.int .i64 x.s) := by rw [cell_of_row W _ _ _ _ _ HNW.out]; rfl
      have D0 := tabhid d0
      have d1 : W.cell? ⟨w.heap.size, 1, none⟩ = some (.int .i64 x.hb) := by rw [cell_of_row W _ _ _ _ _ HNW.out]; rfl
      have D1 := tabhid d1
      have d2 : W.cell? ⟨w.heap.size, 2, none⟩ = some (.int .i64 x.sb) := by rw [cell_of_row W _ _ _ _ _ HNW.out]; rfl
      have D2 := tabhid d2
      have d3 : W.cell? ⟨w.heap.size, 3, none⟩ = some (.int .i64 x.hn) := by rw [cell_of_row W _ _ _ _ _ HNW.out]; rfl
      have D3 := tabhid d3
      have d4 : W.cell? ⟨w.heap.size, 4, none⟩ = some (.int .i64 x.sn) := by rw [cell_of_row W _ _ _ _ _ HNW.out]; rfl
      have D4 := tabhid d4
      have d5 : W.cell? ⟨w.heap.size, 5, none⟩ = some (.int .i64 x.gr) := by rw [cell_of_row W _ _ _ _ _ HNW.out]; rfl
      have D5 := tabhid d5
      have d6 : W.cell? ⟨w.heap.size, 6, none⟩ = some (.int .i64 x.bu) := by rw [cell_of_row W _ _ _ _ _ HNW.out]; rfl
      have D6 := tabhid d6
      have CL1 := tabhid (fun w1 => checkLimit_t x w1)
      have CL2 := tabhid (fun w1 => rlimit_t x w1)
      generalize limB x = LB at *
      have CC1 := tabhid (fun w1 v1 (h : Houses w1 v1 l) => check_t segs l v1 w1 h (by omega) (fun y hy => by have := H60.out y hy; omega) hsg)
      have CC2 := tabhid (fun w1 v1 (h : Houses w1 v1 l) => refCheck_t segs l v1 w1 h (fun y hy => by have := H60.out y hy; omega))
      generalize checkB segs l = CB at *
      have hp : Below W.heap.size W W := Below.refl _ _
      clear HH HB0 HN0 KE
      go_wp2_with fail
      go_region_held3 (fun w' => w'.cell? ⟨w.heap.size, 0, none⟩ = some (.int .i64 x.s) ∧ w'.cell? ⟨w.heap.size, 1, none⟩ = some (.int .i64 x.hb) ∧ w'.cell? ⟨w.heap.size, 2, none⟩ = some (.int .i64 x.sb) ∧ w'.cell? ⟨w.heap.size, 3, none⟩ = some (.int .i64 x.hn) ∧ w'.cell? ⟨w.heap.size, 4, none⟩ = some (.int .i64 x.sn) ∧ w'.cell? ⟨w.heap.size, 5, none⟩ = some (.int .i64 x.gr) ∧ w'.cell? ⟨w.heap.size, 6, none⟩ = some (.int .i64 x.bu)) (first | go_keep)
        (first
          | (go_at_call 15; refine (CL1.out _).mono ?_; rintro e w1 ⟨rfl, hb1⟩; have hp := hp.trans (Below.mono (show Below _ _ w1 from ⟨hb1.os, hb1.tape, hb1.output, hb1.size, hb1.block⟩) hp.size); have d0 : w1.cell? ⟨w.heap.size, 0, none⟩ = some (.int .i64 x.s) := (by rw [hp.cell (by show w.heap.size < W.heap.size; omega)]; exact D0.out); have d1 : w1.cell? ⟨w.heap.size, 1, none⟩ = some (.int .i64 x.hb) := (by rw [hp.cell (by show w.heap.size < W.heap.size; omega)]; exact D1.out); have d2 : w1.cell? ⟨w.heap.size, 2, none⟩ = some (.int .i64 x.sb) := (by rw [hp.cell (by show w.heap.size < W.heap.size; omega)]; exact D2.out); have d3 : w1.cell? ⟨w.heap.size, 3, none⟩ = some (.int .i64 x.hn) := (by rw [hp.cell (by show w.heap.size < W.heap.size; omega)]; exact D3.out); have d4 : w1.cell? ⟨w.heap.size, 4, none⟩ = some (.int .i64 x.sn) := (by rw [hp.cell (by show w.heap.size < W.heap.size; omega)]; exact D4.out); have d5 : w1.cell? ⟨w.heap.size, 5, none⟩ = some (.int .i64 x.gr) := (by rw [hp.cell (by show w.heap.size < W.heap.size; omega)]; exact D5.out); have d6 : w1.cell? ⟨w.heap.size, 6, none⟩ = some (.int .i64 x.bu) := (by rw [hp.cell (by show w.heap.size < W.heap.size; omega)]; exact D6.out))
          | (go_at_call 16; refine (CL2.out _).mono ?_; rintro e w1 ⟨rfl, hb1⟩; have hp := hp.trans (Below.mono (show Below _ _ w1 from ⟨hb1.os, hb1.tape, hb1.output, hb1.size, hb1.block⟩) hp.size); have d0 : w1.cell? ⟨w.heap.size, 0, none⟩ = some (.int .i64 x.s) := (by rw [hp.cell (by show w.heap.size < W.heap.size; omega)]; exact D0.out); have d1 : w1.cell? ⟨w.heap.size, 1, none⟩ = some (.int .i64 x.hb) := (by rw [hp.cell (by show w.heap.size < W.heap.size; omega)]; exact D1.out); have d2 : w1.cell? ⟨w.heap.size, 2, none⟩ = some (.int .i64 x.sb) := (by rw [hp.cell (by show w.heap.size < W.heap.size; omega)]; exact D2.out); have d3 : w1.cell? ⟨w.heap.size, 3, none⟩ = some (.int .i64 x.hn) := (by rw [hp.cell (by show w.heap.size < W.heap.size; omega)]; exact D3.out); have d4 : w1.cell? ⟨w.heap.size, 4, none⟩ = some (.int .i64 x.sn) := (by rw [hp.cell (by show w.heap.size < W.heap.size; omega)]; exact D4.out); have d5 : w1.cell? ⟨w.heap.size, 5, none⟩ = some (.int .i64 x.gr) := (by rw [hp.cell (by show w.heap.size < W.heap.size; omega)]; exact D5.out); have d6 : w1.cell? ⟨w.heap.size, 6, none⟩ = some (.int .i64 x.bu) := (by rw [hp.cell (by show w.heap.size < W.heap.size; omega)]; exact D6.out))
          | (go_at_call 11; refine (copied_t l _ _ (HHW.out.on hp) hl20 H60.out).mono ?_; rintro e w1 ⟨⟨v9, rfl, hv9⟩, hb1⟩; have hp := hp.trans (Below.mono (show Below _ _ w1 from ⟨hb1.os, hb1.tape, hb1.output, hb1.size, hb1.block⟩) hp.size); have d0 : w1.cell? ⟨w.heap.size, 0, none⟩ = some (.int .i64 x.s) := (by rw [hp.cell (by show w.heap.size < W.heap.size; omega)]; exact D0.out); have d1 : w1.cell? ⟨w.heap.size, 1, none⟩ = some (.int .i64 x.hb) := (by rw [hp.cell (by show w.heap.size < W.heap.size; omega)]; exact D1.out); have d2 : w1.cell? ⟨w.heap.size, 2, none⟩ = some (.int .i64 x.sb) := (by rw [hp.cell (by show w.heap.size < W.heap.size; omega)]; exact D2.out); have d3 : w1.cell? ⟨w.heap.size, 3, none⟩ = some (.int .i64 x.hn) := (by rw [hp.cell (by show w.heap.size < W.heap.size; omega)]; exact D3.out); have d4 : w1.cell? ⟨w.heap.size, 4, none⟩ = some (.int .i64 x.sn) := (by rw [hp.cell (by show w.heap.size < W.heap.size; omega)]; exact D4.out); have d5 : w1.cell? ⟨w.heap.size, 5, none⟩ = some (.int .i64 x.gr) := (by rw [hp.cell (by show w.heap.size < W.heap.size; omega)]; exact D5.out); have d6 : w1.cell? ⟨w.heap.size, 6, none⟩ = some (.int .i64 x.bu) := (by rw [hp.cell (by show w.heap.size < W.heap.size; omega)]; exact D6.out))
          | (go_at_call 17; refine (CC1.out _ _ hv9).mono ?_; rintro e w1 ⟨rfl, hb1⟩; have hp := hp.trans (Below.mono (show Below _ _ w1 from ⟨hb1.os, hb1.tape, hb1.output, hb1.size, hb1.block⟩) hp.size); have d0 : w1.cell? ⟨w.heap.size, 0, none⟩ = some (.int .i64 x.s) := (by rw [hp.cell (by show w.heap.size < W.heap.size; omega)]; exact D0.out); have d1 : w1.cell? ⟨w.heap.size, 1, none⟩ = some (.int .i64 x.hb) := (by rw [hp.cell (by show w.heap.size < W.heap.size; omega)]; exact D1.out); have d2 : w1.cell? ⟨w.heap.size, 2, none⟩ = some (.int .i64 x.sb) := (by rw [hp.cell (by show w.heap.size < W.heap.size; omega)]; exact D2.out); have d3 : w1.cell? ⟨w.heap.size, 3, none⟩ = some (.int .i64 x.hn) := (by rw [hp.cell (by show w.heap.size < W.heap.size; omega)]; exact D3.out); have d4 : w1.cell? ⟨w.heap.size, 4, none⟩ = some (.int .i64 x.sn) := (by rw [hp.cell (by show w.heap.size < W.heap.size; omega)]; exact D4.out); have d5 : w1.cell? ⟨w.heap.size, 5, none⟩ = some (.int .i64 x.gr) := (by rw [hp.cell (by show w.heap.size < W.heap.size; omega)]; exact D5.out); have d6 : w1.cell? ⟨w.heap.size, 6, none⟩ = some (.int .i64 x.bu) := (by rw [hp.cell (by show w.heap.size < W.heap.size; omega)]; exact D6.out))
          | (go_at_call 18; refine (CC2.out _ _ (HHW.out.on hp)).mono ?_; rintro e w1 ⟨rfl, hb1⟩; have hp := hp.trans (Below.mono (show Below _ _ w1 from ⟨hb1.os, hb1.tape, hb1.output, hb1.size, hb1.block⟩) hp.size); have d0 : w1.cell? ⟨w.heap.size, 0, none⟩ = some (.int .i64 x.s) := (by rw [hp.cell (by show w.heap.size < W.heap.size; omega)]; exact D0.out); have d1 : w1.cell? ⟨w.heap.size, 1, none⟩ = some (.int .i64 x.hb) := (by rw [hp.cell (by show w.heap.size < W.heap.size; omega)]; exact D1.out); have d2 : w1.cell? ⟨w.heap.size, 2, none⟩ = some (.int .i64 x.sb) := (by rw [hp.cell (by show w.heap.size < W.heap.size; omega)]; exact D2.out); have d3 : w1.cell? ⟨w.heap.size, 3, none⟩ = some (.int .i64 x.hn) := (by rw [hp.cell (by show w.heap.size < W.heap.size; omega)]; exact D3.out); have d4 : w1.cell? ⟨w.heap.size, 4, none⟩ = some (.int .i64 x.sn) := (by rw [hp.cell (by show w.heap.size < W.heap.size; omega)]; exact D4.out); have d5 : w1.cell? ⟨w.heap.size, 5, none⟩ = some (.int .i64 x.gr) := (by rw [hp.cell (by show w.heap.size < W.heap.size; omega)]; exact D5.out); have d6 : w1.cell? ⟨w.heap.size, 6, none⟩ = some (.int .i64 x.bu) := (by rw [hp.cell (by show w.heap.size < W.heap.size; omega)]; exact D6.out))
          | (go_at_call 19; refine (same_t G _ _ _ (HG3.out.on hp) (HG2.out.on hp) HSL.out HSG.out).mono ?_; rintro e w1 ⟨rfl, hb1⟩; have hp := hp.trans (Below.mono (show Below _ _ w1 from ⟨hb1.os, hb1.tape, hb1.output, hb1.size, hb1.block⟩) hp.size); have d0 : w1.cell? ⟨w.heap.size, 0, none⟩ = some (.int .i64 x.s) := (by rw [hp.cell (by show w.heap.size < W.heap.size; omega)]; exact D0.out); have d1 : w1.cell? ⟨w.heap.size, 1, none⟩ = some (.int .i64 x.hb) := (by rw [hp.cell (by show w.heap.size < W.heap.size; omega)]; exact D1.out); have d2 : w1.cell? ⟨w.heap.size, 2, none⟩ = some (.int .i64 x.sb) := (by rw [hp.cell (by show w.heap.size < W.heap.size; omega)]; exact D2.out); have d3 : w1.cell? ⟨w.heap.size, 3, none⟩ = some (.int .i64 x.hn) := (by rw [hp.cell (by show w.heap.size < W.heap.size; omega)]; exact D3.out); have d4 : w1.cell? ⟨w.heap.size, 4, none⟩ = some (.int .i64 x.sn) := (by rw [hp.cell (by show w.heap.size < W.heap.size; omega)]; exact D4.out); have d5 : w1.cell? ⟨w.heap.size, 5, none⟩ = some (.int .i64 x.gr) := (by rw [hp.cell (by show w.heap.size < W.heap.size; omega)]; exact D5.out); have d6 : w1.cell? ⟨w.heap.size, 6, none⟩ = some (.int .i64 x.bu) := (by rw [hp.cell (by show w.heap.size < W.heap.size; omega)]; exact D6.out))
          | (go_at_call 9; refine (awake_t _).mono ?_; rintro e w1 ⟨rfl, hb1⟩; have hp := hp.trans (Below.mono (show Below _ _ w1 from ⟨hb1.os, hb1.tape, hb1.output, hb1.size, hb1.block⟩) hp.size); have d0 : w1.cell? ⟨w.heap.size, 0, none⟩ = some (.int .i64 x.s) := (by rw [hp.cell (by show w.heap.size < W.heap.size; omega)]; exact D0.out); have d1 : w1.cell? ⟨w.heap.size, 1, none⟩ = some (.int .i64 x.hb) := (by rw [hp.cell (by show w.heap.size < W.heap.size; omega)]; exact D1.out); have d2 : w1.cell? ⟨w.heap.size, 2, none⟩ = some (.int .i64 x.sb) := (by rw [hp.cell (by show w.heap.size < W.heap.size; omega)]; exact D2.out); have d3 : w1.cell? ⟨w.heap.size, 3, none⟩ = some (.int .i64 x.hn) := (by rw [hp.cell (by show w.heap.size < W.heap.size; omega)]; exact D3.out); have d4 : w1.cell? ⟨w.heap.size, 4, none⟩ = some (.int .i64 x.sn) := (by rw [hp.cell (by show w.heap.size < W.heap.size; omega)]; exact D4.out); have d5 : w1.cell? ⟨w.heap.size, 5, none⟩ = some (.int .i64 x.gr) := (by rw [hp.cell (by show w.heap.size < W.heap.size; omega)]; exact D5.out); have d6 : w1.cell? ⟨w.heap.size, 6, none⟩ = some (.int .i64 x.bu) := (by rw [hp.cell (by show w.heap.size < W.heap.size; omega)]; exact D6.out)))
      have HBF : Hid (Below w.heap.size w w1) := HBW.out.trans (hp.mono HBW.out.size)
      go_wp2_with fail
      go_ret
      exact ⟨rfl, HBF.out⟩
end Go.Proofs.Ytdhdjnpgebddmaa
