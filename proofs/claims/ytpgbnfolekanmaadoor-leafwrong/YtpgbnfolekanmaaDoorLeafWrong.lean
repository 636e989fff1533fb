/- The law LeafWrong walked: a block that one thing makes none. -/
import Derived.Test.YtpgbnfolekanmaaDoorLeafAwake
import Derived.Test.YtpgbnfolekanmaaDoorLeafText
namespace Go.Proofs.YtpgbnfolekanmaaDoor
open Go.RowKit Lf

/-- Places by a function, up to k; empty ones behind. -/
def upTo (f : Nat → Nm) (n k : Nat) : List Nm := (List.range n).map fun i => if i < k then f i else z
theorem upTo_length (f : Nat → Nm) (n k : Nat) : (upTo f n k).length = n := by simp [upTo]
theorem upTo_get (f : Nat → Nm) (n k i : Nat) (h : i < (upTo f n k).length) : (upTo f n k)[i] = if i < k then f i else z := by simp [upTo]
theorem upTo_zero (f : Nat → Nm) (n : Nat) : upTo f n 0 = List.replicate n z := by
  apply List.ext_getElem
  · rw [upTo_length, List.length_replicate]
  · intro i h1 h2
    rw [upTo_get, if_neg (Nat.not_lt_zero _), List.getElem_replicate]
theorem upTo_set (f : Nat → Nm) (n k : Nat) : (upTo f n k).set k (f k) = upTo f n (k + 1) := by
  apply List.ext_getElem
  · rw [List.length_set, upTo_length, upTo_length]
  · intro i h1 h2
    have h3 : i < (upTo f n k).length := by rw [List.length_set] at h1; exact h1
    by_cases e : k = i
    · subst e
      rw [List.getElem_set_self, upTo_get, if_pos (by omega)]
    · rw [List.getElem_set_ne e, upTo_get, upTo_get]
      by_cases h4 : i < k
      · rw [if_pos h4, if_pos (by omega)]
      · rw [if_neg h4, if_neg (by omega)]

/-- The law's eight places. -/
def wf (i : Nat) : Nm := ⟨txS i (1 + i), 1 + (i : Int)⟩
def wl : List Nm := upTo wf 8 8
theorem wl_length : wl.length = 8 := upTo_length _ _ _
theorem wl_get (i : Nat) (h : i < wl.length) : wl[i] = wf i := by
  have h8 : i < 8 := by rw [wl_length] at h; exact h
  exact (upTo_get wf 8 8 i h).trans (if_pos h8)
theorem wl_ok : okB wl = true := by decide +kernel
/-- One place turned to one that may not be. -/
theorem wl_turned {k : Nat} {p : Nm} (hk : k < 8) (he : emB p = false) (hp : okP p = false) : okB (wl.set k p) = false := by
  have h1 : k < (wl.set k p).length := by rw [List.length_set, wl_length]; exact hk
  refine okB_no_at h1 ?_
  rw [List.getElem_set_self]
  exact okAt_no he hp
theorem wf_name {i : Nat} : emB ⟨(wf i).name, 0⟩ = false := by
  show ((txL i (1 + i)).isEmpty && _) = false
  have : (txL i (1 + i)).isEmpty = false := by
    cases h : txL (i : Int) (1 + i) with
    | nil =>
      have := txL_length (i : Int) (1 + i)
      rw [h] at this
      simp at this
      omega
    | cons _ _ => rfl
  rw [this]
  rfl
theorem em_name {a : ByteArray} {v u : Int} (h : emB ⟨a, v⟩ = false) (h0 : v = 0) : emB ⟨a, u⟩ = false := by
  subst h0
  have : a.data.toList.isEmpty = false := by simpa [emB] using h
  show (a.data.toList.isEmpty && _) = false
  rw [this]
  rfl
theorem wl_0 {k : Nat} (hk : k < 8) : okB (wl.set k ⟨⟨#[]⟩, (wf k).node⟩) = false := by
  refine wl_turned hk ?_ rfl
  show (true && decide ((1 + (k : Int)) = 0)) = false
  rw [Bool.true_and]
  exact decide_eq_false (by omega)
theorem wl_1 {k : Nat} (hk : k < 8) : okB (wl.set k ⟨⟨#[97, 47, 98]⟩, (wf k).node⟩) = false := wl_turned hk rfl rfl
theorem wl_2 {k : Nat} (hk : k < 8) {u : Int} (hu : u < 1 ∨ 255 < u) : okB (wl.set k ⟨(wf k).name, u⟩) = false := by
  refine wl_turned hk (em_name wf_name rfl) ?_
  rw [okP]
  have : decide (1 ≤ u ∧ u ≤ 255) = false := decide_eq_false (by omega)
  show (_ && decide (1 ≤ u ∧ u ≤ 255)) = false
  rw [this, Bool.and_false]
theorem wl_4 : ∀ k, k < 8 → okB (wl.set k ⟨(wf ((k + 1) % 8)).name, (wf k).node⟩) = false := by decide +kernel
theorem wl_5 {k : Nat} (hk : k < 8) : okB (wl.take k) = false := okB_no_len (by rw [List.length_take, wl_length]; omega)

set_option maxRecDepth 10000 in
set_option maxHeartbeats 8000000 in
theorem leafWrong_t (how at_ v : Int) (w : World) :
    Calls Tryd.prog 6 #[.int .i64 how, .int .i64 at_, .int .i64 v] w fun e w' => e = .returned (.bool true) ∧ Below w.heap.size w w' := by
  have hmk : (Instr.makeSlice 22 (.int .i64 8) (.int .i64 8)).run Tryd.prog w = .ok (.slice (some ⟨w.heap.size, 0, none⟩) 8 8) (w.alloc (.cells (ncells (List.replicate 8 z)).toArray 41)) := nmake 8 (by decide) w
  have HR0 : Hid (NRow (w.alloc (.cells (ncells (List.replicate 8 z)).toArray 41)) w.heap.size (upTo wf 8 0)) := by
    show NRow _ _ _
    rw [upTo_zero]
    exact nmake_row 8 w
  generalize (ncells (List.replicate 8 z)).toArray = R at *
  have AW := lfhid awake_t
  have TXT : Hid (∀ (i : Nat) w1, i < 8 → Calls Tryd.prog 21 #[.int .i64 (i : Int), .int .i64 (1 + (i : Int))] w1 fun e w' => e = .returned (.string (wf i).name) ∧ Below w1.heap.size w1 w') := fun i w1 h => by
    have := ltext_t i (1 + i) w1 (by omega) (by omega)
    have e : ((1 + i : Nat) : Int) = 1 + (i : Int) := by omega
    rw [e] at this
    exact this
  have HUS := lfhid (upTo_set wf 8)
  have HUL := lfhid (upTo_length wf 8)
  have HWN : Hid (∀ i, (wf i).node = 1 + (i : Int)) := fun i => rfl
  have PUTY : Hid (∀ v w1, Nams w1 v (upTo wf 8 8) → Calls Tryd.prog 9 #[v] w1 fun e w' => (∃ PS, e = .returned (.tuple #[.string PS, .bool true])) ∧ Below w1.heap.size w1 w') := fun v w1 h => by
    refine (put_t11 v wl w1 h (by rw [wl_length]; decide)).mono fun e w' ⟨he, hb⟩ => ?_
    rw [wl_ok] at he
    exact ⟨⟨_, he⟩, hb⟩
  have PUTN : Hid (∀ v w1 (L : List Nm), Nams w1 v L → L.length ≤ 8 → okB L = false → Calls Tryd.prog 9 #[v] w1 fun e w' => e = .returned (.tuple #[.string ⟨#[]⟩, .bool false]) ∧ Below w1.heap.size w1 w') := fun v w1 L h hl hn => put_no v L w1 h (by omega) hn
  go_enter Tryd.func6, Tryd.ntmps6
  go_wp2_with fail
  generalize hW : World.alloc w _ = W
  have HRW : Hid (NRow W w.heap.size (upTo wf 8 0)) := by rw [← hW]; exact HR0.out
  have HBW : Hid (Below w.heap.size w W) := by rw [← hW]; exact (Below.refl _ w).alloc (Nat.le_refl _) _
  clear hW HR0 hmk
  go_loopw [8] (fun c wr => ∃ k : Nat, k ≤ 8 ∧ c = .int .i64 k ∧ Hid (NRow wr w.heap.size (upTo wf 8 k)) ∧ Hid (Below w.heap.size w wr)) (fun c _ => 8 - (intOf c).toNat)
  case atStart => exact ⟨0, by omega, rfl, HRW, HBW⟩
  case round =>
    obtain ⟨i, hi, rfl, HR, HB⟩ := hrel
    clear HRW HBW
    by_cases hlt : i < 8
    · have TX := lfhid (fun w1 => TXT.out i w1 hlt)
      have HWNi := lfhid (HWN.out i)
      clear PUTY PUTN HWN
      go_wp2_with fail
      refine (TX.out wr).mono ?_
      rintro e w1 ⟨rfl, hb1⟩
      have HR1 : Hid (NRow w1 w.heap.size (upTo wf 8 i)) := HR.out.on hb1
      have HB1 : Hid (Below w.heap.size w w1) := HB.out.trans (hb1.mono HB.out.size)
      clear hb1 HR HB TX TXT
      have hlen : i < (upTo wf 8 i).length := by rw [HUL.out]; exact hlt
      have c0 := HR1.out.name i hlen
      have c1 := HR1.out.node i hlen
      have f0 := HR1.out.frozen (i * 2)
      have f1 := HR1.out.frozen (i * 2 + 1)
      have HR2 := lfhid (HR1.out.put i (wf i) hlen)
      rw [HUS.out, HWNi.out] at HR2
      have HB2 : Hid (Below w.heap.size w ((w1.setCell ⟨w.heap.size, i * 2, none⟩ (.string (wf i).name)).setCell ⟨w.heap.size, i * 2 + 1, none⟩ (.int .i64 (1 + (i : Int))))) := (HB1.out.setCell (Nat.le_refl _) _).setCell (Nat.le_refl _) _
      generalize (upTo wf 8 i)[i] = y at *
      generalize (wf i).name = wn at *
      clear HR1 HB1 hlen HWNi
      go_wp2_with fail
      exact ⟨⟨i + 1, by omega, by go_num, HR2, HB2⟩, by simp [intOf]; omega⟩
    · have hi8 : i = 8 := by omega
      subst hi8
      have HN : Hid (Nams wr (.slice (some ⟨w.heap.size, 0, none⟩) 8 8) (upTo wf 8 8)) := by
        have := HR.out.nams (cap := 8) (by rw [HUL.out]; exact Nat.le_refl _)
        rw [HUL.out] at this
        exact this
      clear TXT HUS HWN
      go_wp2_with fail
      refine (gplace_t at_ 8 wr (by decide) (by decide)).mono ?_
      rintro e w1 ⟨rfl, rfl⟩
      obtain ⟨k, hk⟩ : ∃ k : Nat, at_ % 8 = (k : Int) := ⟨(at_ % 8).toNat, by omega⟩
      have hk8 : k < 8 := by omega
      rw [hk]
      clear hk
      go_wp2_with fail
      refine (PUTY.out _ wr HN.out).mono ?_
      rintro e w2 ⟨⟨PS, rfl⟩, hb2⟩
      have HR2 : Hid (NRow w2 w.heap.size wl) := HR.out.on hb2
      have HB2 : Hid (Below w.heap.size w w2) := HB.out.trans (hb2.mono HB.out.size)
      clear hb2 HR HB HN PUTY
      go_wp2_with fail
      refine (gplace_t how 7 w2 (by decide) (by decide)).mono ?_
      rintro e w3 ⟨rfl, rfl⟩
      have hlen : k < wl.length := by rw [wl_length]; exact hk8
      have c0 := HR2.out.name k hlen
      have c1 := HR2.out.node k hlen
      rw [wl_get] at c0 c1
      have f0 := HR2.out.frozen (k * 2)
      have f1 := HR2.out.frozen (k * 2 + 1)
      have HWK : Hid (wl[k] = wf k) := wl_get k hlen
      have hc : how % 7 = 0 ∨ how % 7 = 1 ∨ how % 7 = 2 ∨ how % 7 = 3 ∨ how % 7 = 4 ∨ how % 7 = 5 ∨ how % 7 = 6 := by omega
      rcases hc with hc | hc | hc | hc | hc | hc | hc
      · rw [hc]
        clear hc
        have HRN : Hid (NRow (w2.setCell ⟨w.heap.size, k * 2, none⟩ (.string ⟨#[]⟩)) w.heap.size (wl.set k ⟨⟨#[]⟩, (wf k).node⟩)) := HR2.out.set k 0 (.string ⟨#[]⟩) ⟨⟨#[]⟩, (wf k).node⟩ hlen (by decide) (by rw [HWK.out]; rfl)
        have HBN : Hid (Below w.heap.size w (w2.setCell ⟨w.heap.size, k * 2, none⟩ (.string ⟨#[]⟩))) := HB2.out.setCell (Nat.le_refl _) _
        have HLEN : Hid ((wl.set k ⟨⟨#[]⟩, (wf k).node⟩).length = 8) := by show _ = _; rw [List.length_set, wl_length]
        have HNO : Hid (okB (wl.set k ⟨⟨#[]⟩, (wf k).node⟩) = false) := wl_0 hk8
        have HNN : Hid (Nams (w2.setCell ⟨w.heap.size, k * 2, none⟩ (.string ⟨#[]⟩)) (.slice (some ⟨w.heap.size, 0, none⟩) 8 8) (wl.set k ⟨⟨#[]⟩, (wf k).node⟩)) := by
          have := HRN.out.nams (cap := 8) (by rw [HLEN.out]; exact Nat.le_refl _)
          rw [HLEN.out] at this
          exact this
        generalize wl.set k ⟨⟨#[]⟩, (wf k).node⟩ = WN at *
        clear HRN HR2 HB2 HWK
        go_wp2_with fail
        refine (PUTN.out _ _ _ HNN.out (by rw [HLEN.out]; omega) HNO.out).mono ?_
        rintro e w5 ⟨rfl, hb5⟩
        have HB5 : Hid (Below w.heap.size w w5) := HBN.out.trans (hb5.mono HBN.out.size)
        clear hb5 HBN HNN PUTN
        go_wp2_with fail
        refine (AW.out w5).mono ?_
        rintro e w6 ⟨rfl, hb6⟩
        have HB6 : Hid (Below w.heap.size w w6) := HB5.out.trans (hb6.mono HB5.out.size)
        clear hb6 HB5
        go_wp2_with fail
        go_ret
        exact ⟨rfl, HB6.out⟩
      · rw [hc]
        clear hc
        have HRN : Hid (NRow (w2.setCell ⟨w.heap.size, k * 2, none⟩ (.string ⟨#[97, 47, 98]⟩)) w.heap.size (wl.set k ⟨⟨#[97, 47, 98]⟩, (wf k).node⟩)) := HR2.out.set k 0 (.string ⟨#[97, 47, 98]⟩) ⟨⟨#[97, 47, 98]⟩, (wf k).node⟩ hlen (by decide) (by rw [HWK.out]; rfl)
        have HBN : Hid (Below w.heap.size w (w2.setCell ⟨w.heap.size, k * 2, none⟩ (.string ⟨#[97, 47, 98]⟩))) := HB2.out.setCell (Nat.le_refl _) _
        have HLEN : Hid ((wl.set k ⟨⟨#[97, 47, 98]⟩, (wf k).node⟩).length = 8) := by show _ = _; rw [List.length_set, wl_length]
        have HNO : Hid (okB (wl.set k ⟨⟨#[97, 47, 98]⟩, (wf k).node⟩) = false) := wl_1 hk8
        have HNN : Hid (Nams (w2.setCell ⟨w.heap.size, k * 2, none⟩ (.string ⟨#[97, 47, 98]⟩)) (.slice (some ⟨w.heap.size, 0, none⟩) 8 8) (wl.set k ⟨⟨#[97, 47, 98]⟩, (wf k).node⟩)) := by
          have := HRN.out.nams (cap := 8) (by rw [HLEN.out]; exact Nat.le_refl _)
          rw [HLEN.out] at this
          exact this
        generalize wl.set k ⟨⟨#[97, 47, 98]⟩, (wf k).node⟩ = WN at *
        clear HRN HR2 HB2 HWK
        go_wp2_with fail
        refine (PUTN.out _ _ _ HNN.out (by rw [HLEN.out]; omega) HNO.out).mono ?_
        rintro e w5 ⟨rfl, hb5⟩
        have HB5 : Hid (Below w.heap.size w w5) := HBN.out.trans (hb5.mono HBN.out.size)
        clear hb5 HBN HNN PUTN
        go_wp2_with fail
        refine (AW.out w5).mono ?_
        rintro e w6 ⟨rfl, hb6⟩
        have HB6 : Hid (Below w.heap.size w w6) := HB5.out.trans (hb6.mono HB5.out.size)
        clear hb6 HB5
        go_wp2_with fail
        go_ret
        exact ⟨rfl, HB6.out⟩
      · rw [hc]
        clear hc
        have HRN : Hid (NRow (w2.setCell ⟨w.heap.size, k * 2 + 1, none⟩ (.int .i64 0)) w.heap.size (wl.set k ⟨(wf k).name, 0⟩)) := HR2.out.set k 1 (.int .i64 0) ⟨(wf k).name, 0⟩ hlen (by decide) (by rw [HWK.out]; rfl)
        have HBN : Hid (Below w.heap.size w (w2.setCell ⟨w.heap.size, k * 2 + 1, none⟩ (.int .i64 0))) := HB2.out.setCell (Nat.le_refl _) _
        have HLEN : Hid ((wl.set k ⟨(wf k).name, 0⟩).length = 8) := by show _ = _; rw [List.length_set, wl_length]
        have HNO : Hid (okB (wl.set k ⟨(wf k).name, 0⟩) = false) := wl_2 hk8 (by omega)
        have HNN : Hid (Nams (w2.setCell ⟨w.heap.size, k * 2 + 1, none⟩ (.int .i64 0)) (.slice (some ⟨w.heap.size, 0, none⟩) 8 8) (wl.set k ⟨(wf k).name, 0⟩)) := by
          have := HRN.out.nams (cap := 8) (by rw [HLEN.out]; exact Nat.le_refl _)
          rw [HLEN.out] at this
          exact this
        generalize wl.set k ⟨(wf k).name, 0⟩ = WN at *
        clear HRN HR2 HB2 HWK
        go_wp2_with fail
        refine (PUTN.out _ _ _ HNN.out (by rw [HLEN.out]; omega) HNO.out).mono ?_
        rintro e w5 ⟨rfl, hb5⟩
        have HB5 : Hid (Below w.heap.size w w5) := HBN.out.trans (hb5.mono HBN.out.size)
        clear hb5 HBN HNN PUTN
        go_wp2_with fail
        refine (AW.out w5).mono ?_
        rintro e w6 ⟨rfl, hb6⟩
        have HB6 : Hid (Below w.heap.size w w6) := HB5.out.trans (hb6.mono HB5.out.size)
        clear hb6 HB5
        go_wp2_with fail
        go_ret
        exact ⟨rfl, HB6.out⟩
      · rw [hc]
        clear hc
        obtain ⟨q, hq⟩ : ∃ q : Nat, v % 100 = (q : Int) := ⟨(v % 100).toNat, by omega⟩
        have hq1 : q < 100 := by omega
        have GP := lfhid (gplace_t v 100 w2 (by decide) (by decide))
        rw [hq] at GP
        clear hq
        have HRN : Hid (NRow (w2.setCell ⟨w.heap.size, k * 2 + 1, none⟩ (.int .i64 (256 + (q : Int)))) w.heap.size (wl.set k ⟨(wf k).name, 256 + (q : Int)⟩)) := HR2.out.set k 1 (.int .i64 (256 + (q : Int))) ⟨(wf k).name, 256 + (q : Int)⟩ hlen (by decide) (by rw [HWK.out]; rfl)
        have HBN : Hid (Below w.heap.size w (w2.setCell ⟨w.heap.size, k * 2 + 1, none⟩ (.int .i64 (256 + (q : Int))))) := HB2.out.setCell (Nat.le_refl _) _
        have HLEN : Hid ((wl.set k ⟨(wf k).name, 256 + (q : Int)⟩).length = 8) := by show _ = _; rw [List.length_set, wl_length]
        have HNO : Hid (okB (wl.set k ⟨(wf k).name, 256 + (q : Int)⟩) = false) := wl_2 hk8 (by omega)
        have HNN : Hid (Nams (w2.setCell ⟨w.heap.size, k * 2 + 1, none⟩ (.int .i64 (256 + (q : Int)))) (.slice (some ⟨w.heap.size, 0, none⟩) 8 8) (wl.set k ⟨(wf k).name, 256 + (q : Int)⟩)) := by
          have := HRN.out.nams (cap := 8) (by rw [HLEN.out]; exact Nat.le_refl _)
          rw [HLEN.out] at this
          exact this
        generalize wl.set k ⟨(wf k).name, 256 + (q : Int)⟩ = WN at *
        clear HRN HR2 HB2 HWK
        go_wp2_with fail
        refine GP.out.mono ?_
        rintro e w4 ⟨rfl, rfl⟩
        go_wp2_with fail
        refine (PUTN.out _ _ _ HNN.out (by rw [HLEN.out]; omega) HNO.out).mono ?_
        rintro e w5 ⟨rfl, hb5⟩
        have HB5 : Hid (Below w.heap.size w w5) := HBN.out.trans (hb5.mono HBN.out.size)
        clear hb5 HBN HNN PUTN
        go_wp2_with fail
        refine (AW.out w5).mono ?_
        rintro e w6 ⟨rfl, hb6⟩
        have HB6 : Hid (Below w.heap.size w w6) := HB5.out.trans (hb6.mono HB5.out.size)
        clear hb6 HB5
        go_wp2_with fail
        go_ret
        exact ⟨rfl, HB6.out⟩
      · rw [hc]
        clear hc
        have hk2 : (k + 1) % 8 < wl.length := by rw [wl_length]; omega
        have d0 := HR2.out.name ((k + 1) % 8) hk2
        rw [wl_get] at d0
        have HRN : Hid (NRow (w2.setCell ⟨w.heap.size, k * 2, none⟩ (.string (wf ((k + 1) % 8)).name)) w.heap.size (wl.set k ⟨(wf ((k + 1) % 8)).name, (wf k).node⟩)) := HR2.out.set k 0 (.string (wf ((k + 1) % 8)).name) ⟨(wf ((k + 1) % 8)).name, (wf k).node⟩ hlen (by decide) (by rw [HWK.out]; rfl)
        have HBN : Hid (Below w.heap.size w (w2.setCell ⟨w.heap.size, k * 2, none⟩ (.string (wf ((k + 1) % 8)).name))) := HB2.out.setCell (Nat.le_refl _) _
        have HLEN : Hid ((wl.set k ⟨(wf ((k + 1) % 8)).name, (wf k).node⟩).length = 8) := by show _ = _; rw [List.length_set, wl_length]
        have HNO : Hid (okB (wl.set k ⟨(wf ((k + 1) % 8)).name, (wf k).node⟩) = false) := wl_4 k hk8
        have HNN : Hid (Nams (w2.setCell ⟨w.heap.size, k * 2, none⟩ (.string (wf ((k + 1) % 8)).name)) (.slice (some ⟨w.heap.size, 0, none⟩) 8 8) (wl.set k ⟨(wf ((k + 1) % 8)).name, (wf k).node⟩)) := by
          have := HRN.out.nams (cap := 8) (by rw [HLEN.out]; exact Nat.le_refl _)
          rw [HLEN.out] at this
          exact this
        generalize wl.set k ⟨(wf ((k + 1) % 8)).name, (wf k).node⟩ = WN at *
        obtain ⟨q, hq⟩ : ∃ q, (k + 1) % 8 = q := ⟨_, rfl⟩
        have hq2 : ((k : Int) + 1) % 8 = (q : Int) := by omega
        have hq8 : q < 8 := by omega
        rw [hq] at d0 HNN HBN
        clear hk2 hq
        generalize (wf q).name = qn at *
        clear HRN HR2 HB2 HWK
        go_wp2_with fail
        refine (PUTN.out _ _ _ HNN.out (by rw [HLEN.out]; omega) HNO.out).mono ?_
        rintro e w5 ⟨rfl, hb5⟩
        have HB5 : Hid (Below w.heap.size w w5) := HBN.out.trans (hb5.mono HBN.out.size)
        clear hb5 HBN HNN PUTN
        go_wp2_with fail
        refine (AW.out w5).mono ?_
        rintro e w6 ⟨rfl, hb6⟩
        have HB6 : Hid (Below w.heap.size w w6) := HB5.out.trans (hb6.mono HB5.out.size)
        clear hb6 HB5
        go_wp2_with fail
        go_ret
        exact ⟨rfl, HB6.out⟩
      · rw [hc]
        clear hc
        have HNN : Hid (Nams w2 (.slice (some ⟨w.heap.size, 0, none⟩) k 8) (wl.take k)) := by
          have := HR2.out.piece 0 k 8 (by rw [wl_length]; omega) (by omega)
          rw [List.drop_zero, Nat.zero_mul] at this
          exact this
        have HLEN : Hid ((wl.take k).length = k) := by show _ = _; rw [List.length_take, wl_length]; omega
        have HNO : Hid (okB (wl.take k) = false) := wl_5 hk8
        have HBN := HB2
        generalize wl.take k = WN at *
        clear HR2 HB2 HWK c0 c1 f0 f1
        go_wp2_with fail
        refine (PUTN.out _ _ _ HNN.out (by rw [HLEN.out]; omega) HNO.out).mono ?_
        rintro e w5 ⟨rfl, hb5⟩
        have HB5 : Hid (Below w.heap.size w w5) := HBN.out.trans (hb5.mono HBN.out.size)
        clear hb5 HBN HNN PUTN
        go_wp2_with fail
        refine (AW.out w5).mono ?_
        rintro e w6 ⟨rfl, hb6⟩
        have HB6 : Hid (Below w.heap.size w w6) := HB5.out.trans (hb6.mono HB5.out.size)
        clear hb6 HB5
        go_wp2_with fail
        go_ret
        exact ⟨rfl, HB6.out⟩
      · rw [hc]
        clear hc
        obtain ⟨q, hq⟩ : ∃ q : Nat, v % 100 = (q : Int) := ⟨(v % 100).toNat, by omega⟩
        have hq1 : q < 100 := by omega
        have GP := lfhid (gplace_t v 100 w2 (by decide) (by decide))
        rw [hq] at GP
        clear hq
        have HRN : Hid (NRow (w2.setCell ⟨w.heap.size, k * 2 + 1, none⟩ (.int .i64 (-1 - (q : Int)))) w.heap.size (wl.set k ⟨(wf k).name, -1 - (q : Int)⟩)) := HR2.out.set k 1 (.int .i64 (-1 - (q : Int))) ⟨(wf k).name, -1 - (q : Int)⟩ hlen (by decide) (by rw [HWK.out]; rfl)
        have HBN : Hid (Below w.heap.size w (w2.setCell ⟨w.heap.size, k * 2 + 1, none⟩ (.int .i64 (-1 - (q : Int))))) := HB2.out.setCell (Nat.le_refl _) _
        have HLEN : Hid ((wl.set k ⟨(wf k).name, -1 - (q : Int)⟩).length = 8) := by show _ = _; rw [List.length_set, wl_length]
        have HNO : Hid (okB (wl.set k ⟨(wf k).name, -1 - (q : Int)⟩) = false) := wl_2 hk8 (by omega)
        have HNN : Hid (Nams (w2.setCell ⟨w.heap.size, k * 2 + 1, none⟩ (.int .i64 (-1 - (q : Int)))) (.slice (some ⟨w.heap.size, 0, none⟩) 8 8) (wl.set k ⟨(wf k).name, -1 - (q : Int)⟩)) := by
          have := HRN.out.nams (cap := 8) (by rw [HLEN.out]; exact Nat.le_refl _)
          rw [HLEN.out] at this
          exact this
        generalize wl.set k ⟨(wf k).name, -1 - (q : Int)⟩ = WN at *
        clear HRN HR2 HB2 HWK
        go_wp2_with fail
        refine GP.out.mono ?_
        rintro e w4 ⟨rfl, rfl⟩
        go_wp2_with fail
        refine (PUTN.out _ _ _ HNN.out (by rw [HLEN.out]; omega) HNO.out).mono ?_
        rintro e w5 ⟨rfl, hb5⟩
        have HB5 : Hid (Below w.heap.size w w5) := HBN.out.trans (hb5.mono HBN.out.size)
        clear hb5 HBN HNN PUTN
        go_wp2_with fail
        refine (AW.out w5).mono ?_
        rintro e w6 ⟨rfl, hb6⟩
        have HB6 : Hid (Below w.heap.size w w6) := HB5.out.trans (hb6.mono HB5.out.size)
        clear hb6 HB5
        go_wp2_with fail
        go_ret
        exact ⟨rfl, HB6.out⟩
end Go.Proofs.YtpgbnfolekanmaaDoor
