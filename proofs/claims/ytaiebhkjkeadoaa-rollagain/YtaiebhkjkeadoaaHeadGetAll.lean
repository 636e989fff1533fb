/- The head of bytes: read and Get walked, whole. -/
import Derived.Test.YtaiebhkjkeadoaaHeadGet
import Derived.Deep.RegionWith
namespace Go.Proofs.Ytaiebhkjkeadoaa
open Go.RowKit Rec Hdp

theorem emake (s : List UInt8) (n : Nat) (hn : n ≤ 24) (w : World) : (Instr.makeSlice 41 (.int .i64 n) (.int .i64 n)).run Try.prog w = .ok (.slice (some ⟨w.heap.size, 0, none⟩) n n) (w.alloc (.cells (gcells s n 0) 62)) := by
  obtain ⟨i0, hi, hz0, hz1, hz2⟩ := info_parts Try.infoE
  have := run_make (P := Try.prog) w 41 62 i0 _ Try.underlying41 hi hz0 .i64 .i64 n n (by omega) (by omega) (by rw [hz2]; omega) (by omega)
  rw [this, hz1]
  have e : madeCells (Value.agg #[.int .i64 0, .int .i64 0, .int .i64 0]).cells ((n : Int).toNat * 3) = gcells s n 0 := by
    apply Array.ext_getElem?
    intro j
    by_cases hj : j < 3 * n
    · rw [gcells_get s n 0 j hj, if_neg (by omega)]
      have h3 : j % 3 = 0 ∨ j % 3 = 1 ∨ j % 3 = 2 := by omega
      have hj2 : j < n * 3 := by omega
      rcases h3 with h3 | h3 | h3 <;> simp [madeCells, Value.cells, hj2, h3]
    · rw [Array.getElem?_eq_none (by simp [madeCells]; omega), Array.getElem?_eq_none (by rw [gcells_size]; omega)]
  rw [e]; simp

/-- Read all, the list's cells are its entries. -/
theorem ents_got {w : World} {b n : Nat} {s : List UInt8} (h : w.heap[b]? = some (.cells (gcells s n (n * 3)) 62 (0, 0))) : Ents w (.slice (some ⟨b, 0, none⟩) n n) (getL s n) := by
  refine ⟨some ⟨b, 0, none⟩, n, by rw [getL_length], (fun h => by cases h), fun _ => ⟨b, 0, rfl, (Array.getElem?_eq_some_iff.1 h).1, fun i hi => ?_⟩⟩
  have hi2 : i < n := by rw [getL_length] at hi; exact hi
  have e : (getL s n)[i] = getE s i := by simp [getL]
  rw [e]
  have c : ∀ j, j < 3 → w.cell? ⟨b, 0 + i * 3 + j, none⟩ = some (.int .i64 (fvAt s (i * 3 + j))) := by
    intro j hj
    rw [cell_of_row w _ _ _ _ _ h, Nat.zero_add, gcells_get s n (n * 3) (i * 3 + j) (by omega), if_pos (by omega)]
  have f : ∀ j, j < 3 → fvAt s (i * 3 + j) = numAt s (37 + 4 * i + j) (if j = 2 then 2 else 1) := by
    intro j hj
    unfold fvAt
    have e1 : (i * 3 + j) / 3 = i := by omega
    have e2 : (i * 3 + j) % 3 = j := by omega
    rw [e1, e2]
  have a1 : 37 + 4 * i + 1 = 38 + 4 * i := by omega
  have a2 : 37 + 4 * i + 2 = 39 + 4 * i := by omega
  refine ⟨(c 0 (by omega)).trans ?_, (c 1 (by omega)).trans ?_, (c 2 (by omega)).trans ?_⟩
  · rw [f 0 (by omega)]
    rfl
  · rw [f 1 (by omega), a1]
    rfl
  · rw [f 2 (by omega), a2]
    rfl

theorem gx_all (s : List UInt8) (v : Value) : headC (gx s 8) v = headC (getX s) v := rfl

set_option maxRecDepth 10000 in
set_option maxHeartbeats 4000000 in
/-- What the bytes of a block say. -/
theorem hread_t (s : ByteArray) (w : World) (hs : 256 ≤ s.size) (hl : s.size ≤ 100000) :
    Calls Try.prog 78 #[.string s] w fun e w' => ∃ b, w.heap.size ≤ b ∧ e = .returned (headV (getX s.data.toList) (.slice (some ⟨b, 0, none⟩) (getX s.data.toList).list.length (getX s.data.toList).list.length)) ∧ Ents w' (.slice (some ⟨b, 0, none⟩) (getX s.data.toList).list.length (getX s.data.toList).list.length) (getX s.data.toList).list ∧ Below w.heap.size w w' := by
  have hXl : (getX s.data.toList).list.length = getN s.data.toList := getL_length _ _
  have hXe : (getX s.data.toList).list = getL s.data.toList (getN s.data.toList) := rfl
  have hn24 := getN_le s.data.toList
  have hm := numAt_lt s.data.toList 36 1
  have hmin : min (numAt s.data.toList 36 1) 24 = (getN s.data.toList : Int) := by unfold getN; omega
  have NUM := hdhid (fun (W : World) (h : GotK s (w.heap.size + 1) (w.heap.size + 2) 0 (.slice none 0 0) W) => getNumbers_t s (w.heap.size + 1) (w.heap.size + 2) w.heap.size (.slice none 0 0) W h (by omega) (by omega) (by omega) hs hl)
  have GE := hdhid (fun (W : World) (g : Nat) (hg : W.heap[g]? = some (.cells #[.int .i64 0] 3 (0, 0))) (hr : W.heap[w.heap.size + 2]? = some (.cells #[.string s, .int .i64 (36 : Nat)] 152 (0, 0))) (h1 : g ≠ w.heap.size + 2) (h2 : w.heap.size ≤ g) => getEach_t s g 0 (w.heap.size + 2) 36 1 w.heap.size #[.int .i64 0] 3 0 W hg rfl hr h1 h2 (by omega) (by decide) (by omega) hl)
  have EN := hdhid (fun (W : World) (lb : Nat) (h : GotE s lb (w.heap.size + 2) (getN s.data.toList) 0 W) (h1 : lb ≠ w.heap.size + 2) (h2 : w.heap.size ≤ lb) => getEntries_t s lb (w.heap.size + 2) (getN s.data.toList) w.heap.size W h h1 h2 (by omega) hn24 hs hl)
  have HMK := hdhid (fun w1 => emake s.data.toList (getN s.data.toList) hn24 w1)
  rw [hXl, hXe]
  obtain ⟨X, hX⟩ : ∃ X, X = getX s.data.toList := ⟨_, rfl⟩
  rw [← hX]
  have HX8 : Hid (∀ v, headC (gx s.data.toList 8) v = headC X v) := fun v => by rw [hX]; exact gx_all _ v
  clear hX hXl hXe
  generalize numAt s.data.toList 36 1 = m at *
  generalize getN s.data.toList = n at *
  go_enter Try.func78, Try.ntmps78
  go_wp2_with fail
  generalize hW : World.alloc (World.alloc (World.alloc w _) _) _ = W
  have HXA : Hid (W.heap[w.heap.size]? = some (.cells (headC Hd.z (.slice none 0 0)) 43 (0, 0))) := by
    rw [← hW, Below.heap_alloc _ _ _ (by simp <;> omega), Below.heap_alloc _ _ _ (by simp)]
    exact heap_alloc_new _ _
  have HXB : Hid (W.heap[w.heap.size + 1]? = some (.cells (headC Hd.z (.slice none 0 0)) 43 (0, 0))) := by
    rw [← hW, Below.heap_alloc _ _ _ (by simp)]
    have e : ∀ o, w.heap.size + 1 = (w.alloc o).heap.size := fun o => by simp
    rw [e]
    exact heap_alloc_new _ _
  have HXR : Hid (W.heap[w.heap.size + 2]? = some (.cells #[.string s, .int .i64 4] 152 (0, 0))) := by
    rw [← hW]
    have e : ∀ o p, w.heap.size + 2 = ((w.alloc o).alloc p).heap.size := fun o p => by simp
    rw [e]
    exact heap_alloc_new _ _
  have HB0 : Hid (Below w.heap.size w W) := by rw [← hW]; exact (((Below.refl _ w).alloc (Nat.le_refl _) _).alloc (by simp) _).alloc (by simp <;> omega) _
  have hw0 : w.heap.size + 2 < W.heap.size := by rw [← hW]; simp
  clear hW
  refine (NUM.out _ ⟨HXB.out, HXR.out⟩).mono ?_
  rintro e w1 ⟨rfl, ⟨k1, k2⟩, k3, k4⟩
  rw [HX8.out] at k1
  have HX1 := hdhid k1
  have HR1 : Hid (w1.heap[w.heap.size + 2]? = some (.cells #[.string s, .int .i64 (36 : Nat)] 152 (0, 0))) := k2
  have HA1 : Hid (w1.heap[w.heap.size]? = some (.cells (headC Hd.z (.slice none 0 0)) 43 (0, 0))) := (k3 _ (by omega) (by omega)).trans HXA.out
  have HB1 : Hid (Below w.heap.size w w1) := HB0.out.trans k4
  have hw1 : w.heap.size + 2 < w1.heap.size := by have := k4.size; omega
  clear k1 k2 k3 k4 HXA HXB HXR HB0 NUM HX8
  go_wp2_with fail
  generalize hM : World.alloc w1 _ = M
  have HMX : Hid (M.heap[w1.heap.size]? = some (.cells #[.int .i64 0] 3 (0, 0))) := by rw [← hM]; exact heap_alloc_new _ _
  have hMb : Below w1.heap.size w1 M := by rw [← hM]; exact (Below.refl _ w1).alloc (Nat.le_refl _) _
  have hwM : w1.heap.size < M.heap.size := by rw [← hM]; simp
  have HR2 : Hid (M.heap[w.heap.size + 2]? = some (.cells #[.string s, .int .i64 (36 : Nat)] 152 (0, 0))) := (hMb.block _ (by omega)).trans HR1.out
  have HX2 : Hid (M.heap[w.heap.size + 1]? = _) := (hMb.block _ (by omega)).trans HX1.out
  have HA2 : Hid (M.heap[w.heap.size]? = _) := (hMb.block _ (by omega)).trans HA1.out
  have HB2 : Hid (Below w.heap.size w M) := HB1.out.trans (hMb.mono (by omega))
  clear hM hMb HR1 HX1 HA1 HB1
  refine (GE.out M w1.heap.size HMX.out HR2.out (by omega) (by omega)).mono ?_
  rintro e w2 ⟨rfl, k1, k2, k3, k4⟩
  have y0 : w2.cell? ⟨w1.heap.size, 0, none⟩ = some (.int .i64 m) := (cell_of_row w2 _ _ _ _ _ k1).trans rfl
  have HR3 : Hid (w2.heap[w.heap.size + 2]? = some (.cells #[.string s, .int .i64 (37 : Nat)] 152 (0, 0))) := k2
  have HX3 : Hid (w2.heap[w.heap.size + 1]? = _) := (k3 _ (by omega) (by omega)).trans HX2.out
  have HA3 : Hid (w2.heap[w.heap.size]? = _) := (k3 _ (by omega) (by omega)).trans HA2.out
  have HB3 : Hid (Below w.heap.size w w2) := HB2.out.trans k4
  have hw2 : w1.heap.size < w2.heap.size := (Array.getElem?_eq_some_iff.1 k1).1
  clear k1 k2 k3 k4 HR2 HX2 HA2 HB2 HMX GE hwM
  have hmk := HMK.out w2
  obtain ⟨V, hV⟩ : ∃ V, V = w2.alloc (.cells (gcells s.data.toList n 0) 62) := ⟨_, rfl⟩
  rw [← hV] at hmk
  have hVb : Below w2.heap.size w2 V := by rw [hV]; exact (Below.refl _ w2).alloc (Nat.le_refl _) _
  have HL4 : Hid (V.heap[w2.heap.size]? = some (.cells (gcells s.data.toList n 0) 62 (0, 0))) := by rw [hV]; exact heap_alloc_new _ _
  have HR4 : Hid (V.heap[w.heap.size + 2]? = _) := (hVb.block _ (by omega)).trans HR3.out
  have HX4 : Hid (V.heap[w.heap.size + 1]? = _) := (hVb.block _ (by omega)).trans HX3.out
  have HA4 : Hid (V.heap[w.heap.size]? = _) := (hVb.block _ (by omega)).trans HA3.out
  have HB4 : Hid (Below w.heap.size w V) := HB3.out.trans (hVb.mono (by omega))
  clear hV hVb HR3 HX3 HA3 HB3 HMK
  have c8 : V.cell? ⟨w.heap.size + 1, 8, none⟩ = some (.slice none 0 0) := (cell_of_row V _ _ _ _ _ HX4.out).trans rfl
  have f8 := frozen_of_row V (w.heap.size + 1) 8 _ _ HX4.out
  go_wp2_with fail
  generalize hU : World.setCell V _ _ = U
  have HX5 : Hid (U.heap[w.heap.size + 1]? = some (.cells (headC X (.slice (some ⟨w2.heap.size, 0, none⟩) n n)) 43 (0, 0))) := by
    rw [← hU]
    exact heap_setCell_same V _ 8 _ _ _ HX4.out
  have hUo : ∀ k, k ≠ w.heap.size + 1 → U.heap[k]? = V.heap[k]? := fun k hk => by rw [← hU]; exact heap_setCell_other _ _ _ _ hk
  have HL5 : Hid (U.heap[w2.heap.size]? = _) := (hUo _ (by omega)).trans HL4.out
  have HR5 : Hid (U.heap[w.heap.size + 2]? = _) := (hUo _ (by omega)).trans HR4.out
  have HA5 : Hid (U.heap[w.heap.size]? = _) := (hUo _ (by omega)).trans HA4.out
  clear hUo
  have HB5 : Hid (Below w.heap.size w U) := by
    rw [← hU]
    exact HB4.out.setCell (p := ⟨w.heap.size + 1, 8, none⟩) (by simp) _
  clear hU HX4 HL4 HR4 HA4 HB4 c8 f8 hmk y0
  refine (EN.out U w2.heap.size ⟨HL5.out, HR5.out⟩ (by omega) (by omega)).mono ?_
  rintro e w3 ⟨rfl, ⟨k1, k2⟩, k3, k4⟩
  have HL6 := hdhid k1
  have HX6 : Hid (w3.heap[w.heap.size + 1]? = _) := (k3 _ (by omega) (by omega)).trans HX5.out
  have HA6 : Hid (w3.heap[w.heap.size]? = _) := (k3 _ (by omega) (by omega)).trans HA5.out
  have HB6 : Hid (Below w.heap.size w w3) := HB5.out.trans k4
  clear k1 k2 k3 k4 HL5 HX5 HR5 HA5 HB5 EN
  obtain ⟨house, gen, life, seq, next, clock, sb, sn, l⟩ := X
  obtain ⟨x0, x1, x2, x3, x4, x5, x6, x7, x8⟩ := cells9 HX6.out
  obtain ⟨a0, a1, a2, a3, a4, a5, a6, a7, a8⟩ := cells9 HA6.out
  have f0 := frozen_of_row w3 w.heap.size 0 _ _ HA6.out
  have f1 := frozen_of_row w3 w.heap.size 1 _ _ HA6.out
  have f2 := frozen_of_row w3 w.heap.size 2 _ _ HA6.out
  have f3 := frozen_of_row w3 w.heap.size 3 _ _ HA6.out
  have f4 := frozen_of_row w3 w.heap.size 4 _ _ HA6.out
  have f5 := frozen_of_row w3 w.heap.size 5 _ _ HA6.out
  have f6 := frozen_of_row w3 w.heap.size 6 _ _ HA6.out
  have f7 := frozen_of_row w3 w.heap.size 7 _ _ HA6.out
  have f8 := frozen_of_row w3 w.heap.size 8 _ _ HA6.out
  clear HX6 HA6
  go_wp2_with fail
  refine bodyPost_ret (v := headV ⟨house, gen, life, seq, next, clock, sb, sn, l⟩ (.slice (some ⟨w2.heap.size, 0, none⟩) n n)) (by simp [results, Try.results78, go_sem, a0, a1, a2, a3, a4, a5, a6, a7, a8]) rfl ⟨w2.heap.size, by omega, rfl, ?_, ?_⟩
  · refine ents_got (s := s.data.toList) ?_
    iterate 9 rw [heap_setCell_other _ _ _ _ (by dsimp only; omega)]
    exact HL6.out
  · iterate 9 refine Below.setCell ?_ (by dsimp only; omega) _
    exact HB6.out

set_option maxRecDepth 10000 in
set_option maxHeartbeats 2000000 in
theorem hget_short (s : ByteArray) (w : World) (h : s.size < 256) :
    Calls Try.prog 69 #[.string s] w fun e w' => e = .returned noneV ∧ Below w.heap.size w w' := by
  go_enter Try.func69, Try.ntmps69
  go_wp2_with fail
  refine bodyPost_ret (v := noneV) (by simp [results, Try.results69, go_sem]) rfl ⟨rfl, ?_⟩
  exact (Below.refl _ _).alloc (Nat.le_refl _) _

set_option maxRecDepth 10000 in
set_option maxHeartbeats 4000000 in
/-- The head of bytes, with its sum, or none. -/
theorem hget_full (s : ByteArray) (w : World) (hs : 256 ≤ s.size) (hl : s.size ≤ 100000) :
    Calls Try.prog 69 #[.string s] w fun e w' => ((getB s = true ∧ ∃ b, e = .returned (.tuple #[headV (getX s.data.toList) (.slice (some ⟨b, 0, none⟩) (getX s.data.toList).list.length (getX s.data.toList).list.length), .int .i64 (getS s.data.toList), .bool true]) ∧ Ents w' (.slice (some ⟨b, 0, none⟩) (getX s.data.toList).list.length (getX s.data.toList).list.length) (getX s.data.toList).list ∧ w.heap.size ≤ b) ∨ (getB s = false ∧ e = .returned noneV)) ∧ Below w.heap.size w w' := by
  have RD := hdhid (fun w1 => hread_t s w1 hs hl)
  have HGB : Hid (getB s = (okB (getX s.data.toList) && decide (front (getX s.data.toList) = s.data.toList.take 252))) := by
    show _ = _
    unfold getB
    rw [decide_eq_true hs, Bool.true_and]
  have SG : Hid (∀ w1, Calls Try.prog 79 #[.string s, .int .i64 252, .int .i64 4] w1 fun e w' => e = .returned (.tuple #[.int .i64 (getS s.data.toList), .bool true]) ∧ w1 = w') := fun w1 => get_t s 252 4 w1 (by decide) (by omega) (by omega)
  have hXl := getX_len s.data.toList
  have EQ : Hid (((⟨(front (getX s.data.toList)).toArray⟩ : ByteArray).toList == (s.extract 0 252).toList) = decide (front (getX s.data.toList) = s.data.toList.take 252)) := by
    show _ = _
    rw [eq_bytes, take_extract]
  generalize getS s.data.toList = gs at *
  generalize getX s.data.toList = X at *
  generalize decide (front X = s.data.toList.take 252) = D at *
  have CK := hdhid (fun v w1 (h : Ents w1 v X.list) => hcheck_t X v w1 h)
  have WR := hdhid (fun v w1 (h : Ents w1 v X.list) (hok : okB X = true) => hwrite_t X v w1 h hok)
  generalize front X = F at *
  generalize okB X = OK at *
  obtain ⟨house, gen, life, seq, next, clock, sb, sn, l⟩ := X
  have hl24 : l.length ≤ 24 := hXl
  clear hXl
  have hs2 : ¬ ((s.size : Int) < 256) := by omega
  have hs3 : (252 : Int) ≤ (s.size : Int) := by omega
  go_enter Try.func69, Try.ntmps69
  go_wp2_with fail
  generalize hW : World.alloc w _ = W
  have HA : Hid (W.heap[w.heap.size]? = some (.cells (headC Hd.z (.slice none 0 0)) 43 (0, 0))) := by rw [← hW]; exact heap_alloc_new _ _
  have HB0 : Hid (Below w.heap.size w W) := by rw [← hW]; exact (Below.refl _ w).alloc (Nat.le_refl _) _
  have hw0 : w.heap.size < W.heap.size := by rw [← hW]; simp
  clear hW
  refine (RD.out _).mono ?_
  rintro e w1 ⟨b, hbb, rfl, hE1, hb1⟩
  have hbw : w.heap.size < b := by omega
  clear hbb
  have HE1 := hdhid hE1
  have HA1 : Hid (w1.heap[w.heap.size]? = _) := (hb1.block _ hw0).trans HA.out
  have HB1 : Hid (Below w.heap.size w w1) := HB0.out.trans (hb1.mono (by omega))
  have hw1 : w.heap.size < w1.heap.size := by have := hb1.size; omega
  clear hE1 hb1 HA HB0 RD hw0
  go_wp2_with fail
  generalize hV : World.alloc w1 _ = V
  have HX2 : Hid (V.heap[w1.heap.size]? = some (.cells (headC ⟨house, gen, life, seq, next, clock, sb, sn, l⟩ (.slice (some ⟨b, 0, none⟩) l.length l.length)) 43 (0, 0))) := by rw [← hV]; exact heap_alloc_new _ _
  have hVb : Below w1.heap.size w1 V := by rw [← hV]; exact (Below.refl _ w1).alloc (Nat.le_refl _) _
  have hwV : w1.heap.size < V.heap.size := by rw [← hV]; simp
  have HE2 := hdhid (HE1.out.on hVb)
  have HA2 : Hid (V.heap[w.heap.size]? = _) := (hVb.block _ hw1).trans HA1.out
  have HB2 : Hid (Below w.heap.size w V) := HB1.out.trans (hVb.mono (by omega))
  clear hV hVb HE1 HA1 HB1
  obtain ⟨x0, x1, x2, x3, x4, x5, x6, x7, x8⟩ := cells9 HX2.out
  have hp : Below V.heap.size V V := Below.refl _ _
  cases OK
  · have HG0 : Hid (getB s = false) := by show _ = _; rw [HGB.out]; rfl
    clear HGB EQ WR SG
    first
    | (go_region_with ((go_at_call 47; refine (CK.out _ _ (by exact HE2.out.on ⟨hp.os, hp.tape, hp.output, hp.size, hp.block⟩)).mono ?_; rintro e y1 ⟨rfl, qb⟩; have hp := hp.trans (Below.mono (show Below _ _ y1 from ⟨qb.os, qb.tape, qb.output, qb.size, qb.block⟩) hp.size); obtain ⟨x0, x1, x2, x3, x4, x5, x6, x7, x8⟩ := cells9 (show y1.heap[w1.heap.size]? = some (.cells (headC ⟨house, gen, life, seq, next, clock, sb, sn, l⟩ (.slice (some ⟨b, 0, none⟩) l.length l.length)) 43 (0, 0)) by rw [hp.block _ hwV]; exact HX2.out))))
    | fail
    all_goals
      have HB3 : Hid (Below w.heap.size w y1) := HB2.out.trans (hp.mono (by omega))
      have HA3 : Hid (y1.heap[w.heap.size]? = _) := (hp.block _ (by omega)).trans HA2.out
      have HE3 := hdhid (HE2.out.on hp)
      obtain ⟨a0, a1, a2, a3, a4, a5, a6, a7, a8⟩ := cells9 HA3.out
      have f0 := frozen_of_row y1 w.heap.size 0 _ _ HA3.out
      have f1 := frozen_of_row y1 w.heap.size 1 _ _ HA3.out
      have f2 := frozen_of_row y1 w.heap.size 2 _ _ HA3.out
      have f3 := frozen_of_row y1 w.heap.size 3 _ _ HA3.out
      have f4 := frozen_of_row y1 w.heap.size 4 _ _ HA3.out
      have f5 := frozen_of_row y1 w.heap.size 5 _ _ HA3.out
      have f6 := frozen_of_row y1 w.heap.size 6 _ _ HA3.out
      have f7 := frozen_of_row y1 w.heap.size 7 _ _ HA3.out
      have f8 := frozen_of_row y1 w.heap.size 8 _ _ HA3.out
      clear hp HA3 CK HA2 HB2 HE2 HX2
      go_wp2_with fail
      refine bodyPost_ret (v := noneV) (by simp [results, Try.results69, go_sem, a0, a1, a2, a3, a4, a5, a6, a7, a8]) rfl ⟨.inr ⟨HG0.out, rfl⟩, ?_⟩
      iterate 9 refine Below.setCell ?_ (by dsimp only; omega) _
      exact HB3.out
  have WR2 := hdhid (fun v w1 h => WR.out v w1 h rfl)
  clear WR
  cases D
  · have HG0 : Hid (getB s = false) := by show _ = _; rw [HGB.out]; rfl
    have q1 := EQ.out
    have q2 : ((⟨F.toArray⟩ : ByteArray).toList != (s.extract 0 252).toList) = true := by rw [bne, q1]; rfl
    clear HGB SG EQ
    generalize (⟨F.toArray⟩ : ByteArray) = FS at *
    go_region_held3 (fun w' => w'.cell? ⟨w1.heap.size, 0, none⟩ = some (.int .i64 house) ∧ w'.cell? ⟨w1.heap.size, 1, none⟩ = some (.int .i64 gen) ∧ w'.cell? ⟨w1.heap.size, 2, none⟩ = some (.int .i64 life) ∧ w'.cell? ⟨w1.heap.size, 3, none⟩ = some (.int .i64 seq) ∧ w'.cell? ⟨w1.heap.size, 4, none⟩ = some (.int .i64 next) ∧ w'.cell? ⟨w1.heap.size, 5, none⟩ = some (.int .i64 clock) ∧ w'.cell? ⟨w1.heap.size, 6, none⟩ = some (.int .i64 sb) ∧ w'.cell? ⟨w1.heap.size, 7, none⟩ = some (.int .i64 sn) ∧ w'.cell? ⟨w1.heap.size, 8, none⟩ = some (.slice (some ⟨b, 0, none⟩) l.length l.length)) (first | go_keep)
      (first
        | (go_at_call 47; refine (CK.out _ _ (by exact HE2.out.on ⟨hp.os, hp.tape, hp.output, hp.size, hp.block⟩)).mono ?_; rintro e y1 ⟨rfl, qb⟩; have hp := hp.trans (Below.mono (show Below _ _ y1 from ⟨qb.os, qb.tape, qb.output, qb.size, qb.block⟩) hp.size); obtain ⟨x0, x1, x2, x3, x4, x5, x6, x7, x8⟩ := cells9 (show y1.heap[w1.heap.size]? = some (.cells (headC ⟨house, gen, life, seq, next, clock, sb, sn, l⟩ (.slice (some ⟨b, 0, none⟩) l.length l.length)) 43 (0, 0)) by rw [hp.block _ hwV]; exact HX2.out))
        | (go_at_call 48; refine (WR2.out _ _ (by exact HE2.out.on ⟨hp.os, hp.tape, hp.output, hp.size, hp.block⟩)).mono ?_; rintro e y1 ⟨rfl, qb⟩; have hp := hp.trans (Below.mono (show Below _ _ y1 from ⟨qb.os, qb.tape, qb.output, qb.size, qb.block⟩) hp.size); obtain ⟨x0, x1, x2, x3, x4, x5, x6, x7, x8⟩ := cells9 (show y1.heap[w1.heap.size]? = some (.cells (headC ⟨house, gen, life, seq, next, clock, sb, sn, l⟩ (.slice (some ⟨b, 0, none⟩) l.length l.length)) 43 (0, 0)) by rw [hp.block _ hwV]; exact HX2.out)))
    have HB3 : Hid (Below w.heap.size w y1) := HB2.out.trans (hp.mono (by omega))
    have HA3 : Hid (y1.heap[w.heap.size]? = _) := (hp.block _ (by omega)).trans HA2.out
    have HE3 := hdhid (HE2.out.on hp)
    obtain ⟨a0, a1, a2, a3, a4, a5, a6, a7, a8⟩ := cells9 HA3.out
    have f0 := frozen_of_row y1 w.heap.size 0 _ _ HA3.out
    have f1 := frozen_of_row y1 w.heap.size 1 _ _ HA3.out
    have f2 := frozen_of_row y1 w.heap.size 2 _ _ HA3.out
    have f3 := frozen_of_row y1 w.heap.size 3 _ _ HA3.out
    have f4 := frozen_of_row y1 w.heap.size 4 _ _ HA3.out
    have f5 := frozen_of_row y1 w.heap.size 5 _ _ HA3.out
    have f6 := frozen_of_row y1 w.heap.size 6 _ _ HA3.out
    have f7 := frozen_of_row y1 w.heap.size 7 _ _ HA3.out
    have f8 := frozen_of_row y1 w.heap.size 8 _ _ HA3.out
    clear hp HA3 CK HA2 HB2 HE2 HX2
    go_wp2_with fail
    refine bodyPost_ret (v := noneV) (by simp [results, Try.results69, go_sem, a0, a1, a2, a3, a4, a5, a6, a7, a8]) rfl ⟨.inr ⟨HG0.out, rfl⟩, ?_⟩
    iterate 9 refine Below.setCell ?_ (by dsimp only; omega) _
    exact HB3.out
  · have HG0 : Hid (getB s = true) := by show _ = _; rw [HGB.out]; rfl
    have q1 := EQ.out
    have q2 : ((⟨F.toArray⟩ : ByteArray).toList != (s.extract 0 252).toList) = false := by rw [bne, q1]; rfl
    clear HGB EQ
    generalize (⟨F.toArray⟩ : ByteArray) = FS at *
    go_region_held3 (fun w' => w'.cell? ⟨w1.heap.size, 0, none⟩ = some (.int .i64 house) ∧ w'.cell? ⟨w1.heap.size, 1, none⟩ = some (.int .i64 gen) ∧ w'.cell? ⟨w1.heap.size, 2, none⟩ = some (.int .i64 life) ∧ w'.cell? ⟨w1.heap.size, 3, none⟩ = some (.int .i64 seq) ∧ w'.cell? ⟨w1.heap.size, 4, none⟩ = some (.int .i64 next) ∧ w'.cell? ⟨w1.heap.size, 5, none⟩ = some (.int .i64 clock) ∧ w'.cell? ⟨w1.heap.size, 6, none⟩ = some (.int .i64 sb) ∧ w'.cell? ⟨w1.heap.size, 7, none⟩ = some (.int .i64 sn) ∧ w'.cell? ⟨w1.heap.size, 8, none⟩ = some (.slice (some ⟨b, 0, none⟩) l.length l.length)) (first | go_keep)
      (first
        | (go_at_call 47; refine (CK.out _ _ (by exact HE2.out.on ⟨hp.os, hp.tape, hp.output, hp.size, hp.block⟩)).mono ?_; rintro e y1 ⟨rfl, qb⟩; have hp := hp.trans (Below.mono (show Below _ _ y1 from ⟨qb.os, qb.tape, qb.output, qb.size, qb.block⟩) hp.size); obtain ⟨x0, x1, x2, x3, x4, x5, x6, x7, x8⟩ := cells9 (show y1.heap[w1.heap.size]? = some (.cells (headC ⟨house, gen, life, seq, next, clock, sb, sn, l⟩ (.slice (some ⟨b, 0, none⟩) l.length l.length)) 43 (0, 0)) by rw [hp.block _ hwV]; exact HX2.out))
        | (go_at_call 48; refine (WR2.out _ _ (by exact HE2.out.on ⟨hp.os, hp.tape, hp.output, hp.size, hp.block⟩)).mono ?_; rintro e y1 ⟨rfl, qb⟩; have hp := hp.trans (Below.mono (show Below _ _ y1 from ⟨qb.os, qb.tape, qb.output, qb.size, qb.block⟩) hp.size); obtain ⟨x0, x1, x2, x3, x4, x5, x6, x7, x8⟩ := cells9 (show y1.heap[w1.heap.size]? = some (.cells (headC ⟨house, gen, life, seq, next, clock, sb, sn, l⟩ (.slice (some ⟨b, 0, none⟩) l.length l.length)) 43 (0, 0)) by rw [hp.block _ hwV]; exact HX2.out)))
    have HB3 : Hid (Below w.heap.size w y1) := HB2.out.trans (hp.mono (by omega))
    have HA3 : Hid (y1.heap[w.heap.size]? = _) := (hp.block _ (by omega)).trans HA2.out
    have HE3 := hdhid (HE2.out.on hp)
    obtain ⟨a0, a1, a2, a3, a4, a5, a6, a7, a8⟩ := cells9 HA3.out
    have f0 := frozen_of_row y1 w.heap.size 0 _ _ HA3.out
    have f1 := frozen_of_row y1 w.heap.size 1 _ _ HA3.out
    have f2 := frozen_of_row y1 w.heap.size 2 _ _ HA3.out
    have f3 := frozen_of_row y1 w.heap.size 3 _ _ HA3.out
    have f4 := frozen_of_row y1 w.heap.size 4 _ _ HA3.out
    have f5 := frozen_of_row y1 w.heap.size 5 _ _ HA3.out
    have f6 := frozen_of_row y1 w.heap.size 6 _ _ HA3.out
    have f7 := frozen_of_row y1 w.heap.size 7 _ _ HA3.out
    have f8 := frozen_of_row y1 w.heap.size 8 _ _ HA3.out
    clear hp HA3 CK HA2 HB2 HE2 HX2
    go_wp2_with fail
    refine (SG.out _).mono ?_
    rintro e w5 ⟨rfl, rfl⟩
    clear SG
    go_wp2_with fail
    refine bodyPost_ret (v := .tuple #[headV ⟨house, gen, life, seq, next, clock, sb, sn, l⟩ (.slice (some ⟨b, 0, none⟩) l.length l.length), .int .i64 gs, .bool true]) (by simp [results, Try.results69, go_sem, a0, a1, a2, a3, a4, a5, a6, a7, a8]) rfl ⟨.inl ⟨HG0.out, b, rfl, ?_, by omega⟩, ?_⟩
    · iterate 9 refine Ents.turned ?_ (by dsimp only; omega) _
      exact HE3.out
    · iterate 9 refine Below.setCell ?_ (by dsimp only; omega) _
      exact HB3.out
end Go.Proofs.Ytaiebhkjkeadoaa
