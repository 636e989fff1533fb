/- TableNumbers walked: houses by numbers: there and back; a bit turned; a segment that two have. -/
import Derived.Test.YtdhdjnpgebddmaaTabAwake
import Derived.Test.YtdhdjnpgebddmaaTabMade
import Derived.Test.YtdhdjnpgebddmaaTabSame
import Derived.Laws.IdiomStrings
import Derived.BigRegion
namespace Go.Proofs.Ytdhdjnpgebddmaa
open Go.RowKit Tab

theorem bytesRow_get (S : ByteArray) (gc j : Nat) (hj : j < S.data.toList.length) : (bytesRow S gc)[j]? = some (.int .u8 (S.data.toList[j].toNat : Int)) := by
  have h : j < S.data.size := by simpa using hj
  unfold bytesRow
  rw [Array.getElem?_append_left (by simpa using h)]
  simp [Array.getElem?_eq_getElem h]
theorem brow_cell {D : World} {g gc : Nat} {S : ByteArray} {fr : Nat × Nat} (h : D.heap[g]? = some (.cells (bytesRow S gc) 5 fr)) (j : Nat) (hj : j < S.data.toList.length) : D.cell? ⟨g, j, none⟩ = some (.int .u8 (S.data.toList[j].toNat : Int)) := by
  rw [← bytesRow_get S gc j hj]
  simp [World.cell?, h]
theorem bytesRow_size (S : ByteArray) (gc : Nat) : S.size ≤ (bytesRow S gc).size := by
  simp [bytesRow]
theorem brow_frozen {D : World} {g gc : Nat} {S : ByteArray} (h : D.heap[g]? = some (.cells (bytesRow S gc) 5 ((bytesRow S gc).size, (bytesRow S gc).size + 1))) (j : Nat) (hj : j < S.size) : D.frozen? ⟨g, j, none⟩ = false := by
  have := bytesRow_size S gc
  simp [World.frozen?, h]
  omega

theorem turn_bit (x : UInt8) (r : Nat) : bits .xor .u8 (x.toNat : Int) ((2 : Int) ^ r % 256) = ((x ^^^ UInt8.ofNat (2 ^ r % 256)).toNat : Int) := by
  have e : ((2 : Int) ^ r % 256) = ((2 ^ r % 256 : Nat) : Int) := by simp
  rw [e, u8_xor_nat _ _ (Sum.byte_lt x) (Nat.mod_lt _ (by decide)), UInt8.toNat_xor, Sum.toNat_low]
theorem turn_other (x : UInt8) (r : Nat) (hr : r < 8) : x ^^^ UInt8.ofNat (2 ^ r % 256) ≠ x := by
  intro h
  have h2 : x ^^^ (x ^^^ UInt8.ofNat (2 ^ r % 256)) = x ^^^ x := by rw [h]
  rw [← UInt8.xor_assoc, UInt8.xor_self, UInt8.zero_xor] at h2
  have hc : r = 0 ∨ r = 1 ∨ r = 2 ∨ r = 3 ∨ r = 4 ∨ r = 5 ∨ r = 6 ∨ r = 7 := by omega
  rcases hc with rfl | rfl | rfl | rfl | rfl | rfl | rfl | rfl <;> exact absurd h2 (by decide)

/-- Which of the first so many houses are there. -/
def whoN (l : List Ho) (i : Nat) : List Nat := (List.range i).filter fun t => decide (0 < (l.getD t Ho.z).st)
def whoI (l : List Ho) (i : Nat) : List Int := (whoN l i).map fun (t : Nat) => (t : Int)
theorem whoN_yes (l : List Ho) (i : Nat) (h : 0 < (l.getD i Ho.z).st) : whoN l (i + 1) = whoN l i ++ [i] := by
  simp only [whoN, List.range_succ, List.filter_append, List.filter_cons, decide_eq_true h, List.filter_nil]
  simp
theorem whoN_no (l : List Ho) (i : Nat) (h : ¬ 0 < (l.getD i Ho.z).st) : whoN l (i + 1) = whoN l i := by
  simp only [whoN, List.range_succ, List.filter_append, List.filter_cons, decide_eq_false h, List.filter_nil]
  simp
theorem whoI_length (l : List Ho) (i : Nat) : (whoI l i).length = (whoN l i).length := by simp [whoI]
theorem whoN_le (l : List Ho) (i : Nat) : (whoN l i).length ≤ i := by
  have := List.length_filter_le (fun t => decide (0 < (l.getD t Ho.z).st)) (List.range i)
  simpa [whoN] using this
theorem whoN_lt (l : List Ho) (i : Nat) : (whoN l i).Pairwise (· < ·) := List.pairwise_lt_range.filter _
theorem whoN_mem {l : List Ho} {i t : Nat} (h : t ∈ whoN l i) : t < i ∧ 0 < (l.getD t Ho.z).st := by
  simp only [whoN, List.mem_filter, List.mem_range, decide_eq_true_eq] at h
  exact h
theorem house_many {x : Ho} (h : houseB 65536 x = true) (h0 : 0 < x.st) : 8 ≤ x.segs.length := by
  simp only [houseB, Bool.and_eq_true] at h
  obtain ⟨_, h⟩ := h
  rw [if_neg (by omega)] at h
  simp only [Bool.and_eq_true, decide_eq_true_eq, limB, inB_iff] at h
  omega
/-- A house whose first segment is turned. -/
def turned0 (x : Ho) (y : Int) : Ho := ⟨x.st, x.gen, x.lim, x.segs.set 0 y⟩
theorem hcells_alike (l : List (Ho × Value)) (k : Nat) (hk : k < l.length) (p : Ho × Value) (h : houseCells p.1 p.2 = houseCells l[k].1 l[k].2) : hcells (l.set k p) = hcells l := by
  unfold hcells
  rw [List.flatMap_def, List.flatMap_def, List.map_set]
  congr 1
  apply List.ext_getElem
  · simp
  · intro i h1 h2
    rw [List.getElem_set]
    split
    · next e => subst e; simp [h]
    · rfl

set_option maxRecDepth 4000 in
set_option maxHeartbeats 8000000 in
theorem tableNumbers_t (xs : List Int) (v : Value) (num bit which : Int) (w : World) (hI : Ints w v xs) (hl : xs.length ≤ 9223372036854775807) :
    Calls Try.prog 4 #[v, .int .i64 num, .int .i64 bit, .int .i64 which] w fun e w' => e = .returned (.bool true) ∧ Below w.heap.size w w' := by
  obtain ⟨i0, hi0, hz0, hz1, hz2⟩ := info_parts Try.tabInfo3
  have n0 := Int.emod_nonneg num (show (1099511627776 : Int) ≠ 0 by decide)
  have n1 := Int.emod_lt_of_pos num (show (0 : Int) < 1099511627776 by decide)
  have q0 := Int.emod_nonneg bit (show (16384 : Int) ≠ 0 by decide)
  have q1 := Int.emod_lt_of_pos bit (show (0 : Int) < 16384 by decide)
  have PLn := tabhid (fun w => gplace_t num 1099511627776 w (by decide) (by decide))
  have PLq := tabhid (fun w => gplace_t bit 16384 w (by decide) (by decide))
  have MADE := tabhid (made_t xs v w hI hl)
  generalize num % 1099511627776 = n at *
  obtain ⟨q, hq⟩ : ∃ q : Nat, bit % 16384 = (q : Int) := ⟨(bit % 16384).toNat, by omega⟩
  rw [hq] at PLq q0 q1
  have hq2 : q < 16384 := by omega
  clear hq q0 q1
  obtain ⟨ad, cap, rfl, _, _⟩ := hI
  go_enter Try.func4, Try.ntmps4
  go_wp2_with fail
  refine MADE.out.mono ?_
  rintro e w1 ⟨rfl, ⟨L, hL, hmap, hM⟩, hb1⟩
  have HM1 := tabhid hM
  have HB1 := tabhid hb1
  have HMAP := tabhid hmap
  clear MADE hM hb1 hmap
  obtain ⟨LL, hLL⟩ : ∃ LL, LL = mdL xs (min xs.length 16) := ⟨_, rfl⟩
  have hput : putB n LL = true := by rw [hLL]; exact mdL_put xs _ n0 (by omega)
  have hseg : ∀ x ∈ LL, x.segs.length ≤ 40 := by rw [hLL]; exact mdL_segs xs _
  have HXX := tabhid hLL
  rw [← hLL] at HMAP
  clear hLL
  have HPUT := tabhid hput
  have HSEG := tabhid hseg
  have h16 : LL.length = 16 := checkB_len (putB_check hput)
  have H16 := tabhid h16
  clear hput hseg h16
  have HH : Hid (∀ w2, MRow w2 w.heap.size L → Houses w2 (.slice (some ⟨w.heap.size, 0, none⟩) 16 16) LL) := by
    intro w2 h2
    have := h2.row.houses (cap := 16) h2.ints
    rw [hL, HMAP.out] at this
    exact this
  go_wp2_with fail
  refine (PLn.out _).mono ?_
  rintro e w' ⟨rfl, rfl⟩
  clear PLn
  have PUT := tabhid (tput_t n LL _ w1 (HH.out w1 HM1.out) (by rw [H16.out]; decide) (fun x hx => by have := HSEG.out x hx; omega))
  have GET := tabhid (fun w1 => rget_t n LL w1 HPUT.out)
  rw [HPUT.out] at PUT
  have HTB := tabhid (putS_list HPUT.out)
  have hsz := putS_size HPUT.out
  have hsz2 : ((putS n LL).size : Int) = 2048 := by rw [hsz]; rfl
  have HSZ := tabhid hsz
  clear hsz
  have TURN : Hid (∀ (s : ByteArray) (i : Nat) (y : UInt8) (hi : i < (tbytes n LL).length), y ≠ (tbytes n LL)[i] → s.data.toList = (tbytes n LL).set i y → getB s = false) := fun s i y hi h1 h2 => get_turned HPUT.out hi h1 h2
  rw [← HTB.out] at TURN
  generalize putS n LL = S at *
  go_wp2_with fail
  refine PUT.out.mono ?_
  rintro e w2 ⟨rfl, hb2⟩
  have HM2 := tabhid (HM1.out.on hb2)
  have HB2 : Hid (Below w.heap.size w w2) := HB1.out.trans (hb2.mono HB1.out.size)
  clear hb2 HM1 HB1 PUT
  go_wp2_with fail
  refine (GET.out _).mono ?_
  rintro e w3 ⟨⟨gad, gcap, rfl, hh⟩, hb3⟩
  have HM3 := tabhid (HM2.out.on hb3)
  have HB3 : Hid (Below w.heap.size w w3) := HB2.out.trans (hb3.mono HB2.out.size)
  have SAME := tabhid (same_t LL _ _ w3 hh (HH.out w3 HM3.out) (by rw [H16.out]; decide) (fun x hx => by have := HSEG.out x hx; omega))
  clear hb3 HM2 HB2 GET hh
  go_wp2_with fail
  refine SAME.out.mono ?_
  rintro e w4 ⟨rfl, hb4⟩
  have HM4 := tabhid (HM3.out.on hb4)
  have HB4 : Hid (Below w.heap.size w w4) := HB3.out.trans (hb4.mono HB3.out.size)
  clear hb4 HM3 HB3 SAME
  have hcv := run_bytes_of_string (P := Try.prog) w4 9 39 5 S Try.underlying9 Try.underlying39 Try.underlying5
  generalize grownCap w4 S.size 0 5 = gc at *
  obtain ⟨D, hD⟩ : ∃ D, D = w4.drew.alloc (.cells (bytesRow S gc) 5 ((bytesRow S gc).size, (bytesRow S gc).size + 1)) := ⟨_, rfl⟩
  rw [← hD] at hcv
  have HDB : Hid (Below w4.heap.size w4 D) := by rw [hD]; exact ((Below.refl _ w4).drew).alloc (Nat.le_refl _) _
  have HDR : Hid (D.heap[w4.heap.size]? = some (.cells (bytesRow S gc) 5 ((bytesRow S gc).size, (bytesRow S gc).size + 1))) := by
    rw [hD]
    exact heap_alloc_new _ _
  clear hD
  have HM5 := tabhid (HM4.out.on HDB.out)
  have HB5 : Hid (Below w.heap.size w D) := HB4.out.trans (HDB.out.mono HB4.out.size)
  rw [HSZ.out] at hcv
  go_wp2_with fail
  refine (PLq.out _).mono ?_
  rintro e w' ⟨rfl, rfl⟩
  clear PLq
  have hql : q / 8 < S.data.toList.length := by
    have := HSZ.out
    have e : S.data.toList.length = S.size := by simp
    omega
  have hx := brow_cell HDR.out (q / 8) hql
  have hxf := brow_frozen HDR.out (q / 8) (by have := HSZ.out; omega)
  obtain ⟨x, hxx⟩ : ∃ x : UInt8, x = S.data.toList[q / 8] := ⟨_, rfl⟩
  rw [← hxx] at hx
  have HXE := tabhid hxx
  clear hxx
  go_wp2_with fail
  rw [turn_bit]
  obtain ⟨y, hy⟩ : ∃ y : UInt8, y = x ^^^ UInt8.ofNat (2 ^ (q % 8) % 256) := ⟨_, rfl⟩
  rw [← hy]
  have hyx : y ≠ x := by rw [hy]; exact turn_other x _ (Nat.mod_lt _ (by decide))
  clear hy
  generalize hE : World.setCell _ _ _ = E
  have HEB : Hid (Below w4.heap.size w4 E) := by rw [← hE]; exact HDB.out.setCell (Nat.le_refl _) _
  have HME := tabhid (HM4.out.on HEB.out)
  have HBE : Hid (Below w.heap.size w E) := HB4.out.trans (HEB.out.mono HB4.out.size)
  have hlen : (S.data.toList.set (q / 8) y).length = 2048 := by
    have := HSZ.out
    rw [List.length_set]
    simpa using this
  have hcb := run_convert_bytes_back (P := Try.prog) E 39 9 5 ⟨w4.heap.size, 0, none⟩ gc (S.data.toList.set (q / 8) y) Try.underlying39 Try.underlying5 Try.underlying9 (fun j hj => by
    have hj2 : j < S.data.toList.length := by rw [List.length_set] at hj; exact hj
    rw [addr_plain, Nat.zero_add, ← hE, List.getElem_set]
    by_cases hjq : q / 8 = j
    · subst hjq
      rw [if_pos rfl]
      exact World.cell?_setCell_same' _ _ _ (by rw [hx]; rfl)
    · rw [if_neg hjq]
      exact (World.cell?_setCell_other _ _ _ _ (by intro h; cases h; exact hjq rfl)).trans (brow_cell HDR.out j hj2))
  rw [hlen] at hcb
  have hno : getB ⟨(S.data.toList.set (q / 8) y).toArray⟩ = false := TURN.out _ (q / 8) y hql (by rw [← HXE.out]; exact hyx) (by simp)
  generalize (⟨(S.data.toList.set (q / 8) y).toArray⟩ : ByteArray) = S2 at *
  have GNO := tabhid (fun w6 => nget_t S2 w6 hno)
  have hno2 : getB (S ++ ⟨#[0]⟩) = false := get_long (by
    rw [ByteArray.size_append, HSZ.out]
    decide)
  have GNO2 := tabhid (fun w6 => nget_t (S ++ ⟨#[0]⟩) w6 hno2)
  clear hE hx hxf hyx hno hno2 HXE TURN HDR HDB HM4 HB4 HM5 HB5 HEB hql hlen hcv
  rw [hcb]
  clear hcb
  go_wp2_with fail
  refine (GNO.out _).mono ?_
  rintro e w5 ⟨⟨v5, rfl⟩, hb5⟩
  have HM6 := tabhid (HME.out.on hb5)
  have HB6 : Hid (Below w.heap.size w w5) := HBE.out.trans (hb5.mono HBE.out.size)
  clear hb5 HME HBE GNO
  go_wp2_with fail
  refine (GNO2.out _).mono ?_
  rintro e w6 ⟨⟨v6, rfl⟩, hb6⟩
  have HM7 := tabhid (HM6.out.on hb6)
  have HB7 : Hid (Below w.heap.size w w6) := HB6.out.trans (hb6.mono HB6.out.size)
  clear hb6 HM6 HB6 GNO2
  have hB6 : w.heap.size < w6.heap.size := HM7.out.row.lt
  have HLI : Hid (∀ i (hi : i < L.length) (h2 : i < LL.length), L[i].1 = LL[i]) := by
    intro i hi h2
    have : (L.map (·.1))[i]'(by simpa using hi) = LL[i] := by congr 1
    simpa using this
  have HHO : Hid (∀ x ∈ LL, houseB 65536 x = true) := by
    have := putB_check HPUT.out
    simp only [checkB, Bool.and_eq_true, List.all_eq_true] at this
    exact this.1.2
  go_wp2_with fail
  go_loopw [24, 25] (fun wv c wr => ∃ (i : Nat), i ≤ 16 ∧ c = .int .i64 i ∧ Hid (wr.ownsRow w6.heap.size 3 1 wv (whoN LL i).length (icells (whoI LL i))) ∧ Hid (Below w6.heap.size w6 wr)) (fun _ c _ => 16 - (intOf c).toNat)
  case atStart => exact ⟨0, by omega, rfl, ⟨rfl, .inl ⟨rfl, rfl⟩⟩, Below.refl _ _⟩
  case round =>
    obtain ⟨i, hi, rfl, HO, HBW⟩ := hrel
    have HMW := tabhid (HM7.out.on HBW.out)
    have hB7 : w6.heap.size ≤ wr.heap.size := HBW.out.size
    by_cases hlt : i < 16
    · have hiL : i < L.length := by omega
      have hiLL : i < LL.length := by rw [H16.out]; exact hlt
      have hst : wr.cell? ⟨w.heap.size, i * 10, none⟩ = some (.int .i64 (LL.getD i Ho.z).st) := by
        have := HMW.out.row.cell i 0 hiL (by decide)
        rw [Nat.add_zero] at this
        have e : LL.getD i Ho.z = LL[i] := by simp [List.getD, hiLL]
        rw [this, e, ← HLI.out i hiL hiLL]
        rfl
      have hwl := whoN_le LL i
      have HY := tabhid (whoN_yes LL i)
      have HNO := tabhid (whoN_no LL i)
      generalize (LL.getD i Ho.z).st = st at *
      by_cases hs : 0 < st
      · have HW2 : Hid (icells (whoI LL (i + 1)) = icells (whoI LL i) ++ [.int .i64 (i : Int)]) := by
          show _ = _
          rw [whoI, HY.out hs, List.map_append, icells_append]
          rfl
        have HW3 : Hid ((whoN LL (i + 1)).length = (whoN LL i).length + 1) := by
          show _ = _
          rw [HY.out hs]
          simp
        have hwl2 : (whoN LL i).length ≤ 16 := by omega
        generalize (whoN LL i).length = wn at *
        generalize icells (whoI LL i) = wc at *
        clear HY HNO
        go_wp2_with (first | (refine wpList_append_lies _ rfl _ _ 36 rfl w6.heap.size 3 i0 _ 1 8 Try.underlying36 hi0 hz0 hz1 hz2 rfl (by decide) u24 wn wc rfl ?_ ⟨wr.heap.size, 0, none⟩ 1 1 [.int .i64 (i : Int)] rfl rfl ?_ (by simp [Value.oneCell']) (by decide) (by unfold maxLen; omega) (by omega) ?_ (wr.heap.size + 1) (by simp) ?_) | fail)
        · exact ownsRow_on HO.out ((Below.refl _ _).alloc (Nat.le_refl _) _)
        · exact World.news_of_block (cs := #[.int .i64 (i : Int)]) (t := 3) (fr := (0, 0)) (heap_alloc_new wr _)
        · simp; omega
        intro g cap7 w7 hown7 hgrow7 hat7 hlt7
        have HO7 : Hid (w7.ownsRow w6.heap.size 3 1 (.slice (some ⟨g, 0, none⟩) (wn + 1) cap7) (whoN LL (i + 1)).length (icells (whoI LL (i + 1)))) := by
          show World.ownsRow _ _ _ _ _ _ _
          rw [HW2.out, HW3.out]
          exact hown7
        have HB8 : Hid (Below w6.heap.size w6 w7) := (HBW.out.alloc HBW.out.size _).grown hgrow7 (by simp; omega) (fun q hq => (own_lt HO.out hq).1)
        clear hown7 hgrow7 hat7 HO HBW HMW hst HW2 HW3
        go_wp2_with fail
        exact ⟨⟨i + 1, by omega, by go_num, HO7, HB8⟩, by simp [intOf]; omega⟩
      · have HO7 : Hid (wr.ownsRow w6.heap.size 3 1 u24 (whoN LL (i + 1)).length (icells (whoI LL (i + 1)))) := by
          show World.ownsRow _ _ _ _ _ _ _
          rw [whoI, HNO.out hs]
          exact HO.out
        have hs2 : st ≤ 0 := by omega
        clear HY HNO hs
        go_wp2_with fail
        exact ⟨⟨i + 1, by omega, by go_num, HO7, HBW⟩, by simp [intOf]; omega⟩
    · have hi16 : i = 16 := by omega
      subst hi16
      have hwl := whoN_le LL 16
      obtain ⟨WN, hWN⟩ : ∃ W, W = whoN LL 16 := ⟨_, rfl⟩
      have hlt3 : WN.Pairwise (· < ·) := by rw [hWN]; exact whoN_lt LL 16
      have hmem : ∀ t ∈ WN, t < 16 ∧ 0 < (LL.getD t Ho.z).st := fun t ht => whoN_mem (by rw [← hWN]; exact ht)
      rw [whoI, ← hWN] at HO
      rw [← hWN] at hwl
      clear hWN
      have HMEM := tabhid hmem
      have HLT3 := tabhid hlt3
      clear hmem hlt3
      have HBN : Hid (Below w.heap.size w wr) := HB7.out.trans (HBW.out.mono HB7.out.size)
      obtain ⟨ho1, ho2⟩ := HO.out
      rcases ho2 with ⟨rfl, hz⟩ | ⟨wg, wcap, wcur, rfl, hwb, hwg, hwle, hwmx, hwcs, hwtk⟩
      · go_wp2_with fail
        refine (awake_t _).mono ?_
        rintro e w8 ⟨rfl, hb8⟩
        have HB9 : Hid (Below w.heap.size w w8) := HBN.out.trans (hb8.mono HBN.out.size)
        clear hb8
        go_wp2_with fail
        go_ret
        exact ⟨rfl, HB9.out⟩
      · have hwc : ∀ t (ht : t < WN.length), wr.cell? ⟨wg, t, none⟩ = some (.int .i64 ((WN[t] : Nat) : Int)) := by
          intro t ht
          rw [cell_of_row wr wg _ wcur 3 _ hwg]
          have e : (icells (WN.map fun (t : Nat) => (t : Int)))[t]? = some (.int .i64 ((WN[t] : Nat) : Int)) := by simp [icells, ht]
          rw [← e, ← hwtk, Nat.mul_one, List.getElem?_take_of_lt ht, Array.getElem?_toList]
        have HWC := tabhid hwc
        clear hwc hwtk hwcs hwmx hwle ho1 HO hwg
        by_cases h2 : WN.length < 2
        · go_wp2_with fail
          refine (awake_t _).mono ?_
          rintro e w8 ⟨rfl, hb8⟩
          have HB9 : Hid (Below w.heap.size w w8) := HBN.out.trans (hb8.mono HBN.out.size)
          clear hb8
          go_wp2_with fail
          go_ret
          exact ⟨rfl, HB9.out⟩
        · obtain ⟨c, hc⟩ : ∃ c : Nat, WN.length = c + 2 := ⟨WN.length - 2, by omega⟩
          have u0 := Int.emod_nonneg which (show ((c : Int) + 1) ≠ 0 by omega)
          have u1 := Int.emod_lt_of_pos which (show (0 : Int) < (c : Int) + 1 by omega)
          have PLu := tabhid (fun w => gplace_t which ((c : Int) + 1) w (by omega) (by omega))
          obtain ⟨u, hu⟩ : ∃ u : Nat, which % ((c : Int) + 1) = (u : Int) := ⟨(which % ((c : Int) + 1)).toNat, by omega⟩
          rw [hu] at PLu u0 u1
          clear hu
          have hul : u + 1 < WN.length := by omega
          have cu := HWC.out u (by omega)
          have cu1 := HWC.out (u + 1) hul
          have hqp : WN[u] < WN[u + 1] := List.pairwise_iff_getElem.1 HLT3.out u (u + 1) (by omega) hul (by omega)
          have hq16 := HMEM.out WN[u] (List.getElem_mem _)
          have hp16 := HMEM.out WN[u + 1] (List.getElem_mem _)
          generalize WN[u] = qq at *
          generalize WN[u + 1] = pp at *
          have hpL : pp < L.length := by omega
          have hqL : qq < L.length := by omega
          have hpLL : pp < LL.length := by rw [H16.out]; omega
          have hqLL : qq < LL.length := by rw [H16.out]; omega
          have hpn : 8 ≤ L[pp].1.segs.length := by
            rw [HLI.out pp hpL hpLL]
            refine house_many (HHO.out _ (List.getElem_mem _)) ?_
            have := hp16.2
            rwa [show LL.getD pp Ho.z = LL[pp] by simp [List.getD, hpLL]] at this
          have hqn : 8 ≤ L[qq].1.segs.length := by
            rw [HLI.out qq hqL hqLL]
            refine house_many (HHO.out _ (List.getElem_mem _)) ?_
            have := hq16.2
            rwa [show LL.getD qq Ho.z = LL[qq] by simp [List.getD, hqLL]] at this
          have hpI := ints_owns (HMW.out.own _ (List.getElem_mem hpL))
          have hqI := ints_owns (HMW.out.own _ (List.getElem_mem hqL))
          have hap := HMW.out.apart qq pp hqL hpL (by omega)
          have hall := HMW.out.apart
          obtain ⟨_, op2⟩ := HMW.out.own _ (List.getElem_mem hpL)
          obtain ⟨_, oq2⟩ := HMW.out.own _ (List.getElem_mem hqL)
          rcases op2 with ⟨_, hpz⟩ | ⟨gp, pcap, pcur, hpv, hpb, hpg, _, _, _, hptk⟩
          · exact absurd hpz (by omega)
          rcases oq2 with ⟨_, hqz⟩ | ⟨gq, qcap, qcur, hqv, hqb, hqg, _, _, _, hqtk⟩
          · exact absurd hqz (by omega)
          have hne : gp ≠ gq := fun e => hap gq (by rw [hqv]; rfl) (by rw [hpv, e]; rfl)
          obtain ⟨m, hm⟩ : ∃ m, L[qq].1.segs.length = m + 1 := ⟨L[qq].1.segs.length - 1, by omega⟩
          have hml : m < L[qq].1.segs.length := by omega
          have hm40 : m ≤ 40 := by
            have : L[qq].1.segs.length ≤ 40 := by rw [HLI.out qq hqL hqLL]; exact HSEG.out _ (List.getElem_mem _)
            omega
          have c9p : wr.cell? ⟨w.heap.size, pp * 10 + 9, none⟩ = some (.slice (some ⟨gp, 0, none⟩) L[pp].1.segs.length pcap) := by
            rw [HMW.out.row.cell pp 9 hpL (by decide), ← hpv]
            rfl
          have c9q : wr.cell? ⟨w.heap.size, qq * 10 + 9, none⟩ = some (.slice (some ⟨gq, 0, none⟩) (m + 1) qcap) := by
            rw [HMW.out.row.cell qq 9 hqL (by decide), ← hm, ← hqv]
            rfl
          have cl : wr.cell? ⟨gq, m, none⟩ = some (.int .i64 L[qq].1.segs[m]) := by
            rw [cell_of_row wr gq _ qcur 3 _ hqg, ← icells_get _ m hml, ← hqtk, Nat.mul_one, List.getElem?_take_of_lt hml, Array.getElem?_toList]
          have cf : wr.cell? ⟨gp, 0, none⟩ = some (.int .i64 L[pp].1.segs[0]) := by
            rw [cell_of_row wr gp _ pcur 3 _ hpg, ← icells_get _ 0 (by omega), ← hptk, Nat.mul_one, List.getElem?_take_of_lt (by omega), Array.getElem?_toList]
          have ff : wr.frozen? ⟨gp, 0, none⟩ = false := frozen_of_row wr gp 0 pcur 3 hpg
          obtain ⟨y2, hy2⟩ : ∃ y2, y2 = L[qq].1.segs[m] := ⟨_, rfl⟩
          rw [← hy2] at cl
          obtain ⟨U, hU⟩ : ∃ U, U = (wr.setCell ⟨gp, 0, none⟩ (.int .i64 y2)).drew := ⟨_, rfl⟩
          have hUo : ∀ g, g ≠ gp → U.heap[g]? = wr.heap[g]? := fun g hg => by
            rw [hU]
            exact Below.heap_setCell _ _ _ _ hg
          have HRU : Hid (HRow U w.heap.size (L.set pp (turned0 L[pp].1 y2, L[pp].2))) := by
            show _ = _
            rw [hUo _ (by omega), hcells_alike L pp hpL (turned0 L[pp].1 y2, L[pp].2) rfl]
            exact HMW.out.row
          have HIU : Hid (∀ p ∈ L.set pp (turned0 L[pp].1 y2, L[pp].2), Ints U p.2 p.1.segs) := by
            intro p hp
            rcases mem_set_getElem hp with ⟨t, ht, hne2, rfl⟩ | rfl
            · refine ints_owns (own_same (HMW.out.own _ (List.getElem_mem ht)) fun g hg => hUo g ?_)
              intro e
              subst e
              exact hall pp t hpL ht (Ne.symm hne2) g (by rw [hpv]; rfl) hg
            · show Ints U L[pp].2 (L[pp].1.segs.set 0 y2)
              rw [hpv]
              have hUg : U.heap[gp]? = some (.cells (pcur.set! 0 (.int .i64 y2)) 3 (0, 0)) := by
                rw [hU]
                exact heap_setCell_same wr gp 0 pcur 3 _ hpg
              refine ⟨some ⟨gp, 0, none⟩, pcap, by rw [List.length_set], (fun h => by cases h), fun _ => ⟨gp, 0, rfl, (Array.getElem?_eq_some_iff.1 hUg).1, fun i h => ?_⟩⟩
              have hi : i < L[pp].1.segs.length := by rw [List.length_set] at h; exact h
              have hpc : ∀ j (hj : j < L[pp].1.segs.length), pcur[j]? = some (.int .i64 L[pp].1.segs[j]) := by
                intro j hj
                rw [← icells_get _ j hj, ← hptk, Nat.mul_one, List.getElem?_take_of_lt hj, Array.getElem?_toList]
              rw [cell_of_row U gp _ _ 3 _ hUg, Nat.zero_add, List.getElem_set, Array.set!_eq_setIfInBounds]
              by_cases h0 : 0 = i
              · subst h0
                rw [if_pos rfl, Array.getElem?_setIfInBounds_self_of_lt (Array.getElem?_eq_some_iff.1 (hpc 0 hi)).1]
              · rw [if_neg h0, Array.getElem?_setIfInBounds_ne h0, hpc i hi]
          have HBU : Hid (Below w.heap.size w U) := by rw [hU]; exact (HBN.out.setCell (show w.heap.size ≤ gp by omega) _).drew
          have HSH : Hid (∀ k, checkB k ((L.set pp (turned0 L[pp].1 y2, L[pp].2)).map (·.1)) = false) := by
            intro k
            refine shared_no (i := qq) (j := pp) (x := y2) (by simpa using hqL) (by simpa using hpL) hqp ?_ ?_
            · rw [List.getElem_map, List.getElem_set, if_neg (by omega), hy2]
              exact List.getElem_mem _
            · rw [List.getElem_map, List.getElem_set_self]
              show y2 ∈ L[pp].1.segs.set 0 y2
              exact List.mem_set (show 0 < L[pp].1.segs.length by omega) y2
          have HUS : Hid (∀ p ∈ L.set pp (turned0 L[pp].1 y2, L[pp].2), p.1.segs.length ≤ 1000) := by
            have hle : ∀ t (ht : t < L.length), L[t].1.segs.length ≤ 40 := fun t ht => by
              rw [HLI.out t ht (by rw [H16.out]; omega)]
              exact HSEG.out _ (List.getElem_mem _)
            intro p hp
            rcases mem_set_getElem hp with ⟨t, ht, hne2, rfl⟩ | rfl
            · have := hle t ht
              omega
            · show (L[pp].1.segs.set 0 y2).length ≤ 1000
              rw [List.length_set]
              have := hle pp hpL
              omega
          have HL5 : Hid ((L.set pp (turned0 L[pp].1 y2, L[pp].2)).length = 16) := by
            show _ = _
            rw [List.length_set]
            exact hL
          have HU := tabhid hU
          generalize L.set pp (turned0 L[pp].1 y2, L[pp].2) = L2 at *
          obtain ⟨y0, hy0⟩ : ∃ y0, y0 = L[pp].1.segs[0] := ⟨_, rfl⟩
          rw [← hy0] at cf
          obtain ⟨np, hnpe⟩ : ∃ np, np = L[pp].1.segs.length := ⟨_, rfl⟩
          rw [← hnpe] at c9p
          have hnp : 0 < np := by omega
          clear hy0 hnpe
          have gpne : ¬ gp = gq := hne
          clear hU hUo hpI hqI hap hall hpv hqv hptk hqtk hpg hqg hm hml hy2 HMW HLI HHO HMEM HLT3 HWC
          go_wp2_with fail
          rw [show ((c : Int) + 2 - 1) = (c : Int) + 1 by omega]
          refine (PLu.out _).mono ?_
          rintro e w' ⟨rfl, rfl⟩
          clear PLu
          go_wp2_with fail
          go_region
          rw [← HU.out]
          go_wp2_with fail
          refine (rput_t n w.heap.size L2 U HRU.out HIU.out HL5.out HUS.out).mono ?_
          rintro e w8 ⟨rfl, hb8⟩
          rw [put_check (HSH.out 65536)]
          have HR8 := tabhid (HRU.out.on hb8)
          have HI8 : Hid (∀ p ∈ L2, Ints w8 p.2 p.1.segs) := fun p hp => (HIU.out p hp).on hb8
          have HB8 : Hid (Below w.heap.size w w8) := HBU.out.trans (hb8.mono HBU.out.size)
          clear hb8 HRU HIU HBU HU c9p c9q cl cf ff cu cu1
          go_wp2_with fail
          refine (rcheck_t 65536 w.heap.size L2 w8 HR8.out HI8.out HL5.out HUS.out (by decide)).mono ?_
          rintro e w9 ⟨rfl, hb9⟩
          rw [HSH.out 65536]
          have HB9 : Hid (Below w.heap.size w w9) := HB8.out.trans (hb9.mono HB8.out.size)
          clear hb9 HB8 HR8 HI8
          go_wp2_with fail
          refine (awake_t _).mono ?_
          rintro e wa ⟨rfl, hba⟩
          have HBa : Hid (Below w.heap.size w wa) := HB9.out.trans (hba.mono HB9.out.size)
          clear hba HB9
          go_wp2_with fail
          go_ret
          exact ⟨rfl, HBa.out⟩
end Go.Proofs.Ytdhdjnpgebddmaa
