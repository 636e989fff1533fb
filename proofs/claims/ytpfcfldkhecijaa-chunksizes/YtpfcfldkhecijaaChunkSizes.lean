/- ChunkSizes walked: as many blocks as the list says, no more, no fewer, each a whole one. -/
import Derived.Test.YtpfcfldkhecijaaChunkMade
import Derived.Test.YtpfcfldkhecijaaPlace
import Derived.Deep.RegionWith
namespace Go.Proofs.Ytpfcfldkhecijaa
open Go.RowKit Rec Hdp Chk

def sizE (k : Nat) : List En := (List.range k).map fun (i : Nat) => ⟨3, 1 + (i : Int), 0⟩
def sizX (k : Nat) : Hd := ⟨1, 1, 1, 1, 0, 0, 0, 0, sizE k⟩
def sizK (m : Nat) : List ByteArray := (List.range m).map Fill
theorem sizE_length (k : Nat) : (sizE k).length = k := by simp [sizE]
theorem sizK_length (k : Nat) : (sizK k).length = k := by simp [sizK]
theorem sizE_succ (k : Nat) : sizE (k + 1) = sizE k ++ [⟨3, 1 + (k : Int), 0⟩] := by simp [sizE, List.range_succ]
theorem sizK_succ (k : Nat) : sizK (k + 1) = sizK k ++ [Fill k] := by simp [sizK, List.range_succ]
theorem sizK_all (k : Nat) : allB (sizK k) = true := by
  rw [allB_iff]
  intro b hb
  obtain ⟨v, _, rfl⟩ := List.mem_map.1 hb
  exact Fill_size _
theorem sizX_ok {k : Nat} (h : k ≤ 24) : okB (sizX k) = true := by
  unfold okB
  have : (sizX k).list.all enB = true := by
    rw [List.all_eq_true]
    intro e he
    obtain ⟨v, hv, rfl⟩ := List.mem_map.1 he
    rw [List.mem_range] at hv
    unfold enB partB
    simp only [Bool.and_eq_true, inB_iff]
    refine ⟨by omega, rfl⟩
  rw [this, show (sizX k).list.length = k from sizE_length k, decide_eq_true h]
  rfl
theorem siz_is {k m : Nat} (h : k ≤ 24) : makeB (sizX k) (sizK m) = decide (m = k) := by
  rw [makeB_is (sizK_all m) (sizX_ok h), sizK_length, show (sizX k).list.length = k from sizE_length k]
/-- What does not begin as a head does is no chunk. -/
theorem parB_first {s : ByteArray} (h : s.data.toList[0]? ≠ some 66) : parB s = false := by
  refine parB_get ?_
  cases hg : getB s
  · rfl
  · unfold getB at hg
    rw [Bool.and_eq_true, Bool.and_eq_true, decide_eq_true_eq, decide_eq_true_eq] at hg
    exfalso
    apply h
    have e1 : (s.data.toList.take 252)[0]? = s.data.toList[0]? := List.getElem?_take_of_lt (by decide)
    rw [← e1, ← hg.2.2]
    rfl
theorem siz_behind {k : Nat} (h : k ≤ 24) (h0 : 0 < k) : parB ((makeS (sizX k) (sizK k)).extract 256 (makeS (sizX k) (sizK k)).size) = false := by
  have hm : makeB (sizX k) (sizK k) = true := by rw [siz_is h]; simp
  obtain ⟨h1, h2, h3, h4, h5⟩ := makeB_parts hm
  have hF := front_length (okB_len h3)
  have hl4 := Bin.low_length 4 (sumL (front (sizX k)) (joinL (sizK k)) : Nat)
  refine parB_first ?_
  have e : ((makeS (sizX k) (sizK k)).extract 256 (makeS (sizX k) (sizK k)).size).data.toList = joinL (sizK k) := by
    rw [extract_list, List.take_of_length_le (by rw [← size_list]; exact Nat.le_refl _), makeS_list hm]
    exact List.drop_left' (by rw [List.length_append]; omega)
  rw [e]
  have e2 : sizK k = Fill 0 :: (List.range (k - 1)).map (fun i => Fill (i + 1)) := by
    obtain ⟨j, rfl⟩ : ∃ j, k = j + 1 := ⟨k - 1, by omega⟩
    rw [sizK, List.range_succ_eq_map, List.map_cons, List.map_map]
    rfl
  rw [e2]
  show ((Fill 0).data.toList ++ _)[0]? ≠ _
  rw [List.getElem?_append_left (by rw [← size_list, Fill_size]; decide), Fill_list]
  decide
/-- Blocks, one of which is a byte shorter. -/
theorem short_no {x : Hd} {l : List ByteArray} {j : Nat} (hj : j < l.length) {b : ByteArray} (hb : b.size ≠ 256) : makeB x (l.set j b) = false := by
  refine makeB_all (allB_no (i := j) (by rw [List.length_set]; exact hj) ?_)
  rw [List.getElem_set_self]
  exact hb

theorem make_siz (k : Nat) (l : List ByteArray) (ad : Option Addr) (n cap : Nat) (bv : Value) (w : World) (hE : Ents w (.slice ad n cap) (sizE k)) (hT : Txts w bv l) (hl : l.length ≤ 1000000) :
    Calls Try.prog 9 #[.agg #[.int .i64 1, .int .i64 1, .int .i64 1, .int .i64 1, .int .i64 0, .int .i64 0, .int .i64 0, .int .i64 0, .slice ad n cap], bv] w fun e w' => e = .returned (.tuple #[.string (makeS (sizX k) l), .bool (makeB (sizX k) l)]) ∧ Below w.heap.size w w' := make_t (sizX k) (.slice ad n cap) bv l w hE hT hl
theorem none_siz (s : ByteArray) (w : World) (h : parB s = false) (hl : s.size ≤ 100000) :
    Calls Try.prog 11 #[.string s] w fun e w' => ∃ ad cap bad bcap, e = .returned (.tuple #[.agg #[.int .i64 0, .int .i64 0, .int .i64 0, .int .i64 0, .int .i64 0, .int .i64 0, .int .i64 0, .int .i64 0, .slice ad 0 cap], .slice bad 0 bcap, .bool false]) ∧ Below w.heap.size w w' := parsed_no s w h hl

/-- Behind k rounds of the list's loop. -/
def SizAt (k : Nat) (w wr : World) : Prop :=
  ∃ v, wr.heap[w.heap.size]? = some (.cells (headC ⟨1, 1, 1, 1, 0, 0, 0, 0, []⟩ v) 24 (0, 0)) ∧ EOwn wr (w.heap.size + 1) v (sizE k) ∧ Below w.heap.size w wr
/-- Behind j rounds of the blocks' loop. -/
def SizTo (k j : Nat) (v bv : Value) (w wr : World) : Prop :=
  wr.heap[w.heap.size]? = some (.cells (headC ⟨1, 1, 1, 1, 0, 0, 0, 0, []⟩ v) 24 (0, 0)) ∧ EOwn wr (w.heap.size + 1) v (sizE k) ∧ TOwn wr (w.heap.size + 1) bv (sizK j) ∧ Below w.heap.size w wr

set_option maxRecDepth 20000 in
set_option maxHeartbeats 8000000 in
theorem chunkSizes_t (n m how : Int) (w : World) :
    Calls Try.prog 5 #[.int .i64 n, .int .i64 m, .int .i64 how] w fun e w' => e = .returned (.bool true) ∧ Below w.heap.size w w' := by
  have AW := hdhid awake_t
  have FI := hdhid (fun v w (h : v ≤ 100000) => filled_t v w h)
  have PLn := hdhid (fun w => gplace_t n 25 w (by decide) (by decide))
  have PLm := hdhid (fun w => gplace_t m 25 w (by decide) (by decide))
  have n0 := Int.emod_nonneg n (show (25 : Int) ≠ 0 by decide)
  have n1 := Int.emod_lt_of_pos n (show (0 : Int) < 25 by decide)
  have m0 := Int.emod_nonneg m (show (25 : Int) ≠ 0 by decide)
  have m1 := Int.emod_lt_of_pos m (show (0 : Int) < 25 by decide)
  obtain ⟨k, hk⟩ : ∃ k : Nat, n % 25 = (k : Int) := ⟨(n % 25).toNat, by omega⟩
  obtain ⟨q, hq⟩ : ∃ q : Nat, m % 25 = (q : Int) := ⟨(m % 25).toNat, by omega⟩
  rw [hk] at PLn n0 n1
  rw [hq] at PLm m0 m1
  have hk24 : k ≤ 24 := by omega
  have hq24 : q ≤ 24 := by omega
  clear hk hq n0 n1 m0 m1
  go_enter Try.func5, Try.ntmps5
  go_wp2_with fail
  refine (PLn.out _).mono ?_
  rintro e w' ⟨rfl, rfl⟩
  go_wp2_with fail
  refine (PLm.out _).mono ?_
  rintro e w' ⟨rfl, rfl⟩
  clear PLn PLm
  go_wp2_with fail
  go_loopw [10] (fun c wr => ∃ i : Nat, i ≤ k ∧ c = .int .i64 i ∧ Hid (SizAt i w wr)) (fun c _ => k - (intOf c).toNat)
  case atStart => exact ⟨0, by omega, rfl, .slice none 0 0, heap_alloc_new _ _, EOwn.nil _ _, (Below.refl _ w).alloc (Nat.le_refl _) _⟩
  case round =>
    obtain ⟨i, hi, rfl, HM⟩ := hrel
    by_cases h1 : i < k
    · obtain ⟨lv, hX, hE, hB⟩ := HM.out
      have HX := hdhid hX
      have HE := hdhid hE
      have HB := hdhid hB
      have hlt1 : w.heap.size < wr.heap.size := (Array.getElem?_eq_some_iff.1 hX).1
      have hbs := hB.size
      have hEl := sizE_length i
      have HES := hdhid (sizE_succ i)
      clear hX hE hB HM
      generalize sizE i = Ek at *
      have dV : wr.cell? ⟨w.heap.size, 8, none⟩ = some lv := (cells9 HX.out).2.2.2.2.2.2.2.2
      have hv1 : lv.ownBlock ≠ some w.heap.size := HE.out.block _ (by omega)
      go_wp2_with (first
        | (refine wpList_append_ent rfl _ _ rfl (w.heap.size + 1) _ Ek rfl (HE.out.on ((Below.refl _ _).alloc (by simp) _)) wr.heap.size ⟨3, 1 + (i : Int), 0⟩ rfl 43 (0, 0) (heap_alloc_new _ _) ?c2 ?c3 ?_)
        | fail)
      case c2 => omega
      case c3 => simp; omega
      intro lv2 w3 hE3 hb3 hle3 hg3
      have hgA : wr.grownBy w3 lv.ownBlock := ⟨hg3.os, hg3.tape, hg3.output, Nat.le_trans (by simp) hg3.size, fun q hq hn => (hg3.block q (by simp; omega) hn).trans (heap_alloc_old _ _ hq)⟩
      have HX3 : Hid (w3.heap[w.heap.size]? = some (.cells (headC ⟨1, 1, 1, 1, 0, 0, 0, 0, []⟩ lv) 24 (0, 0))) := (hgA.block _ hlt1 (Ne.symm hv1)).trans HX.out
      have HB3 : Hid (Below w.heap.size w w3) := HB.out.grown hgA (by omega) (fun q hq => by have := (HE.out.lt q hq).1; omega)
      rw [← HES.out] at hE3
      obtain ⟨ad2, cap2, rfl⟩ := hE3.slice
      rw [sizE_length] at hE3 ⊢
      have HE3 := hdhid hE3
      have aV : w3.cell? ⟨w.heap.size, 8, none⟩ = some lv := (cells9 HX3.out).2.2.2.2.2.2.2.2
      have bV : w3.frozen? ⟨w.heap.size, 8, none⟩ = false := frozen_of_row w3 _ _ _ _ HX3.out
      have HM2 : Hid (SizAt (i + 1) w (w3.setCell ⟨w.heap.size, 8, none⟩ (.slice ad2 (i + 1) cap2))) :=
        ⟨.slice ad2 (i + 1) cap2, heap_setCell_same _ _ 8 _ _ _ HX3.out, HE3.out.other (by dsimp only; omega) _, HB3.out.setCell (by dsimp only; omega) _⟩
      clear hE3 hb3 hle3 hg3 hgA HX HE HB dV hv1 HES HX3 HB3 HE3
      go_wp2_with fail
      exact ⟨⟨i + 1, by omega, by go_num, HM2⟩, by simp [intOf]; omega⟩
    · have hik : i = k := by omega
      subst hik
      obtain ⟨lv, hX, hE, hB⟩ := HM.out
      obtain ⟨ad, cap, rfl⟩ := hE.slice
      rw [sizE_length] at hE hX
      have HM1 : Hid (SizTo i 0 (.slice ad i cap) (.slice none 0 0) w wr) := ⟨hX, hE, TOwn.nil _ _, hB⟩
      clear hX hE hB HM
      go_wp2_with fail
      go_loopw [11, 12] (fun bv c wq => ∃ j : Nat, j ≤ q ∧ c = .int .i64 j ∧ Hid (SizTo i j (.slice ad i cap) bv w wq)) (fun _ c _ => q - (intOf c).toNat)
      case atStart => exact ⟨0, by omega, rfl, HM1.out⟩
      case round =>
        obtain ⟨j, hj, rfl, HQ⟩ := hrel
        by_cases h2 : j < q
        · obtain ⟨hX, hE, hT, hB⟩ := HQ.out
          have HX := hdhid hX
          have HE := hdhid hE
          have HT := hdhid hT
          have HB := hdhid hB
          have hlt1 : w.heap.size < wr.heap.size := (Array.getElem?_eq_some_iff.1 hX).1
          have hKl := sizK_length j
          have HKS := hdhid (sizK_succ j)
          clear hX hE hT hB HQ HM1
          generalize sizK j = Kk at *
          go_wp2_with fail
          refine (FI.out j _ (by omega)).mono ?_
          rintro e w5 ⟨rfl, hb5⟩
          have HX5 : Hid (w5.heap[w.heap.size]? = some (.cells (headC ⟨1, 1, 1, 1, 0, 0, 0, 0, []⟩ (.slice ad i cap)) 24 (0, 0))) := (hb5.block _ (by omega)).trans HX.out
          have HE5 := hdhid (HE.out.on hb5)
          have HT5 := hdhid (HT.out.on hb5)
          have HB5 : Hid (Below w.heap.size w w5) := HB.out.trans (hb5.mono (by omega))
          have hlt5 : w.heap.size < w5.heap.size := by have := hb5.size; omega
          have hap := own_swap (own_apart HE5.out HT5.out)
          have hu0 : some w.heap.size ≠ u11.ownBlock := fun e => by have := (HT5.out.lt _ e.symm).1; omega
          clear hb5 HX HE HT HB
          go_wp2_with (first
            | (refine wpList_append_txt rfl _ _ rfl (w.heap.size + 1) _ Kk rfl (HT5.out.on ((Below.refl _ _).alloc (by simp) _)) w5.heap.size 1 [Fill j] rfl 9 (0, 0) (heap_alloc_new _ _) (by simp) ?c2 ?c3 ?_)
            | fail)
          case c2 => rw [hKl]; simp; omega
          case c3 => simp; omega
          intro bv6 w6 hT6 hb6 hle6 hg6
          have hgA : w5.grownBy w6 u11.ownBlock := ⟨hg6.os, hg6.tape, hg6.output, Nat.le_trans (by simp) hg6.size, fun q hq hn => (hg6.block q (by simp; omega) hn).trans (heap_alloc_old _ _ hq)⟩
          rw [← HKS.out] at hT6
          have HM6 : Hid (SizTo i (j + 1) (.slice ad i cap) bv6 w w6) := ⟨(hgA.block _ hlt5 hu0).trans HX5.out, HE5.out.kept hgA (own_swap hap), hT6, HB5.out.grown hgA (by omega) (fun q hq => by have := (HT5.out.lt q hq).1; omega)⟩
          clear hT6 hb6 hle6 hg6 hgA HX5 HE5 HT5 HB5 hap hu0 HKS
          go_wp2_with fail
          exact ⟨⟨j + 1, by omega, by go_num, HM6⟩, by simp [intOf]; omega⟩
        · have hjq : j = q := by omega
          subst hjq
          obtain ⟨hX, hE, hT, hB⟩ := HQ.out
          have HX := hdhid hX
          have HE := hdhid hE
          have HT := hdhid hT
          have HB := hdhid hB
          have hlt1 : w.heap.size < wr.heap.size := (Array.getElem?_eq_some_iff.1 hX).1
          have MK := hdhid (make_siz i (sizK j) ad i cap u11 wr hE.ents hT.txts (by rw [sizK_length]; omega))
          rw [siz_is hk24] at MK
          obtain ⟨bad, bcap, rfl⟩ := hT.slice
          clear hX hE hT hB HQ HM1 FI
          obtain ⟨x0, x1, x2, x3, x4, x5, x6, x7, x8⟩ := cells9 HX.out
          by_cases hji : j = i
          · subst hji
            have hsz : (makeS (sizX j) (sizK j)).size = 256 * (1 + j) := by rw [makeS_size (by rw [siz_is hk24]; simp), sizK_length]
            have HBN := hdhid (fun h0 => siz_behind hk24 h0)
            have HSH : Hid (∀ p, p < j → makeB (sizX j) ((sizK j).set p ((Fill 0).extract 0 255)) = false) := fun p hp => short_no (by rw [sizK_length]; exact hp) (by rw [ByteArray.size_extract, Fill_size]; decide)
            have HSH2 : Hid (∀ l, makeB (sizX j) l = false → makeS (sizX j) l = ⟨#[]⟩) := fun l h => makeS_no h
            generalize makeS (sizX j) (sizK j) = S at *
            rw [decide_eq_true rfl] at MK
            rw [sizK_length] at MK HT ⊢
            obtain ⟨M, hM⟩ : ∃ M, S.size = M := ⟨_, rfl⟩
            rw [hM] at hsz
            have hMj : M ≤ 6400 := by omega
            have hM2 : 256 ≤ M := by omega
            have hne : ((M : Int) != 256 * (1 + (j : Int))) = false := by rw [bne_eq_false_iff_eq]; omega
            have HSZ := hdhid hsz
            clear hsz
            go_wp2_with fail
            refine MK.out.mono ?_
            rintro e w3 ⟨rfl, hb⟩
            have HB3 : Hid (Below w.heap.size w w3) := HB.out.trans (hb.mono (by omega))
            have HX3 : Hid (w3.heap[w.heap.size]? = some (.cells (headC ⟨1, 1, 1, 1, 0, 0, 0, 0, []⟩ (.slice ad j cap)) 24 (0, 0))) := (hb.block _ hlt1).trans HX.out
            have HE3 := hdhid (HE.out.on hb)
            have HT3 := hdhid (HT.out.on hb)
            have hlt3 : w.heap.size < w3.heap.size := by have := hb.size; omega
            clear hb MK x0 x1 x2 x3 x4 x5 x6 x7 x8 HX HE HT HB hlt1
            by_cases hj0 : j = 0
            · subst hj0
              have hM00 : M = 256 := by have := HSZ.out; omega
              subst hM00
              have hM01 : (S.size : Int) = 256 := by omega
              clear HSZ hM hne
              go_wp2_with fail
              refine (AW.out _).mono ?_
              rintro e w4 ⟨rfl, hb⟩
              have HB4 : Hid (Below w.heap.size w w4) := HB3.out.trans (hb.mono (by omega))
              clear hb HB3 AW
              go_wp2_with fail
              go_ret
              exact ⟨rfl, HB4.out⟩
            · have d1 : ((j : Int) == 0) = false := by rw [beq_eq_false_iff_ne]; omega
              have p0 := Int.emod_nonneg how (show (j : Int) ≠ 0 by omega)
              have p1 := Int.emod_lt_of_pos how (show (0 : Int) < (j : Int) by omega)
              have PL := hdhid (fun w => gplace_t how (j : Int) w (by omega) (by omega))
              obtain ⟨p, hp⟩ : ∃ p : Nat, how % (j : Int) = (p : Int) := ⟨(how % (j : Int)).toNat, by omega⟩
              rw [hp] at PL p0 p1
              have hpj : p < j := by omega
              clear hp p0 p1
              have hjpos : 0 < j := by omega
              have HBN2 := HBN.out hjpos
              rw [hM] at HBN2
              have HNT := hdhid (fun w1 => none_siz (S.extract 256 M) w1 HBN2 (by rw [ByteArray.size_extract, hM]; omega))
              have HSH3 := hdhid (HSH.out p hpj)
              have HSH4 := hdhid (HSH2.out _ HSH3.out)
              clear HBN HBN2 HSH HSH2
              have hap := own_apart HE3.out HT3.out
              obtain ⟨-, ⟨hnil, -⟩ | ⟨g, c2, cur, hv, hbg, hg, hle, hmx, hcs, htk⟩⟩ := HT3.out
              · exfalso
                injection hnil with _ h _
                omega
              · injection hv with h1 hlen h3
                subst h1 h3
                clear hlen
                rw [sizK_length] at htk hle
                have hcell : ∀ q, q < j → w3.cell? ⟨g, q, none⟩ = some (.string (Fill q)) := fun q hq => by
                  rw [cell_of_row w3 g _ cur 9 _ hg, ← Array.getElem?_toList, ← List.getElem?_take_of_lt (show q < j * 1 by omega), htk, tcells_get _ q (by rw [sizK_length]; exact hq)]
                  simp [sizK]
                have hc0 := hcell 0 hjpos
                have hcp := hcell p hpj
                have hfp := frozen_of_row w3 g p _ _ hg
                have hF0 := Fill_size 0
                have hgl : g < w3.heap.size := (Array.getElem?_eq_some_iff.1 hg).1
                have HT4 : Hid (Txts (w3.setCell ⟨g, p, none⟩ (.string ((Fill 0).extract 0 255))) (.slice (some ⟨g, 0, none⟩) j bcap) ((sizK j).set p ((Fill 0).extract 0 255))) := by
                  refine ⟨some ⟨g, 0, none⟩, bcap, by rw [List.length_set, sizK_length], (fun h => by cases h), by rw [List.length_set, sizK_length]; exact hle, fun _ => ⟨g, 0, rfl, by simpa using hgl, fun q hq => ?_⟩⟩
                  rw [List.length_set, sizK_length] at hq
                  rw [Nat.zero_add]
                  by_cases e : p = q
                  · subst e
                    rw [List.getElem_set_self]
                    exact World.cell?_setCell_same' _ _ _ (by rw [hcp]; rfl)
                  · rw [List.getElem_set_ne e, World.cell?_setCell_other _ _ _ _ (by intro h; cases h; exact e rfl), hcell q hq]
                    simp [sizK]
                have HX4 : Hid ((w3.setCell ⟨g, p, none⟩ (.string ((Fill 0).extract 0 255))).heap[w.heap.size]? = some (.cells (headC ⟨1, 1, 1, 1, 0, 0, 0, 0, []⟩ (.slice ad j cap)) 24 (0, 0))) := (heap_setCell_other _ _ _ _ (by dsimp only; omega)).trans HX3.out
                have HE4 : Hid (EOwn (w3.setCell ⟨g, p, none⟩ (.string ((Fill 0).extract 0 255))) (w.heap.size + 1) (.slice ad j cap) (sizE j)) := HE3.out.kept ⟨rfl, rfl, rfl, by simp, fun q _ h => heap_setCell_other _ _ _ _ (fun e => h (by simp only [Value.ownBlock, Option.some.injEq]; first | exact e | exact e.symm))⟩ hap
                have HB4 : Hid (Below w.heap.size w (w3.setCell ⟨g, p, none⟩ (.string ((Fill 0).extract 0 255)))) := HB3.out.setCell (by dsimp only; omega) _
                clear hcell htk hcs hmx hap hg HT3
                generalize Fill 0 = F0 at *
                generalize Fill p = Fp at *
                go_wp2_with fail
                go_region_with ((go_at_call 16; refine (PL.out _).mono ?_; rintro e y1 ⟨rfl, rfl⟩))
                all_goals
                  generalize hV : World.drew _ = V
                  have HXV : Hid (V.heap[w.heap.size]? = some (.cells (headC ⟨1, 1, 1, 1, 0, 0, 0, 0, []⟩ (.slice ad j cap)) 24 (0, 0))) := by rw [← hV]; exact HX4.out
                  have HEV : Hid (EOwn V (w.heap.size + 1) (.slice ad j cap) (sizE j)) := by rw [← hV]; exact HE4.out
                  have HTV : Hid (Txts V (.slice (some ⟨g, 0, none⟩) j bcap) ((sizK j).set p (F0.extract 0 255))) := by rw [← hV]; exact HT4.out
                  have HBV : Hid (Below w.heap.size w V) := by rw [← hV]; exact ⟨HB4.out.os, HB4.out.tape, HB4.out.output, HB4.out.size, HB4.out.block⟩
                  have hltV : w.heap.size ≤ V.heap.size := HBV.out.size
                  have MK := hdhid (make_siz j ((sizK j).set p (F0.extract 0 255)) ad j cap (.slice (some ⟨g, 0, none⟩) j bcap) V HEV.out.ents HTV.out (by rw [List.length_set, sizK_length]; omega))
                  rw [HSH3.out, HSH4.out] at MK
                  clear hV HX4 HE4 HT4 HB4 HX3 HE3 HB3 hc0 hcp hfp HSH3 HSH4 PL HTV HEV
                  obtain ⟨x0, x1, x2, x3, x4, x5, x6, x7, x8⟩ := cells9 HXV.out
                  go_wp2_with fail
                  refine MK.out.mono ?_
                  rintro e w5 ⟨rfl, hb⟩
                  have HB5 : Hid (Below w.heap.size w w5) := HBV.out.trans (hb.mono hltV)
                  clear hb MK HBV HXV x0 x1 x2 x3 x4 x5 x6 x7 x8 hltV
                  go_wp2_with fail
                  refine (HNT.out _).mono ?_
                  rintro e w6 ⟨ad6, cap6, bad6, bcap6, rfl, hb⟩
                  have HB6 : Hid (Below w.heap.size w w6) := HB5.out.trans (hb.mono HB5.out.size)
                  clear hb HB5 HNT
                  go_wp2_with fail
                  refine (AW.out _).mono ?_
                  rintro e w9 ⟨rfl, hb⟩
                  have HB9 : Hid (Below w.heap.size w w9) := (HB6.out.alloc HB6.out.size _).trans (hb.mono (HB6.out.alloc HB6.out.size _).size)
                  clear hb HB6 AW
                  go_wp2_with fail
                  go_ret
                  exact ⟨rfl, HB9.out⟩
          · have hMS : makeS (sizX i) (sizK j) = ⟨#[]⟩ := makeS_no (by rw [siz_is hk24]; exact decide_eq_false hji)
            rw [hMS, decide_eq_false hji] at MK
            have d1 : ((i : Int) == (j : Int)) = false := by rw [beq_eq_false_iff_ne]; omega
            rw [sizK_length] at MK ⊢
            clear hMS
            go_wp2_with fail
            refine MK.out.mono ?_
            rintro e w3 ⟨rfl, hb⟩
            have HB3 : Hid (Below w.heap.size w w3) := HB.out.trans (hb.mono (by omega))
            clear hb MK x0 x1 x2 x3 x4 x5 x6 x7 x8 HX HE HT HB hlt1
            go_wp2_with fail
            refine (AW.out _).mono ?_
            rintro e w4 ⟨rfl, hb⟩
            have HB4 : Hid (Below w.heap.size w w4) := HB3.out.trans (hb.mono HB3.out.size)
            clear hb HB3 AW
            go_wp2_with fail
            go_ret
            exact ⟨rfl, HB4.out⟩
end Go.Proofs.Ytpfcfldkhecijaa
