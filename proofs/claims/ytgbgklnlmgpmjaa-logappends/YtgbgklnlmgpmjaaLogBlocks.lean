/- The laws' own blocks walked: entries and texts by a number. -/
import Derived.Test.YtgbgklnlmgpmjaaChunkEnt
import Derived.Test.YtgbgklnlmgpmjaaFilled
namespace Go.Proofs.Ytgbgklnlmgpmjaa
open Go.RowKit Rec Hdp Chk

/-- So many entries and texts by a number. -/
def bkE (v n : Nat) : List En := (List.range n).map fun (i : Nat) => ⟨1, 1 + (i : Int), ((v % 588 : Nat) : Int)⟩
def bkT (v n : Nat) : List ByteArray := (List.range n).map fun (i : Nat) => Fill (v % 500 + i)
theorem bkE_length (v n : Nat) : (bkE v n).length = n := by simp [bkE]
theorem bkT_length (v n : Nat) : (bkT v n).length = n := by simp [bkT]
theorem bkE_succ (v n : Nat) : bkE v (n + 1) = bkE v n ++ [⟨1, 1 + (n : Int), ((v % 588 : Nat) : Int)⟩] := by simp [bkE, List.range_succ]
theorem bkT_succ (v n : Nat) : bkT v (n + 1) = bkT v n ++ [Fill (v % 500 + n)] := by simp [bkT, List.range_succ]
theorem bkT_get (v n i : Nat) (h : i < (bkT v n).length) : (bkT v n)[i] = Fill (v % 500 + i) := by simp [bkT]
theorem bkT_all (v n : Nat) : allB (bkT v n) = true := by
  rw [allB_iff]
  intro b hb
  obtain ⟨i, _, rfl⟩ := List.mem_map.1 hb
  exact Fill_size _
theorem bkE_ok {v n : Nat} (hn : n ≤ 24) : (bkE v n).all enB = true := by
  rw [List.all_eq_true]
  intro e he
  obtain ⟨i, hi, rfl⟩ := List.mem_map.1 he
  have hi2 : i < n := List.mem_range.1 hi
  unfold enB partB
  simp only [if_true, Bool.and_eq_true, inB_iff]
  omega

/-- Behind k rounds. -/
def BkAt (v k : Nat) (lv bv : Value) (w wr : World) : Prop :=
  EOwn wr w.heap.size lv (bkE v k) ∧ TOwn wr w.heap.size bv (bkT v k) ∧ Below w.heap.size w wr

set_option maxRecDepth 10000 in
set_option maxHeartbeats 4000000 in
theorem blocks_t (v n : Nat) (w : World) (hv : v ≤ 1048576) (hn : n ≤ 24) :
    Calls Try.prog 11 #[.int .i64 v, .int .i64 n] w fun e w' => ∃ ad cap bad bcap, e = .returned (.tuple #[.slice ad n cap, .slice bad n bcap]) ∧ EOwn w' w.heap.size (.slice ad n cap) (bkE v n) ∧ TOwn w' w.heap.size (.slice bad n bcap) (bkT v n) ∧ Below w.heap.size w w' := by
  have FI := hdhid (fun v w (h : v ≤ 100000) => filled_t v w h)
  obtain ⟨q, hq⟩ : ∃ q, v % 500 = q := ⟨_, rfl⟩
  obtain ⟨p, hp⟩ : ∃ p, v % 588 = p := ⟨_, rfl⟩
  have hq2 : (v : Int) % 500 = (q : Int) := by omega
  have hp2 : (v : Int) % 588 = (p : Int) := by omega
  have hq3 : q ≤ 500 := by omega
  have HES := hdhid (fun k => bkE_succ v k)
  have HTS := hdhid (fun k => bkT_succ v k)
  rw [hq] at HTS
  rw [hp] at HES
  clear hq hp
  go_enter Try.func11, Try.ntmps11
  go_wp2_with fail
  go_loopw [6, 7, 8] (fun lv bv c wr => ∃ k : Nat, k ≤ n ∧ c = .int .i64 k ∧ Hid (BkAt v k lv bv w wr)) (fun _ _ c _ => n - (intOf c).toNat)
  case atStart => exact ⟨0, Nat.zero_le _, rfl, EOwn.nil _ _, TOwn.nil _ _, Below.refl _ _⟩
  case round =>
    obtain ⟨k, hk, rfl, HM⟩ := hrel
    obtain ⟨hE, hT, hB⟩ := HM.out
    by_cases hkn : k < n
    · have HE := hdhid hE
      have HT := hdhid hT
      have HB := hdhid hB
      have hbs := hB.size
      have hEl := bkE_length v k
      have hTl := bkT_length v k
      clear hE hT hB HM
      generalize hEk : bkE v k = Ek at *
      generalize hTk : bkT v k = Tk at *
      have HEk := hdhid hEk
      have HTk := hdhid hTk
      have hEl2 : Ek.length ≤ 24 := by omega
      have hTl2 : Tk.length ≤ 24 := by omega
      clear hEk hTk hEl hTl
      go_wp2_with (first
        | (refine wpList_append_ent rfl _ _ rfl w.heap.size _ Ek rfl (HE.out.on ((Below.refl _ _).alloc (Nat.le_refl _) _)) wr.heap.size ⟨1, 1 + (k : Int), (p : Int)⟩ rfl 52 (0, 0) (heap_alloc_new _ _) ?c2 ?c3 ?_)
        | fail)
      case c2 => omega
      case c3 => simp; omega
      intro lv2 w3 hE3 hb3 hle3 hg3
      have hap := own_apart HE.out HT.out
      have hgA : wr.grownBy w3 _ := ⟨hg3.os, hg3.tape, hg3.output, Nat.le_trans (by simp) hg3.size, fun q hq hn => (hg3.block q (by simp; omega) hn).trans (heap_alloc_old _ _ hq)⟩
      have HT3 := hdhid (HT.out.kept hgA (own_swap hap))
      have HB3 : Hid (Below w.heap.size w w3) := HB.out.grown hgA (by omega) (fun q hq => by have := (HE.out.lt q hq).1; omega)
      have HE3 := hdhid hE3
      have hs3 : wr.heap.size ≤ w3.heap.size := hgA.size
      clear hE3 hb3 hle3 hg3 hap hgA HE HT HB
      go_wp2_with fail
      have e1 : (q : Int) + (k : Int) = ((q + k : Nat) : Int) := by omega
      rw [e1]
      refine (FI.out (q + k) _ (by omega)).mono ?_
      rintro e w5 ⟨rfl, hb5⟩
      have HE5 := hdhid (HE3.out.on hb5)
      have HT5 := hdhid (HT3.out.on hb5)
      have HB5 : Hid (Below w.heap.size w w5) := HB3.out.trans (hb5.mono (by omega))
      have hs5 : w3.heap.size ≤ w5.heap.size := hb5.size
      clear hb5 HE3 HT3 HB3 e1
      go_wp2_with (first
        | (refine wpList_append_txt rfl _ _ rfl w.heap.size _ Tk rfl (HT5.out.on ((Below.refl _ _).alloc (Nat.le_refl _) _)) w5.heap.size 1 [Fill (q + k)] rfl 9 (0, 0) (heap_alloc_new _ _) (by simp) ?c2 ?c3 ?_)
        | fail)
      case c2 => simp; omega
      case c3 => simp; omega
      intro bv6 w6 hT6 hb6 hle6 hg6
      have hap := own_apart HE5.out HT5.out
      have hgA : w5.grownBy w6 _ := ⟨hg6.os, hg6.tape, hg6.output, Nat.le_trans (by simp) hg6.size, fun q hq hn => (hg6.block q (by simp; omega) hn).trans (heap_alloc_old _ _ hq)⟩
      have HM6 : Hid (BkAt v (k + 1) lv2 bv6 w w6) := by
        refine ⟨?_, ?_, HB5.out.grown hgA (by omega) (fun q hq => by have := (HT5.out.lt q hq).1; omega)⟩
        · rw [HES.out, HEk.out]
          exact HE5.out.kept hgA hap
        · rw [HTS.out, HTk.out]
          exact hT6
      clear hT6 hb6 hle6 hg6 hap hgA HE5 HT5 HB5
      go_wp2_with fail
      exact ⟨⟨k + 1, hkn, by go_num, HM6⟩, by simp [intOf]; omega⟩
    · have hkk : k = n := by omega
      subst hkk
      obtain ⟨ad, cap, rfl⟩ := hE.slice
      obtain ⟨bad, bcap, rfl⟩ := hT.slice
      rw [bkE_length] at hE ⊢
      rw [bkT_length] at hT ⊢
      have HE := hdhid hE
      have HT := hdhid hT
      have HB := hdhid hB
      clear hE hT hB HM
      go_wp2_with fail
      go_ret2
      exact ⟨_, _, _, _, rfl, HE.out, HT.out, HB.out⟩
end Go.Proofs.Ytgbgklnlmgpmjaa
