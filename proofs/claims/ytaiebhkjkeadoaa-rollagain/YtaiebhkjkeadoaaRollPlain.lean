/- What a log has behind a place, plainly: the chunk that goes on with it, if there is one; all of them. Nothing of the program. -/
import Derived.Test.YtaiebhkjkeadoaaLogPlain
import Derived.Test.YtaiebhkjkeadoaaLogLay
namespace Go.Proofs.Ytaiebhkjkeadoaa
namespace Rol
open Chk Hdp Lo
open Bin (low num)

/-- A chunk that is found. -/
structure Fnd where
  seg : Int
  pos : Int
  head : Hd
  bl : List ByteArray

/-- So many sectors' bytes. -/
def runL (rd : Nat → ByteArray) (F j : Nat) : List ByteArray := (List.range j).map fun i => rd (F + i)
def run (rd : Nat → ByteArray) (F j : Nat) : ByteArray := joinB (runL rd F j)
section
variable {rd rd' : Nat → ByteArray} {F j : Nat}
theorem runL_length : (runL rd F j).length = j := by simp [runL]
theorem runL_succ : runL rd F (j + 1) = runL rd F j ++ [rd (F + j)] := by simp [runL, List.range_succ]
theorem run_zero : run rd F 0 = ⟨#[]⟩ := rfl
theorem run_succ : run rd F (j + 1) = run rd F j ++ rd (F + j) := by rw [run, runL_succ, joinB_append, run]
theorem runL_all (h : ∀ i, i < j → (rd (F + i)).size = 256) : allB (runL rd F j) = true := by
  rw [allB_iff]
  intro b hb
  obtain ⟨i, hi, rfl⟩ := List.mem_map.1 hb
  exact h i (List.mem_range.1 hi)
theorem run_size (h : ∀ i, i < j → (rd (F + i)).size = 256) : (run rd F j).size = 256 * j := by
  rw [run, joinB_size (runL_all h), runL_length]
theorem run_congr (h : ∀ i, i < j → rd' (F + i) = rd (F + i)) : run rd' F j = run rd F j := by
  unfold run
  congr 1
  exact List.map_congr_left fun i hi => h i (List.mem_range.1 hi)
theorem runL_add (a b : Nat) : runL rd F (a + b) = runL rd F a ++ runL rd (F + a) b := by
  induction b with
  | zero => simp [runL]
  | succ b ih => rw [← Nat.add_assoc, runL_succ, ih, runL_succ, List.append_assoc, Nat.add_assoc]
theorem joinB_app (a b : List ByteArray) : joinB (a ++ b) = joinB a ++ joinB b := by
  apply bytes_ext
  rw [joinB_list, joinL_append, ByteArray.data_append, Array.toList_append, joinB_list, joinB_list]
theorem run_add (a b : Nat) : run rd F (a + b) = run rd F a ++ run rd (F + a) b := by rw [run, runL_add, joinB_app, run, run]
end

/-- Is it a segment of the house? -/
def inS (n : Nat) (segs : List Int) (seg : Int) : Bool := segs.contains seg && (decide (0 ≤ seg) && decide (seg < n))
/-- A segment's text from a block on. -/
def atT (rd : Nat → ByteArray) (n : Nat) (segs : List Int) (seg pos : Int) : ByteArray := if (decide (0 ≤ pos) && inS n segs seg) = true then run rd (48 + 32 * seg.toNat + pos.toNat) (32 - pos.toNat) else ⟨#[]⟩
/-- Does a head follow? -/
def folB (segs : List Int) (L : Lg) (h : Hd) : Bool := decide (h.house = L.house) && (decide (h.gen = L.gen) && (decide (h.life = L.life) && (decide (h.seq = L.seq) && segs.contains h.next)))
/-- Does a chunk go on? -/
def atB (rd : Nat → ByteArray) (n : Nat) (segs : List Int) (L : Lg) (seg pos : Int) : Bool := parB (atT rd n segs seg pos) && folB segs L (parX (atT rd n segs seg pos))
def fnd (rd : Nat → ByteArray) (n : Nat) (segs : List Int) (seg pos : Int) : Fnd := ⟨seg, pos, parX (atT rd n segs seg pos), parL (atT rd n segs seg pos)⟩
/-- The next chunk. -/
def nxt (rd : Nat → ByteArray) (n : Nat) (segs : List Int) (L : Lg) : Option Fnd :=
  if atB rd n segs L L.seg L.pos = true then some (fnd rd n segs L.seg L.pos) else if atB rd n segs L L.next 0 = true then some (fnd rd n segs L.next 0) else none
/-- Behind a chunk. -/
def past (L : Lg) (f : Fnd) : Lg := { L with seg := f.seg, pos := f.pos + 1 + f.bl.length, next := f.head.next, seq := L.seq + 1, clock := f.head.clock, sb := f.head.sb, sn := f.head.sn }

/-- What is found, and the place behind it. -/
inductive Rolls (rd : Nat → ByteArray) (n : Nat) (segs : List Int) : Lg → List Fnd → Lg → Prop
  | done {L : Lg} : nxt rd n segs L = none → Rolls rd n segs L [] L
  | more {L L' : Lg} {f : Fnd} {fs : List Fnd} : nxt rd n segs L = some f → Rolls rd n segs (past L f) fs L' → Rolls rd n segs L (f :: fs) L'

section
variable {rd : Nat → ByteArray} {n : Nat} {segs : List Int} {L : Lg} {seg pos : Int}
theorem atT_yes (h : 0 ≤ pos) (hs : inS n segs seg = true) : atT rd n segs seg pos = run rd (48 + 32 * seg.toNat + pos.toNat) (32 - pos.toNat) := by
  unfold atT
  rw [if_pos (by rw [hs, decide_eq_true h]; rfl)]
theorem atT_no (h : pos < 0 ∨ inS n segs seg = false) : atT rd n segs seg pos = ⟨#[]⟩ := by
  unfold atT
  rw [if_neg]
  rw [Bool.and_eq_true, decide_eq_true_eq]
  rintro ⟨h1, h2⟩
  rcases h with h | h
  · omega
  · rw [h] at h2; cases h2
theorem atT_end (h : 32 ≤ pos) : atT rd n segs seg pos = ⟨#[]⟩ := by
  unfold atT
  rw [show 32 - pos.toNat = 0 by omega, run_zero]
  split <;> rfl
theorem atT_size (hrd : ∀ i, i < 48 + 32 * n → (rd i).size = 256) : (atT rd n segs seg pos).size ≤ 8192 := by
  unfold atT
  split
  · next h =>
    rw [Bool.and_eq_true, decide_eq_true_eq, inS, Bool.and_eq_true, Bool.and_eq_true, decide_eq_true_eq, decide_eq_true_eq] at h
    obtain ⟨h1, -, h2, h3⟩ := h
    rw [run_size fun i hi => hrd _ (by omega)]
    omega
  · exact Nat.zero_le _
theorem parB_none : parB ⟨#[]⟩ = false := parB_less (by decide)
theorem atB_none (h : atT rd n segs seg pos = ⟨#[]⟩) : atB rd n segs L seg pos = false := by
  unfold atB
  rw [h, parB_none, Bool.false_and]
theorem atB_par (h : parB (atT rd n segs seg pos) = false) : atB rd n segs L seg pos = false := by
  unfold atB
  rw [h, Bool.false_and]
theorem atB_fol (h : folB segs L (parX (atT rd n segs seg pos)) = false) : atB rd n segs L seg pos = false := by
  unfold atB
  rw [h, Bool.and_false]
/-- Where a chunk is found. -/
theorem atB_in (h : atB rd n segs L seg pos = true) : 0 ≤ pos ∧ pos < 32 ∧ inS n segs seg = true := by
  refine ⟨?_, ?_, ?_⟩
  · rcases Int.lt_or_le pos 0 with h1 | h1
    · rw [atB_none (atT_no (.inl h1))] at h; cases h
    · exact h1
  · rcases Int.lt_or_le pos 32 with h1 | h1
    · exact h1
    · rw [atB_none (atT_end h1)] at h; cases h
  · cases h1 : inS n segs seg
    · rw [atB_none (atT_no (.inr h1))] at h; cases h
    · rfl
theorem nxt_here (h : atB rd n segs L L.seg L.pos = true) : nxt rd n segs L = some (fnd rd n segs L.seg L.pos) := if_pos h
theorem nxt_there (h : atB rd n segs L L.seg L.pos = false) (h2 : atB rd n segs L L.next 0 = true) : nxt rd n segs L = some (fnd rd n segs L.next 0) := by
  unfold nxt
  rw [if_neg (by rw [h]; decide), if_pos h2]
theorem nxt_none (h : atB rd n segs L L.seg L.pos = false) (h2 : atB rd n segs L L.next 0 = false) : nxt rd n segs L = none := by
  unfold nxt
  rw [if_neg (by rw [h]; decide), if_neg (by rw [h2]; decide)]
end

/-! ### Bytes of a chunk, and other ones behind it -/

/-- A chunk with a byte turned is none, whatever stands behind. -/
theorem par_turned_more {x : Hd} {l : List ByteArray} (h : makeB x l = true) {i : Nat} {y : UInt8} (hi : i < (makeS x l).data.toList.length) (hy : y ≠ (makeS x l).data.toList[i]) {s : ByteArray} {q : List UInt8} (hs : s.data.toList = (makeS x l).data.toList.set i y ++ q) : parB s = false := by
  obtain ⟨h1, h2, h3, h4, h5⟩ := makeB_parts h
  have hJl := joinL_len h1
  have hF := front_length (okB_len h3)
  have hl4 := Bin.low_length 4 (sumL (front x) (joinL l) : Nat)
  have hL := makeS_list h
  have hc := sumL_full hF (joinL l)
  have hsz := makeS_size h
  rw [size_list] at hsz
  have hy2 : ∀ k, (makeS x l).data.toList[i]? = some k → y ≠ k := by
    intro k hk hyk
    rw [List.getElem?_eq_getElem hi] at hk
    exact hy (hyk.trans (Option.some.inj hk).symm)
  rw [hL] at hs hy2
  by_cases c1 : i < 252
  · rw [List.append_assoc (front x), List.set_append_left _ _ (by omega), ← List.append_assoc] at hs
    rw [List.append_assoc, List.getElem?_append_left (by omega)] at hy2
    have hne : y ≠ (front x)[i]'(by omega) := hy2 _ (List.getElem?_eq_getElem (by omega))
    cases hg : getB s
    · exact parB_get hg
    · have hg2 := hg
      unfold getB at hg2
      rw [Bool.and_eq_true, Bool.and_eq_true, decide_eq_true_eq, decide_eq_true_eq] at hg2
      obtain ⟨-, g1, g2⟩ := hg2
      have g3 : s.data.toList.take 252 = (front x).set i y := by
        rw [hs, List.append_assoc, List.append_assoc]
        exact List.take_left' (by rw [List.length_set]; omega)
      rw [g3] at g2
      have hn := front_same h3 g1 g2
      obtain ⟨k1, k2, k3, k4, k5, k6⟩ := par_parts (J := joinL l) (q := q) g1 (b4 := low 4 (sumL (front x) (joinL l) : Nat)) (by rw [g2]; exact hs) (Bin.low_length _ _) (by omega)
      refine parB_sum ?_
      unfold sumB
      have hF2 := front_length (okB_len g1)
      have : (frontB s).data.toList.take 252 = (front (getX s.data.toList)).take 252 := by rw [k3, List.take_of_length_le (by omega)]
      rw [k4, k2, num_low4 _ (sumL_lt _ _), sumL_take this, sumL_full hF2, hc, decide_eq_false]
      have e7 : front (getX s.data.toList) ++ joinL l = (front x ++ joinL l).set i y := by
        rw [g2, List.set_append_left _ _ (by omega)]
      have h9 : i < (front x ++ joinL l).length := by rw [List.length_append]; omega
      have e8 := crc_set h9 (y := y) (by rw [List.getElem_append_left (by omega)]; exact hne)
      rw [e7]
      omega
  · by_cases c2 : i < 256
    · rw [List.append_assoc (front x), List.set_append_right _ _ (by omega), List.set_append_left _ _ (by omega), ← List.append_assoc] at hs
      rw [List.append_assoc, List.getElem?_append_right (by omega), List.getElem?_append_left (by omega)] at hy2
      have hne : y ≠ (low 4 (sumL (front x) (joinL l) : Nat))[i - (front x).length]'(by omega) := hy2 _ (List.getElem?_eq_getElem (by omega))
      obtain ⟨k1, k2, k3, k4, k5, k6⟩ := par_parts (q := q) h3 hs (by rw [List.length_set]; exact hl4) (by omega)
      refine parB_sum ?_
      rw [k1]
      unfold sumB
      have : (frontB s).data.toList.take 252 = (front x).take 252 := by rw [k3, List.take_of_length_le (by omega)]
      rw [k4, k2, sumL_take this, decide_eq_false]
      intro e9
      have e10 : num (low 4 (sumL (front x) (joinL l) : Nat)) = num ((low 4 (sumL (front x) (joinL l) : Nat)).set (i - (front x).length) y) := by
        rw [num_low4 _ (sumL_lt _ _)]
        omega
      have e11 := num_inj (by simp) e10
      apply hne
      have e12 : ((low 4 (sumL (front x) (joinL l) : Nat)).set (i - (front x).length) y)[i - (front x).length]? = some y := List.getElem?_set_self (by omega)
      rw [← e11, List.getElem?_eq_getElem (by omega)] at e12
      exact (Option.some.inj e12).symm
    · have hFl : (front x ++ low 4 (sumL (front x) (joinL l) : Nat)).length = 256 := by rw [List.length_append]; omega
      rw [List.set_append_right _ _ (by omega), hFl] at hs
      rw [List.getElem?_append_right (by omega), hFl] at hy2
      have hne : y ≠ (joinL l)[i - 256]'(by omega) := hy2 _ (List.getElem?_eq_getElem (by omega))
      obtain ⟨k1, k2, k3, k4, k5, k6⟩ := par_parts (q := q) h3 hs (Bin.low_length _ _) (by rw [List.length_set]; omega)
      refine parB_sum ?_
      rw [k1]
      unfold sumB
      have : (frontB s).data.toList.take 252 = (front x).take 252 := by rw [k3, List.take_of_length_le (by omega)]
      rw [k4, k2, num_low4 _ (sumL_lt _ _), sumL_take this, sumL_full hF, sumL_full hF, decide_eq_false]
      have h9 : i - 4 < (front x ++ joinL l).length := by rw [List.length_append]; omega
      have e7 : front x ++ (joinL l).set (i - 256) y = (front x ++ joinL l).set (i - 4) y := by
        have e8 : i - 4 - (front x).length = i - 256 := by omega
        rw [List.set_append_right _ _ (by omega), e8]
      have e8 := crc_set h9 (y := y) (by
        rw [List.getElem_append_right (by omega)]
        have : i - 4 - (front x).length = i - 256 := by omega
        simp only [this]
        exact hne)
      rw [e7]
      omega
/-- Bytes that don't begin as a head's do are no chunk. -/
theorem par_zero {s : ByteArray} (h : s.data.toList[0]? = some 0) : parB s = false := by
  refine parB_get ?_
  cases hg : getB s
  · rfl
  · exfalso
    unfold getB at hg
    rw [Bool.and_eq_true, Bool.and_eq_true, decide_eq_true_eq, decide_eq_true_eq] at hg
    obtain ⟨-, -, h2⟩ := hg
    have h3 : (s.data.toList.take 252)[0]? = some 0 := by rw [List.getElem?_take_of_lt (by decide)]; exact h
    rw [← h2] at h3
    have h4 : (front (getX s.data.toList))[0]? = some 66 := rfl
    rw [h4] at h3
    cases h3
end Rol
end Go.Proofs.Ytaiebhkjkeadoaa
