/- What a chunk written from a sector on does to a disk, plainly: its blocks, a Flush, its head. Nothing of the program. -/
import Derived.Test.YtaiebhkjkeadoaaDiskRead
import Derived.Test.YtaiebhkjkeadoaaDiskFlush
import Derived.Test.YtaiebhkjkeadoaaChunkPlain
namespace Go.Proofs.Ytaiebhkjkeadoaa
namespace Lo
open Chk

/-- One of a text's blocks. -/
def blkT (T : ByteArray) (j : Nat) : ByteArray := T.extract (256 * j) (256 * j + 256)
theorem blkT_size {T : ByteArray} {k j : Nat} (hT : T.size = 256 * (1 + k)) (hj : j ≤ k) : (blkT T j).size = 256 := by
  unfold blkT
  rw [ByteArray.size_extract]
  omega

/-- The first blocks behind the head are written. -/
def burst (S : St) (o F : Nat) (T : ByteArray) : Nat → St
  | 0 => S
  | j + 1 => (burst S o F T j).write o (F + (j + 1)) (blkT T (j + 1))
def burstL (wr F : Nat) (T : ByteArray) (j : Nat) : List Wr := (List.range j).map fun i => ⟨wr + i + 1, F + (i + 1), blkT T (i + 1)⟩
theorem burstL_succ (wr F : Nat) (T : ByteArray) (j : Nat) : burstL wr F T (j + 1) = burstL wr F T j ++ [⟨wr + j + 1, F + (j + 1), blkT T (j + 1)⟩] := by
  simp [burstL, List.range_succ]
section
variable {S : St} {o F : Nat} {T : ByteArray}
theorem burst_n : ∀ j, (burst S o F T j).n = S.n
  | 0 => rfl
  | j + 1 => burst_n j
theorem burst_writes : ∀ j, (burst S o F T j).writes = S.writes + j
  | 0 => rfl
  | j + 1 => by show (burst S o F T j).writes + 1 = _; rw [burst_writes j]; omega
theorem burst_dur : ∀ j, (burst S o F T j).dur = S.dur
  | 0 => rfl
  | j + 1 => burst_dur j
theorem burst_left : ∀ j, (burst S o F T j).left = S.left - j
  | 0 => rfl
  | j + 1 => by show (burst S o F T j).left - 1 = _; rw [burst_left j]; omega
theorem burst_waits : ∀ j, (burst S o F T j).waits o = S.waits o ++ burstL S.writes F T j
  | 0 => by show S.waits o = _; simp [burstL]
  | j + 1 => by
    show upd (burst S o F T j).waits o ((burst S o F T j).waits o ++ [⟨(burst S o F T j).writes + 1, F + (j + 1), blkT T (j + 1)⟩]) o = _
    rw [upd_same, burst_waits j, burst_writes j, burstL_succ, List.append_assoc]
theorem burst_other {o' : Nat} (h : o' ≠ o) : ∀ j, (burst S o F T j).waits o' = S.waits o'
  | 0 => rfl
  | j + 1 => by
    show upd (burst S o F T j).waits o _ o' = _
    rw [upd_other _ _ h, burst_other h j]
theorem burst_up (hd : S.down = false) : ∀ j, (S.left = 0 ∨ j < S.left) → (burst S o F T j).down = false
  | 0, _ => hd
  | j + 1, h => by
    show (if (burst S o F T j).left = 0 then (burst S o F T j).down else (burst S o F T j).left - 1 == 0) = false
    rw [burst_left j, burst_up hd j (by omega)]
    split
    · rfl
    · simp only [beq_eq_false_iff_ne, ne_eq]
      omega
theorem burst_cut (h0 : 0 < S.left) : (burst S o F T S.left).down = true := by
  obtain ⟨j, hj⟩ : ∃ j, S.left = j + 1 := ⟨S.left - 1, by omega⟩
  rw [hj]
  show (if (burst S o F T j).left = 0 then (burst S o F T j).down else (burst S o F T j).left - 1 == 0) = true
  rw [burst_left j, if_neg (by omega)]
  simp only [beq_iff_eq]
  omega
end

/-- Does the disk take all of it? -/
def took (S : St) (k : Nat) : Bool := !S.down && (decide (S.left = 0) || decide (k < S.left))
/-- The disk behind it. -/
def chunk (S : St) (o F : Nat) (T : ByteArray) (k : Nat) : St :=
  if took S k = true then ((burst S o F T k).flush o).write o F (blkT T 0) else if S.down = true then S else burst S o F T S.left

theorem took_up {S : St} (h1 : S.down = false) (h2 : S.left = 0) (k : Nat) : took S k = true := by simp [took, h1, h2]
theorem took_iff {S : St} {k : Nat} : took S k = true ↔ S.down = false ∧ (S.left = 0 ∨ k < S.left) := by simp [took]
theorem took_no {S : St} {k : Nat} (h : took S k = false) (hd : S.down = false) : 0 < S.left ∧ S.left ≤ k := by
  have h2 : ¬ took S k = true := by rw [h]; decide
  rw [took_iff] at h2
  constructor
  · rcases Nat.eq_zero_or_pos S.left with e | e
    · exact absurd ⟨hd, .inl e⟩ h2
    · exact e
  · rcases Nat.lt_or_ge k S.left with e | e
    · exact absurd ⟨hd, .inr e⟩ h2
    · exact e

theorem settle_burst (d : Nat → ByteArray) (A : List Wr) (wr F : Nat) (T : ByteArray) : ∀ j i, settleL d (A ++ burstL wr F T j) i = if F < i ∧ i ≤ F + j then blkT T (i - F) else settleL d A i
  | 0, i => by
    rw [if_neg (by omega)]
    simp [burstL]
  | j + 1, i => by
    have e : settleL d (A ++ burstL wr F T (j + 1)) = upd (settleL d (A ++ burstL wr F T j)) (F + (j + 1)) (blkT T (j + 1)) := by
      rw [burstL_succ, ← List.append_assoc]
      unfold settleL
      rw [List.foldl_append]
      rfl
    rw [e]
    by_cases h : i = F + (j + 1)
    · subst h
      rw [upd_same, if_pos (by omega)]
      congr 1
      omega
    · rw [upd_other _ _ h, settle_burst d A wr F T j i]
      by_cases h2 : F < i ∧ i ≤ F + j
      · rw [if_pos h2, if_pos (by omega)]
      · rw [if_neg h2, if_neg (by omega)]

section
variable {S : St} {o F k : Nat} {T : ByteArray}
theorem chunk_yes (h : took S k = true) : chunk S o F T k = ((burst S o F T k).flush o).write o F (blkT T 0) := if_pos h
theorem chunk_down (h : S.down = true) : chunk S o F T k = S := by
  have : took S k = false := by simp [took, h]
  unfold chunk
  rw [this, if_neg (by decide), if_pos h]
theorem chunk_cut (h : took S k = false) (hd : S.down = false) : chunk S o F T k = burst S o F T S.left := by
  unfold chunk
  rw [h, if_neg (by decide), if_neg (by rw [hd]; decide)]
theorem chunk_n : (chunk S o F T k).n = S.n := by
  unfold chunk
  split
  · exact burst_n k
  · split
    · rfl
    · exact burst_n _
theorem chunk_writes (h : took S k = true) : (chunk S o F T k).writes = S.writes + (1 + k) := by
  rw [chunk_yes h]
  show (burst S o F T k).writes + 1 = _
  rw [burst_writes]
  omega
theorem chunk_waits (h : took S k = true) : (chunk S o F T k).waits o = [⟨S.writes + k + 1, F, blkT T 0⟩] := by
  rw [chunk_yes h]
  show upd (upd (burst S o F T k).waits o []) o (upd (burst S o F T k).waits o [] o ++ [⟨(burst S o F T k).writes + 1, F, blkT T 0⟩]) o = _
  rw [upd_same, upd_same, burst_writes]
  rfl
theorem chunk_other {o' : Nat} (ho : o' ≠ o) : (chunk S o F T k).waits o' = S.waits o' := by
  unfold chunk
  split
  · show upd (upd (burst S o F T k).waits o []) o _ o' = _
    rw [upd_other _ _ ho, upd_other _ _ ho, burst_other ho]
  · split
    · rfl
    · exact burst_other ho _
theorem chunk_left (h : took S k = true) : (chunk S o F T k).left = S.left - (k + 1) := by
  rw [chunk_yes h]
  show (burst S o F T k).left - 1 = _
  rw [burst_left]
  omega
theorem chunk_up (h : took S k = true) (h0 : S.left = 0) : (chunk S o F T k).down = false := by
  have hd := (took_iff.1 h).1
  rw [chunk_yes h]
  show (if (burst S o F T k).left = 0 then (burst S o F T k).down else (burst S o F T k).left - 1 == 0) = false
  rw [burst_left, if_pos (by omega), burst_up hd k (.inl h0)]
theorem chunk_dur (h : took S k = true) (i : Nat) : (chunk S o F T k).dur i = if F < i ∧ i ≤ F + k then blkT T (i - F) else settleL S.dur (S.waits o) i := by
  rw [chunk_yes h]
  show settleL (burst S o F T k).dur ((burst S o F T k).waits o) i = _
  rw [burst_dur, burst_waits, settle_burst]
theorem chunk_lost (h : took S k = false) : (chunk S o F T k).dur = S.dur := by
  cases hd : S.down
  · rw [chunk_cut h hd, burst_dur]
  · rw [chunk_down hd]
theorem chunk_some (h : took S k = false) (hd : S.down = true → S.left = 0) : (chunk S o F T k).writes = S.writes + S.left := by
  cases hd' : S.down
  · rw [chunk_cut h hd', burst_writes]
  · rw [chunk_down hd', hd hd']
    rfl
end

theorem settle_nil_at (d : Nat → ByteArray) (i : Nat) : settleL d [] i = d i := rfl
theorem settle_one (d : Nat → ByteArray) (x : Wr) (i : Nat) : settleL d [x] i = if i = x.pos then x.bytes else d i := by
  show upd d x.pos x.bytes i = _
  unfold upd
  rfl

/-! ### Reading, where one owner's writes wait alone -/

theorem newest_alone (i : Nat) (W : Nat → List Wr) (o : Nat) (h : ∀ o', o' ≠ o → W o' = []) : ∀ k, newestTo i W k = if o < k then pickL i noWr (W o) else noWr
  | 0 => by rw [if_neg (by omega)]; rfl
  | k + 1 => by
    rw [newestTo_succ, newest_alone i W o h k]
    by_cases h1 : o < k
    · rw [if_pos h1, if_pos (by omega), h k (by omega)]
      rfl
    · rw [if_neg h1]
      by_cases h2 : o = k
      · subst h2
        rw [if_pos (by omega)]
      · rw [if_neg (by omega), h k (by omega)]
        rfl
/-- One write waits, one owner's. -/
theorem read_one {S : St} {o : Nat} (ho : o < 17) (h : ∀ o', o' ≠ o → S.waits o' = []) {x : Wr} (hx : S.waits o = [x]) (h1 : 1 ≤ x.order) (i : Nat) : S.read i = if i = x.pos then x.bytes else S.dur i := by
  have e0 : newestTo i S.waits 17 = pick1 i noWr x := by rw [newest_alone i _ o h, if_pos ho, hx]; rfl
  unfold St.read
  rw [e0]
  unfold pick1
  by_cases e : i = x.pos
  · rw [if_pos (⟨e.symm, by show 0 < x.order; omega⟩ : x.pos = i ∧ noWr.order < x.order), if_pos (by omega), if_pos e]
  · rw [if_neg (fun hh : x.pos = i ∧ noWr.order < x.order => e hh.1.symm), if_neg (by show ¬ 0 < 0; omega), if_neg e]
/-- Nothing waits. -/
theorem read_none {S : St} (h : ∀ o, S.waits o = []) (i : Nat) : S.read i = S.dur i := by
  have e0 : newestTo i S.waits 17 = noWr := by rw [newest_alone i _ 0 (fun o' _ => h o'), h 0]; rfl
  unfold St.read
  rw [e0]
  rfl

/-- The sectors behind a chunk of the disk's only owner. -/
theorem read_chunk {S : St} {o F k : Nat} {T : ByteArray} (ho : o < 17) (h : took S k = true) (hn : ∀ o', o' ≠ o → S.waits o' = []) (j : Nat) (hj : j ≤ k) : (chunk S o F T k).read (F + j) = blkT T j := by
  rw [read_one ho (fun o' h' => by rw [chunk_other h', hn o' h']) (chunk_waits h) (by show 1 ≤ S.writes + k + 1; omega)]
  by_cases e : j = 0
  · subst e
    rw [if_pos (by show F + 0 = F; omega)]
  · rw [if_neg (by show ¬ F + j = F; omega), chunk_dur h, if_pos (by omega)]
    congr 1
    omega

/-! ### A chunk's text by its blocks -/

theorem blkT_make {x : Hdp.Hd} {l : List ByteArray} (h : makeB x l = true) (j : Nat) (hj : j < l.length) : blkT (makeS x l) (j + 1) = l[j] := by
  obtain ⟨h1, -, -, h4, -⟩ := makeB_parts h
  have hl := makeS_list h
  have hall := allB_iff.1 h1
  have hsz := makeS_size h
  have hfr : (Hdp.front x ++ Bin.low 4 (Hdp.sumL (Hdp.front x) (joinL l) : Nat)).length = 256 := by
    have e1 : (makeS x l).data.toList.length = 256 * (1 + l.length) := by rw [← size_list, hsz]
    rw [hl, List.length_append, joinL_len h1] at e1
    omega
  have hs : joinL l = joinL (l.take j) ++ l[j].data.toList ++ joinL (l.drop (j + 1)) := by
    conv => lhs; rw [← List.take_append_drop j l, List.drop_eq_getElem_cons hj]
    rw [joinL_append, List.append_assoc]
    rfl
  generalize Hdp.front x ++ Bin.low 4 (Hdp.sumL (Hdp.front x) (joinL l) : Nat) = P at hl hfr
  apply bytes_ext
  refine extract_mid (p := P ++ joinL (l.take j)) (r := joinL (l.drop (j + 1))) ?_ ?_ ?_
  · rw [hl, hs, List.append_assoc, List.append_assoc, List.append_assoc]
  · rw [List.length_append, hfr, joinL_len (allB_iff.2 fun b hb => hall b (List.mem_of_mem_take hb)), List.length_take, Nat.min_eq_left (by omega)]
    omega
  · rw [← size_list, hall _ (List.getElem_mem hj)]

theorem ext_zero (T : ByteArray) : T.extract 0 0 = ⟨#[]⟩ := by
  apply bytes_ext
  rw [extract_list]
  simp
/-- The text, block by block. -/
theorem ext_more {T : ByteArray} {k j : Nat} (hT : T.size = 256 * (1 + k)) (_hj : j ≤ k) : T.extract 0 (256 * j) ++ blkT T j = T.extract 0 (256 * (j + 1)) := by
  have hl : T.data.toList.length = 256 * (1 + k) := by rw [← size_list, hT]
  unfold blkT
  apply bytes_ext
  rw [ByteArray.data_append, Array.toList_append, extract_list, extract_list, extract_list, List.drop_zero, List.drop_zero, show 256 * (j + 1) = 256 * j + 256 by omega, List.drop_take, show 256 * j + 256 - 256 * j = 256 by omega, List.take_add]
theorem ext_all {T : ByteArray} {k : Nat} (hT : T.size = 256 * (1 + k)) : T.extract 0 (256 * (k + 1)) = T := by
  have hl : T.data.toList.length = 256 * (1 + k) := by rw [← size_list, hT]
  apply bytes_ext
  rw [extract_list, List.drop_zero, List.take_of_length_le (by omega)]
end Lo
end Go.Proofs.Ytaiebhkjkeadoaa
