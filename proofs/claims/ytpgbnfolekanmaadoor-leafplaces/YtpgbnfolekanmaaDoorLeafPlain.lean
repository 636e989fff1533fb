/- Directories as blocks, plainly: places, their bytes, there and back, the first of a name, the first empty one, trimmed. Nothing of the program. -/
import Derived.Test.YtpgbnfolekanmaaDoorNamePlain
import Derived.Test.YtpgbnfolekanmaaDoorBinNum
import Derived.Lib.IndexAny
import Derived.Lib.TrimByte
namespace Go.Proofs.YtpgbnfolekanmaaDoor

/-- A place: a name, a node. -/
structure Nm where
  name : ByteArray
  node : Int

namespace Lf
def z : Nm := ⟨⟨#[]⟩, 0⟩
/-- Is a place nobody's? -/
def emB (p : Nm) : Bool := p.name.data.toList.isEmpty && decide (p.node = 0)
/-- Is it of that name? -/
def isB (s : ByteArray) (p : Nm) : Bool := p.name.data.toList == s.data.toList

theorem ba_eq {a b : ByteArray} (h : a.data.toList = b.data.toList) : a = b := by
  apply ByteArray.ext
  exact Array.toList_inj.1 h
theorem emB_z {p : Nm} (h : emB p = true) : p = z := by
  obtain ⟨n, v⟩ := p
  simp only [emB, Bool.and_eq_true, decide_eq_true_eq, List.isEmpty_iff] at h
  obtain ⟨h1, h2⟩ := h
  have e : n = ⟨#[]⟩ := ba_eq h1
  have h2' : v = 0 := h2
  subst e
  subst h2'
  rfl
theorem emB_of_z : emB z = true := rfl
theorem isB_iff {s : ByteArray} {p : Nm} : isB s p = true ↔ p.name = s := by
  rw [isB, beq_iff_eq]
  exact ⟨ba_eq, fun h => by rw [h]⟩
theorem isB_no {s : ByteArray} {p : Nm} : isB s p = false ↔ p.name ≠ s := by
  constructor
  · intro h e
    rw [isB_iff.2 e] at h
    cases h
  · intro h
    rw [Bool.eq_false_iff]
    exact fun e => h (isB_iff.1 e)

/-- The first place of a name; how many there are, if none is. -/
def fnd (l : List Nm) (s : ByteArray) : Nat := l.findIdx (isB s)
def findB (l : List Nm) (s : ByteArray) : Bool := !s.data.toList.isEmpty && decide (fnd l s < l.length)
def findI (l : List Nm) (s : ByteArray) : Nat := if findB l s then fnd l s else 0
/-- The first empty place. -/
def freeI (l : List Nm) : Nat := l.findIdx emB
/-- May a place be so? -/
def okP (p : Nm) : Bool := Word.chk p.name.data.toList && decide (1 ≤ p.node ∧ p.node ≤ 255)
def okAt (l : List Nm) (i : Nat) (p : Nm) : Bool := emB p || (okP p && decide (fnd l p.name = i))
/-- May these be a block's places? -/
def okB (l : List Nm) : Bool := decide (l.length = 8) && decide (∀ i, (h : i < l.length) → okAt l i l[i] = true)

theorem okB_iff {l : List Nm} : okB l = true ↔ l.length = 8 ∧ ∀ i, (h : i < l.length) → okAt l i l[i] = true := by simp [okB]
theorem okB_no_at {l : List Nm} {i : Nat} (h : i < l.length) (hn : okAt l i l[i] = false) : okB l = false := by
  rw [Bool.eq_false_iff]
  intro hk
  have := (okB_iff.1 hk).2 i h
  rw [hn] at this
  cases this
theorem okB_len {l : List Nm} (h : okB l = true) : l.length = 8 := (okB_iff.1 h).1
theorem okB_no_len {l : List Nm} (h : l.length ≠ 8) : okB l = false := by simp [okB, h]

/-- What findIdx is, said by its place. -/
theorem findIdx_is {l : List Nm} {f : Nm → Bool} {i : Nat} (hi : i < l.length) (hy : f l[i] = true) (hn : ∀ j, (h : j < i) → f (l[j]'(by omega)) = false) : l.findIdx f = i := by
  have h1 : l.findIdx f < l.length := List.findIdx_lt_length_of_exists ⟨_, List.getElem_mem hi, hy⟩
  have h2 : f l[l.findIdx f] = true := List.findIdx_getElem (w := h1)
  rcases Nat.lt_trichotomy (l.findIdx f) i with h | h | h
  · rw [hn _ h] at h2
    cases h2
  · exact h
  · have := List.not_of_lt_findIdx h
    rw [hy] at this
    cases this
theorem findIdx_none {l : List Nm} {f : Nm → Bool} (hn : ∀ j, (h : j < l.length) → f l[j] = false) : l.findIdx f = l.length := by
  apply List.findIdx_eq_length_of_false
  intro x hx
  obtain ⟨j, hj, rfl⟩ := List.getElem_of_mem hx
  exact hn j hj
theorem fnd_le (l : List Nm) (s : ByteArray) : fnd l s ≤ l.length := List.findIdx_le_length
/-- A place's own name is found no further than at it. -/
theorem fnd_own {l : List Nm} {i : Nat} (hi : i < l.length) : fnd l l[i].name ≤ i := by
  rcases Nat.lt_or_ge i (fnd l l[i].name) with h | h
  · have := List.not_of_lt_findIdx (p := isB l[i].name) h
    rw [isB_iff.2 rfl] at this
    cases this
  · exact h

theorem chk_ne {l : List UInt8} (h : Word.chk l = true) : l ≠ [] := by
  intro e
  rw [e] at h
  cases h
theorem chk_zero {l : List UInt8} (h : Word.chk l = true) : l.contains 0 = false := by
  simp only [Word.chk, Bool.and_eq_true, List.all_eq_true] at h
  rw [Bool.eq_false_iff]
  intro hc
  rw [List.contains_iff_mem] at hc
  have := h.2.1 _ hc
  cases this
theorem okP_chk {p : Nm} (h : okP p = true) : Word.chk p.name.data.toList = true ∧ 1 ≤ p.node ∧ p.node ≤ 255 := by
  simp only [okP, Bool.and_eq_true, decide_eq_true_eq] at h
  exact h

/-- A place's bytes. -/
def pb (p : Nm) : List UInt8 := p.name.data.toList ++ List.replicate (26 - p.name.data.toList.length) 0 ++ Bin.low 1 p.node ++ List.replicate 5 0
def bytesL (l : List Nm) : List UInt8 := l.flatMap pb

/-- What may stand in a block: no byte 0, a node of one byte. -/
structure LGood (p : Nm) : Prop where
  len : p.name.data.toList.length ≤ 26
  free : p.name.data.toList.contains 0 = false
  n0 : 0 ≤ p.node
  n1 : p.node ≤ 255
theorem good_of {l : List Nm} {i : Nat} {p : Nm} (h : okAt l i p = true) : LGood p := by
  rw [okAt, Bool.or_eq_true] at h
  rcases h with h | h
  · rw [emB_z h]
    exact ⟨by decide, rfl, by decide, by decide⟩
  · rw [Bool.and_eq_true] at h
    obtain ⟨h1, h2, h3⟩ := okP_chk h.1
    exact ⟨(Word.chk_len h1).2, chk_zero h1, by omega, h3⟩
theorem pb_length {p : Nm} (h : p.name.data.toList.length ≤ 26) : (pb p).length = 32 := by
  simp only [pb, List.length_append, List.length_replicate, Bin.low_length]
  omega
theorem bytesL_length : ∀ {l : List Nm}, (∀ p ∈ l, p.name.data.toList.length ≤ 26) → (bytesL l).length = 32 * l.length
  | [], _ => rfl
  | p :: l, h => by
    rw [bytesL, List.flatMap_cons, List.length_append, pb_length (h p (by simp)), List.length_cons]
    have := bytesL_length (l := l) (fun q hq => h q (by simp [hq]))
    rw [bytesL] at this
    omega
theorem bytesL_drop : ∀ {l : List Nm} (i : Nat), (∀ p ∈ l, p.name.data.toList.length ≤ 26) → (bytesL l).drop (32 * i) = bytesL (l.drop i)
  | _, 0, _ => by simp
  | [], i + 1, _ => by simp [bytesL]
  | p :: l, i + 1, h => by
    have e : 32 * (i + 1) = (pb p).length + 32 * i := by rw [pb_length (h p (by simp))]; omega
    rw [bytesL, List.flatMap_cons, e, ← List.drop_drop, List.drop_left, List.drop_succ_cons]
    exact bytesL_drop (l := l) i (fun q hq => h q (by simp [hq]))
theorem bytesL_take_succ {l : List Nm} {i : Nat} (hi : i < l.length) : bytesL (l.take (i + 1)) = bytesL (l.take i) ++ pb l[i] := by
  rw [List.take_succ_eq_append_getElem hi, bytesL, bytesL, List.flatMap_append]
  simp

/-- A text without the bytes 0 behind; empty, if one is left. -/
def trimL (t : List UInt8) : List UInt8 := Lib.trimRightB t 0
def cutB (t : List UInt8) : Bool := !(trimL t).contains 0
def cutL (t : List UInt8) : List UInt8 := if cutB t then trimL t else []

theorem drop_zeros (n : Nat) (l : List UInt8) : (List.replicate n 0 ++ l).dropWhile (· == (0 : UInt8)) = l.dropWhile (· == 0) := by
  induction n with
  | zero => rfl
  | succ n ih => rw [List.replicate_succ, List.cons_append, List.dropWhile_cons_of_pos (by rfl), ih]
theorem drop_none {l : List UInt8} (h : l.contains 0 = false) : l.dropWhile (· == (0 : UInt8)) = l := by
  cases l with
  | nil => rfl
  | cons b l =>
    have hb : (b == (0 : UInt8)) = false := by
      rw [List.contains_cons, Bool.or_eq_false_iff] at h
      have := h.1
      rw [beq_eq_false_iff_ne] at this ⊢
      exact fun e => this e.symm
    rw [List.dropWhile_cons_of_neg (by simp [hb])]
theorem trim_pad (l : List UInt8) (n : Nat) (h : l.contains 0 = false) : trimL (l ++ List.replicate n 0) = l := by
  unfold trimL Lib.trimRightB
  rw [List.reverse_append, List.reverse_replicate, drop_zeros, drop_none (by rw [List.contains_reverse]; exact h), List.reverse_reverse]
theorem cut_pad (l : List UInt8) (n : Nat) (h : l.contains 0 = false) : cutB (l ++ List.replicate n 0) = true ∧ cutL (l ++ List.replicate n 0) = l := by
  have e : cutB (l ++ List.replicate n 0) = true := by
    rw [cutB, trim_pad l n h, h]
    rfl
  exact ⟨e, by rw [cutL, if_pos e, trim_pad l n h]⟩

/-- The place that bytes say. -/
def nameAt (s : List UInt8) (i : Nat) : List UInt8 := (s.drop (32 * i)).take 26
def getN (s : List UInt8) (i : Nat) : Nm := ⟨⟨(cutL (nameAt s i)).toArray⟩, (Bin.num ((s.drop (32 * i + 26)).take 1) : Nat)⟩
def getL (s : List UInt8) : List Nm := (List.range 8).map (getN s)
def getB (s : List UInt8) : Bool := decide (s.length = 256) && (okB (getL s) && (bytesL (getL s) == s))
theorem getL_length (s : List UInt8) : (getL s).length = 8 := by simp [getL]
theorem getL_get (s : List UInt8) (i : Nat) (h : i < (getL s).length) : (getL s)[i] = getN s i := by simp [getL]

theorem pb_name {p : Nm} (h : p.name.data.toList.length ≤ 26) (r : List UInt8) : (pb p ++ r).take 26 = p.name.data.toList ++ List.replicate (26 - p.name.data.toList.length) 0 := by
  have e : pb p ++ r = (p.name.data.toList ++ List.replicate (26 - p.name.data.toList.length) 0) ++ (Bin.low 1 p.node ++ (List.replicate 5 0 ++ r)) := by simp [pb]
  rw [e, List.take_left']
  simp only [List.length_append, List.length_replicate]
  omega
theorem pb_node {p : Nm} (h : p.name.data.toList.length ≤ 26) (r : List UInt8) : ((pb p ++ r).drop 26).take 1 = Bin.low 1 p.node := by
  have e : pb p ++ r = (p.name.data.toList ++ List.replicate (26 - p.name.data.toList.length) 0) ++ (Bin.low 1 p.node ++ (List.replicate 5 0 ++ r)) := by simp [pb]
  rw [e, List.drop_left', List.take_left']
  · exact Bin.low_length 1 _
  · simp only [List.length_append, List.length_replicate]
    omega
theorem nm_eq {a b : Nm} (h1 : a.name = b.name) (h2 : a.node = b.node) : a = b := by
  obtain ⟨_, _⟩ := a
  obtain ⟨_, _⟩ := b
  simp only at h1 h2
  rw [h1, h2]

theorem bytesL_from {l : List Nm} (hl : ∀ p ∈ l, p.name.data.toList.length ≤ 26) {i : Nat} (hi : i < l.length) : (bytesL l).drop (32 * i) = pb l[i] ++ bytesL (l.drop (i + 1)) := by
  rw [bytesL_drop i hl, List.drop_eq_getElem_cons hi, bytesL, List.flatMap_cons]
  rfl
/-- What was put is got. -/
theorem get_bytes {l : List Nm} (h8 : l.length = 8) (hg : ∀ p ∈ l, LGood p) : getL (bytesL l) = l := by
  have hl : ∀ p ∈ l, p.name.data.toList.length ≤ 26 := fun p hp => (hg p hp).len
  apply List.ext_getElem
  · rw [getL_length, h8]
  · intro i h1 h2
    have G := hg _ (List.getElem_mem h2)
    have hf := bytesL_from hl h2
    rw [getL_get]
    refine nm_eq ?_ ?_
    · apply ba_eq
      show cutL (nameAt (bytesL l) i) = _
      rw [nameAt, hf, pb_name G.len]
      exact (cut_pad _ _ G.free).2
    · show ((Bin.num (((bytesL l).drop (32 * i + 26)).take 1) : Nat) : Int) = _
      rw [← List.drop_drop, hf, pb_node G.len]
      exact Bin.num_low 1 _ G.n0 (by have := G.n1; omega)
theorem good_all {l : List Nm} (h : okB l = true) : ∀ p ∈ l, LGood p := by
  intro p hp
  obtain ⟨i, hi, rfl⟩ := List.getElem_of_mem hp
  exact good_of ((okB_iff.1 h).2 i hi)
theorem get_put {l : List Nm} (h : okB l = true) : getL (bytesL l) = l := get_bytes (okB_len h) (good_all h)
theorem put_len {l : List Nm} (h : okB l = true) : (bytesL l).length = 256 := by
  rw [bytesL_length (fun p hp => (good_all h p hp).len), okB_len h]
theorem getB_put {l : List Nm} (h : okB l = true) : getB (bytesL l) = true := by
  rw [getB, get_put h, h, put_len h]
  simp
theorem getB_parts {s : List UInt8} (h : getB s = true) : s.length = 256 ∧ okB (getL s) = true ∧ bytesL (getL s) = s := by
  simp only [getB, Bool.and_eq_true, decide_eq_true_eq, beq_iff_eq] at h
  exact h
/-- A name that has a byte 0 inside makes a block none. -/
theorem getB_cut {s : List UInt8} (h : getB s = true) {i : Nat} (hi : i < 8) : cutB (nameAt s i) = true := by
  obtain ⟨_, h2, h3⟩ := getB_parts h
  have hlen : i < (getL s).length := by rw [getL_length]; exact hi
  have hl : ∀ p ∈ getL s, p.name.data.toList.length ≤ 26 := fun p hp => (good_all h2 p hp).len
  have G := good_all h2 _ (List.getElem_mem hlen)
  have hf := bytesL_from hl hlen
  rw [h3] at hf
  rw [nameAt, hf, pb_name G.len]
  exact (cut_pad _ _ G.free).1

/-- Behind place n all places are empty; the one ahead of it is not. -/
structure Lst (l : List Nm) (n : Nat) : Prop where
  le : n ≤ l.length
  behind : ∀ i, (h : i < l.length) → n ≤ i → emB l[i] = true
  ahead : 0 < n → ∀ (h : n - 1 < l.length), emB l[n - 1] = false
theorem lst_is (l : List Nm) : ∃ n, Lst l n := by
  have step : ∀ m, m ≤ l.length → (∀ i, (h : i < l.length) → m ≤ i → emB l[i] = true) → ∃ n, Lst l n := by
    intro m
    induction m with
    | zero => exact fun h hb => ⟨0, h, hb, fun h0 => absurd h0 (Nat.lt_irrefl 0)⟩
    | succ m ih =>
      intro h hb
      cases he : emB l[m] with
      | true =>
        refine ih (by omega) fun i hi hm => ?_
        by_cases e : i = m
        · subst e
          exact he
        · exact hb i hi (by omega)
      | false => exact ⟨m + 1, h, hb, fun _ _ => he⟩
  exact step l.length (Nat.le_refl _) fun i h h2 => absurd h (by omega)
theorem Lst.unique {l : List Nm} {n m : Nat} (h : Lst l n) (k : Lst l m) : n = m := by
  have aux : ∀ {a b : Nat}, Lst l a → Lst l b → ¬ a < b := by
    intro a b ha hb hlt
    have hb1 : b - 1 < l.length := by have := hb.le; omega
    have h1 := hb.ahead (by omega) hb1
    rw [ha.behind (b - 1) hb1 (by omega)] at h1
    cases h1
  rcases Nat.lt_trichotomy n m with h1 | h1 | h1
  · exact absurd h1 (aux h k)
  · exact h1
  · exact absurd h1 (aux k h)
/-- Places up to the last one in use, with empty ones up to whole blocks. -/
def trimTo (l : List Nm) (n : Nat) : List Nm := l.take n ++ List.replicate ((n + 7) / 8 * 8 - n) z
theorem trimTo_length {l : List Nm} {n : Nat} (h : n ≤ l.length) : (trimTo l n).length = (n + 7) / 8 * 8 := by
  rw [trimTo, List.length_append, List.length_take, List.length_replicate]
  omega
/-- As the program makes them: so many places, those that there are copied over empty ones. -/
def padTo (l : List Nm) (e : Nat) : List Nm := l.take e ++ List.replicate (e - l.length) z
theorem padTo_length (l : List Nm) (e : Nat) : (padTo l e).length = e := by
  rw [padTo, List.length_append, List.length_take, List.length_replicate]
  omega
theorem padTo_get {l : List Nm} {e i : Nat} (h : i < (padTo l e).length) : (padTo l e)[i] = if h2 : i < l.length then l[i] else z := by
  have he : i < e := by rw [padTo_length] at h; exact h
  by_cases h2 : i < l.length
  · rw [dif_pos h2]
    simp only [padTo]
    rw [List.getElem_append_left (by rw [List.length_take]; omega), List.getElem_take]
  · rw [dif_neg h2]
    simp only [padTo]
    rw [List.getElem_append_right (by rw [List.length_take]; omega), List.getElem_replicate]
theorem trimTo_get {l : List Nm} {n i : Nat} (hn : n ≤ l.length) (h : i < (trimTo l n).length) : (trimTo l n)[i] = if h2 : i < n then l[i]'(by omega) else z := by
  by_cases h2 : i < n
  · rw [dif_pos h2]
    simp only [trimTo]
    rw [List.getElem_append_left (by rw [List.length_take]; omega), List.getElem_take]
  · rw [dif_neg h2]
    simp only [trimTo]
    rw [List.getElem_append_right (by rw [List.length_take]; omega), List.getElem_replicate]
theorem padTo_trim {l : List Nm} {n e : Nat} (h : Lst l n) (he : e = (n + 7) / 8 * 8) : padTo l e = trimTo l n := by
  apply List.ext_getElem
  · rw [padTo_length, trimTo_length h.le, he]
  · intro i h1 h2
    rw [padTo_get, trimTo_get h.le]
    by_cases h3 : i < n
    · rw [dif_pos h3, dif_pos (by have := h.le; omega)]
    · rw [dif_neg h3]
      by_cases h4 : i < l.length
      · rw [dif_pos h4]
        exact emB_z (h.behind i h4 (by omega))
      · rw [dif_neg h4]

/-- Eight empty places. -/
def eight : List Nm := List.replicate 8 z
theorem eight_ok : okB eight = true := by
  rw [okB_iff]
  refine ⟨rfl, fun i h => ?_⟩
  have e : eight[i] = z := List.getElem_replicate ..
  rw [e]
  rfl
theorem eight_bytes : bytesL eight = List.replicate 256 0 := by decide +kernel
theorem eight_free : freeI eight = 0 := rfl
theorem eight_lst : Lst eight 0 := ⟨Nat.zero_le _, fun i h _ => by
  have e : eight[i] = z := List.getElem_replicate ..
  rw [e]
  rfl, fun h => absurd h (Nat.lt_irrefl 0)⟩
end Lf
end Go.Proofs.YtpgbnfolekanmaaDoor
