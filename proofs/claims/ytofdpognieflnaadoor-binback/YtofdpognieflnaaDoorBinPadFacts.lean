/- What Pad answers, plainly: facts. -/
import Derived.Test.YtofdpognieflnaaDoorBinPad
namespace Go.Proofs.YtofdpognieflnaaDoor
open Go.RowKit

theorem cut_pad (l : List UInt8) (n : Nat) (h : l.contains 0 = false) : (l ++ List.replicate n 0).takeWhile (fun b => b != 0) = l := by
  have h1 : ∀ x ∈ l, (fun b : UInt8 => b != 0) x = true := by
    intro x hx
    have : x ≠ 0 := by
      intro e
      subst e
      rw [List.contains_iff_mem.2 hx] at h
      cases h
    simpa using this
  rw [List.takeWhile_append_of_pos h1]
  cases n with
  | zero => simp
  | succ n => simp [List.replicate_succ]

theorem padB_parts {s : ByteArray} {n : Nat} (h : padB s n = true) : s.size ≤ n ∧ has0 s = false := by
  simp [padB] at h
  exact ⟨h.1.1, h.2⟩

theorem padB_eq (s : ByteArray) (n : Nat) (hn : n ≤ 4194304) (h0 : has0 s = false) : padB s n = decide (s.size ≤ n) := by
  simp [padB, h0, hn]

theorem padB_zero (s : ByteArray) (n : Nat) (h0 : has0 s = true) : padB s n = false := by
  simp [padB, h0]

theorem padS_list {s : ByteArray} {n : Nat} (h : padB s n = true) : (padS s n).data.toList = s.data.toList ++ List.replicate (n - s.size) 0 := by
  rw [padS, if_pos h]
  simp [zeros]

theorem padS_size {s : ByteArray} {n : Nat} (h : padB s n = true) : (padS s n).size = n := by
  rw [padS, if_pos h, ByteArray.size_append, zeros_size]
  have := (padB_parts h).1
  omega

theorem padS_none {s : ByteArray} {n : Nat} (h : padB s n = false) : padS s n = ⟨#[]⟩ := by
  rw [padS, h]
  rfl

theorem bytes_eq {a b : ByteArray} (h : a.data.toList = b.data.toList) : a = b := by
  apply ByteArray.ext
  exact Array.toList_inj.1 h

theorem padS_alike {a b : ByteArray} {n : Nat} (ha : padB a n = true) (hb : padB b n = true) : ((padS a n).toList == (padS b n).toList) = (a.toList == b.toList) := by
  rw [ByteArray.toList_eq, ByteArray.toList_eq, ByteArray.toList_eq, ByteArray.toList_eq, Bool.eq_iff_iff, beq_iff_eq, beq_iff_eq]
  constructor
  · intro h
    rw [padS_list ha, padS_list hb] at h
    have e := congrArg (List.takeWhile (fun b => b != 0)) h
    rw [cut_pad _ _ (padB_parts ha).2, cut_pad _ _ (padB_parts hb).2] at e
    exact e
  · intro h
    rw [bytes_eq h]

theorem has0_at {s : ByteArray} {i : Nat} (hi : i < s.size) (h : s[i] = 0) : has0 s = true := by
  unfold has0
  rw [List.contains_iff_mem]
  have : s[i] ∈ s.data.toList := by
    rw [Array.mem_toList_iff]
    exact Array.getElem_mem hi
  rw [h] at this
  exact this

theorem has0_none {s : ByteArray} (h : ∀ i (hi : i < s.size), s[i] ≠ 0) : has0 s = false := by
  unfold has0
  rw [Bool.eq_false_iff]
  intro hc
  rw [List.contains_iff_mem, Array.mem_toList_iff] at hc
  obtain ⟨i, hi, e⟩ := Array.mem_iff_getElem.1 hc
  exact h i hi e

end Go.Proofs.YtofdpognieflnaaDoor
