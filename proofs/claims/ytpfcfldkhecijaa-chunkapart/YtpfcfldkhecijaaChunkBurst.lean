/- Four bytes of a chunk's blocks turned, plainly. Nothing of the program. -/
import Derived.Test.YtpfcfldkhecijaaChunkPlain
namespace Go.Proofs.Ytpfcfldkhecijaa
namespace Chk
open Rec Hdp
open Bin (low num)

/-- the bytes behind i turnings -/
def Tw (bs : List UInt8) (m X : Nat) : Nat → List UInt8
  | 0 => bs
  | i + 1 => (Tw bs m X i).set (m + i) ((Tw bs m X i).getD (m + i) 0 ^^^ UInt8.ofNat (X / 256 ^ i % 256))
theorem Tw_length (bs : List UInt8) (m X : Nat) : ∀ i, (Tw bs m X i).length = bs.length
  | 0 => rfl
  | i + 1 => by rw [Tw, List.length_set, Tw_length]
theorem Tw_five {l : List UInt8} {m : Nat} (h : m + 5 ≤ l.length) (X : Nat) : ∃ p q r, l = p ++ q ++ r ∧ q.length = 5 ∧ Tw l m X 5 = p ++ Sum.xorL q (Sum.low 5 X) ++ r := by
  obtain ⟨p, hp⟩ : ∃ p, p = l.take m := ⟨_, rfl⟩
  obtain ⟨t, ht⟩ : ∃ t, t = l.drop m := ⟨_, rfl⟩
  have hl : l = p ++ t := by rw [hp, ht, List.take_append_drop]
  have hpl : p.length = m := by rw [hp, List.length_take]; omega
  have htl : 5 ≤ t.length := by rw [ht, List.length_drop]; omega
  clear hp ht
  subst hl hpl
  match t, htl with
  | a :: b :: c :: d :: e :: r, _ =>
    refine ⟨p, [a, b, c, d, e], r, by simp, rfl, ?_⟩
    simp [Tw, Sum.low, Sum.xorL, List.set_append_right, List.getD, Nat.div_div_eq_div_mul]
theorem Tw_succ (bs : List UInt8) (m X i : Nat) (h : m + i < (Tw bs m X i).length) : Tw bs m X (i + 1) = (Tw bs m X i).set (m + i) ((Tw bs m X i)[m + i] ^^^ UInt8.ofNat (X / 256 ^ i % 256)) := by
  rw [Tw, List.getD, List.getElem?_eq_getElem h]
  rfl
theorem Tw_four {l : List UInt8} {m row : Nat} (h : m + 5 ≤ l.length) (hr : row < 4294967296) : Tw l m row 5 = Tw l m row 4 := by
  have hl := Tw_length l m row 4
  rw [Tw_succ l m row 4 (by omega)]
  have e : row / 256 ^ 4 % 256 = 0 := by omega
  have e2 : (Tw l m row 4)[m + 4]'(by omega) ^^^ UInt8.ofNat (row / 256 ^ 4 % 256) = (Tw l m row 4)[m + 4]'(by omega) := by
    rw [e]
    exact UInt8.xor_zero
  rw [e2]
  exact List.set_getElem_self (by omega)
theorem Tw_ne {l : List UInt8} {m row : Nat} (h : m + 5 ≤ l.length) (h0 : row ≠ 0) (hr : row < 4294967296) : Sum.crc (Tw l m row 4) ≠ Sum.crc l := by
  obtain ⟨p, q, r, hl, hq, ht⟩ := Tw_five h row
  rw [← Tw_four h hr, ht]
  intro e
  have e2 : Sum.crc (p ++ q ++ r) = Sum.crc (p ++ Sum.xorL q (Sum.low 5 (row * 2 ^ 0)) ++ r) := by
    rw [← hl, Nat.pow_zero, Nat.mul_one]
    exact e.symm
  exact Sum.turned hq h0 hr (by decide) e2
theorem Tw_append (p l : List UInt8) (m X : Nat) : ∀ i, Tw (p ++ l) (p.length + m) X i = p ++ Tw l m X i
  | 0 => rfl
  | i + 1 => by
    rw [Tw, Tw, Tw_append p l m X i, Nat.add_assoc, List.set_append_right _ _ (by omega), Nat.add_sub_cancel_left]
    congr 3
    rw [List.getD, List.getD, List.getElem?_append_right (by omega), Nat.add_sub_cancel_left]

/-- A chunk with four bytes of its blocks turned is none. -/
theorem par_burst {x : Hd} {l : List ByteArray} (h : makeB x l = true) {k row : Nat} (hk : 256 ≤ k) (hk5 : k + 5 ≤ (makeS x l).data.toList.length) (h0 : row ≠ 0) (hr : row < 4294967296) {s : ByteArray} (hs : s.data.toList = Tw (makeS x l).data.toList k row 4) : parB s = false := by
  obtain ⟨h1, h2, h3, h4, h5⟩ := makeB_parts h
  have hF := front_length (okB_len h3)
  have hl4 := Bin.low_length 4 (sumL (front x) (joinL l) : Nat)
  rw [makeS_list h] at hs hk5
  have hFl : (front x ++ low 4 (sumL (front x) (joinL l) : Nat)).length = 256 := by rw [List.length_append]; omega
  rw [List.length_append] at hk5
  have e1 : k = (front x ++ low 4 (sumL (front x) (joinL l) : Nat)).length + (k - 256) := by omega
  rw [e1, Tw_append] at hs
  refine par_body h hs (Tw_length _ _ _ _) ?_
  have e2 := Tw_append (front x) (joinL l) (k - 256) row 4
  rw [← e2]
  exact Tw_ne (by rw [List.length_append]; omega) h0 hr
end Chk
end Go.Proofs.Ytpfcfldkhecijaa
