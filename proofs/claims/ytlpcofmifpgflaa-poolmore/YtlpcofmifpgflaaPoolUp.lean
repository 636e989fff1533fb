/- Houses of segments one behind the other, plainly: which are nobody's. Nothing of the program. -/
import Derived.Test.YtlpcofmifpgflaaPoolRow
namespace Go.Proofs.Ytlpcofmifpgflaa
open Go.RowKit Pool

/-- So many numbers from a on. -/
def seq (a : Nat) (j : Nat) : List Int := (List.range j).map fun (t : Nat) => ((a + t : Nat) : Int)
theorem seq_succ (a j : Nat) : seq a (j + 1) = seq a j ++ [((a + j : Nat) : Int)] := by simp [seq, List.range_succ]
theorem seq_length (a j : Nat) : (seq a j).length = j := by simp [seq]
theorem seq_mem (a j : Nat) (s : Int) : s ∈ seq a j ↔ (a : Int) ≤ s ∧ s < a + j := by
  unfold seq
  rw [List.mem_map]
  constructor
  · rintro ⟨t, ht, rfl⟩
    have := List.mem_range.1 ht
    omega
  · rintro ⟨h0, h1⟩
    exact ⟨(s - a).toNat, List.mem_range.2 (by omega), by omega⟩

/-- The houses have all segments below a, and no other. -/
def Upto (l : List Ho) (a : Nat) : Prop := ∀ s : Int, tkn l s = decide (0 ≤ s ∧ s < a)
theorem Upto.nil : Upto [] 0 := fun s => by
  rw [decide_eq_false (by omega)]
  rfl
theorem Upto.more {l : List Ho} {a n : Nat} (h : Upto l a) (x : Ho) (hx : x.segs = seq a n) : Upto (l ++ [x]) (a + n) := fun s => by
  rw [tkn_app, tkn_one, h s, hx]
  by_cases h1 : (a : Int) ≤ s ∧ s < a + n
  · rw [(inL_iff _ _).2 ((seq_mem a n s).2 h1), Bool.or_true, decide_eq_true (by omega)]
  · have : inL (seq a n) s = false := by
      rw [Bool.eq_false_iff]
      exact fun hh => h1 ((seq_mem a n s).1 ((inL_iff _ _).1 hh))
    rw [this, Bool.or_false]
    exact decide_eq_decide.2 (by omega)
theorem Upto.free {l : List Ho} {a : Nat} (h : Upto l a) : ∀ k : Nat, freeL l k = seq a (k - a)
  | 0 => by
    rw [Nat.zero_sub]
    rfl
  | k + 1 => by
    by_cases hk : k < a
    · rw [freeL_no l k (by rw [h, decide_eq_true (by omega)]), h.free k, show k + 1 - a = k - a by omega]
    · rw [freeL_yes l k (by rw [h, decide_eq_false (by omega)]), h.free k, show k + 1 - a = (k - a) + 1 by omega, seq_succ, show a + (k - a) = k by omega]
end Go.Proofs.Ytlpcofmifpgflaa
