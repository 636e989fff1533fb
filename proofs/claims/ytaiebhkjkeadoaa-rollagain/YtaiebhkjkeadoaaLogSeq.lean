/- Numbers one behind the other; the laws' own log as it begins, plainly. -/
import Derived.Test.YtaiebhkjkeadoaaLogLay
namespace Go.Proofs.Ytaiebhkjkeadoaa

/-- Numbers one behind the other. -/
def seqL (a k : Nat) : List Int := (List.range k).map fun (i : Nat) => (a : Int) + (i : Int)
theorem seqL_length (a k : Nat) : (seqL a k).length = k := by simp [seqL]
theorem seqL_succ (a k : Nat) : seqL a (k + 1) = seqL a k ++ [(a : Int) + (k : Int)] := by simp [seqL, List.range_succ]
theorem seqL_cons (a k : Nat) : seqL a (k + 1) = (a : Int) :: seqL (a + 1) k := by
  apply List.ext_getElem
  · simp [seqL]
  · intro i h1 h2
    cases i with
    | zero => simp [seqL]
    | succ j => simp [seqL]; omega
theorem seqL_mem {a k : Nat} {x : Int} (h : x ∈ seqL a k) : (a : Int) ≤ x ∧ x < (a : Int) + (k : Int) := by
  obtain ⟨i, hi, rfl⟩ := List.mem_map.1 h
  have := List.mem_range.1 hi
  omega

/-- The log of the laws: n segments, 0 the first one, 1 the one behind it. -/
def lg1 (n : Nat) : Lg := ⟨3, 7, 1, 2, 0, 0, 0, 1, 5, 0, 0, 0, 0, 0, 0, seqL 2 (n - 2)⟩
end Go.Proofs.Ytaiebhkjkeadoaa
