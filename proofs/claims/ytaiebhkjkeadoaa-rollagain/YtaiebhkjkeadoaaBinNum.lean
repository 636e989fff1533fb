/- Numbers as bytes, plainly: the lowest bytes of a number, the number of bytes, there and back. Nothing of the program. -/
import Derived.Test.YtaiebhkjkeadoaaRows
import Derived.WalkKit
namespace Go.Proofs.Ytaiebhkjkeadoaa
open Go.RowKit

namespace Bin
/-- The n lowest bytes of a number, the lowest first. -/
def low : Nat → Int → List UInt8
  | 0, _ => []
  | n + 1, v => UInt8.ofNat (v % 256).toNat :: low n (v / 256)
/-- The number of bytes, the first one the lowest. -/
def num : List UInt8 → Nat
  | [] => 0
  | b :: l => b.toNat + 256 * num l

theorem byte_lt (b : UInt8) : b.toNat < 256 := UInt8.toNat_lt b
theorem toNat_of (n : Nat) (h : n < 256) : (UInt8.ofNat n).toNat = n := by simp [Nat.mod_eq_of_lt h]

theorem low_length : ∀ (n : Nat) (v : Int), (low n v).length = n
  | 0, _ => rfl
  | n + 1, v => by rw [low, List.length_cons, low_length]

theorem low_get : ∀ (n : Nat) (v : Int) (j : Nat) (_ : j < n), (low n v)[j]? = some (UInt8.ofNat (v / 256 ^ j % 256).toNat)
  | n + 1, v, 0, _ => by simp [low]
  | n + 1, v, j + 1, h => by
    rw [low, List.getElem?_cons_succ, low_get n (v / 256) j (by omega), Int.ediv_ediv_of_nonneg (by decide), Int.pow_succ, Int.mul_comm (256 ^ j) 256]

theorem num_lt : ∀ l : List UInt8, num l < 256 ^ l.length
  | [] => by decide
  | b :: l => by
    have h1 := num_lt l
    have h2 := byte_lt b
    rw [num, List.length_cons, Nat.pow_succ]
    omega

theorem num_append : ∀ (l r : List UInt8), num (l ++ r) = num l + 256 ^ l.length * num r
  | [], r => by simp [num]
  | b :: l, r => by
    rw [List.cons_append, num, num, num_append l r, List.length_cons, Nat.pow_succ, Nat.mul_add, ← Nat.mul_assoc, Nat.mul_comm 256 (256 ^ l.length), Nat.add_assoc]

theorem num_snoc (l : List UInt8) (b : UInt8) : num (l ++ [b]) = num l + 256 ^ l.length * b.toNat := by
  rw [num_append]
  simp [num]

theorem num_low : ∀ (n : Nat) (v : Int) (_ : 0 ≤ v) (_ : v < ((256 ^ n : Nat) : Int)), (num (low n v) : Int) = v
  | 0, v, h0, h => by
    simp at h
    simp [low, num]
    omega
  | n + 1, v, h0, h => by
    rw [Nat.pow_succ] at h
    have ih := num_low n (v / 256) (by omega) (by omega)
    have e := toNat_of (v % 256).toNat (by omega)
    rw [low, num, e]
    omega

theorem low_head (n : Nat) (v : Int) (h : 0 < n) : (low n v)[0]? = some (UInt8.ofNat (v % 256).toNat) := by
  rw [low_get n v 0 h]
  simp

theorem low_258 : low 2 258 = [2, 1] := by decide
theorem num_258 : num [2, 1] = 258 := by decide
end Bin
end Go.Proofs.Ytaiebhkjkeadoaa
