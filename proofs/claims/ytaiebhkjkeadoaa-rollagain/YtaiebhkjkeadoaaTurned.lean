/- A text as a row of bytes, and a bit that is turned. -/
import Derived.Test.YtaiebhkjkeadoaaSum
import Derived.Test.YtaiebhkjkeadoaaBinPut
import Derived.Laws.IdiomStrings
import Derived.BigRegion
namespace Go.Proofs.Ytaiebhkjkeadoaa
open Go.RowKit

theorem bytesRow_get (S : ByteArray) (gc j : Nat) (hj : j < S.data.toList.length) : (bytesRow S gc)[j]? = some (.int .u8 (S.data.toList[j].toNat : Int)) := by
  have h : j < S.data.size := by simpa using hj
  unfold bytesRow
  rw [Array.getElem?_append_left (by simpa using h)]
  simp [Array.getElem?_eq_getElem h]
theorem brow_cell {D : World} {g gc : Nat} {S : ByteArray} {fr : Nat × Nat} (h : D.heap[g]? = some (.cells (bytesRow S gc) 5 fr)) (j : Nat) (hj : j < S.data.toList.length) : D.cell? ⟨g, j, none⟩ = some (.int .u8 (S.data.toList[j].toNat : Int)) := by
  rw [← bytesRow_get S gc j hj]
  simp [World.cell?, h]
theorem bytesRow_size (S : ByteArray) (gc : Nat) : S.size ≤ (bytesRow S gc).size := by
  simp [bytesRow]
theorem brow_frozen {D : World} {g gc : Nat} {S : ByteArray} (h : D.heap[g]? = some (.cells (bytesRow S gc) 5 ((bytesRow S gc).size, (bytesRow S gc).size + 1))) (j : Nat) (hj : j < S.size) : D.frozen? ⟨g, j, none⟩ = false := by
  have := bytesRow_size S gc
  simp [World.frozen?, h]
  omega
theorem turn_bit (x : UInt8) (r : Nat) : bits .xor .u8 (x.toNat : Int) ((2 : Int) ^ r % 256) = ((x ^^^ UInt8.ofNat (2 ^ r % 256)).toNat : Int) := by
  have e : ((2 : Int) ^ r % 256) = ((2 ^ r % 256 : Nat) : Int) := by simp
  rw [e, u8_xor_nat _ _ (Sum.byte_lt x) (Nat.mod_lt _ (by decide)), UInt8.toNat_xor, Sum.toNat_low]
theorem turn_other (x : UInt8) (r : Nat) (hr : r < 8) : x ^^^ UInt8.ofNat (2 ^ r % 256) ≠ x := by
  intro h
  have h2 : x ^^^ (x ^^^ UInt8.ofNat (2 ^ r % 256)) = x ^^^ x := by rw [h]
  rw [← UInt8.xor_assoc, UInt8.xor_self, UInt8.zero_xor] at h2
  have hc : r = 0 ∨ r = 1 ∨ r = 2 ∨ r = 3 ∨ r = 4 ∨ r = 5 ∨ r = 6 ∨ r = 7 := by omega
  rcases hc with rfl | rfl | rfl | rfl | rfl | rfl | rfl | rfl <;> exact absurd h2 (by decide)
theorem addr_plain (g o j : Nat) : (⟨g, o, none⟩ : Addr).add j = ⟨g, o + j, none⟩ := by unfold Addr.add; split <;> simp_all
/-- The text of a part of a row of bytes. -/
theorem part_conv (E : World) (g off cap : Nat) (L : List UInt8) (h : ∀ j (hj : j < L.length), E.cell? ⟨g, off + j, none⟩ = some (.int .u8 (L[j].toNat : Int))) :
    (convert 50 9 (.slice (some ⟨g, off, none⟩) L.length cap)).run Try.prog E = .ok (.string ⟨L.toArray⟩) E := bin_conv E g off cap L h
end Go.Proofs.Ytaiebhkjkeadoaa
