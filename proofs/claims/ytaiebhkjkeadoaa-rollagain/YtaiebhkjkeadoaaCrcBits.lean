/- Steps of a sum as the machine's own numbers. -/
import Derived.Test.YtaiebhkjkeadoaaRows
import Derived.Test.YtaiebhkjkeadoaaSum
import Derived.WalkKit
import Derived.WalkSpells
import Derived.WalkLawsBesides
namespace Go.Proofs.Ytaiebhkjkeadoaa
open Go.RowKit

theorem hid {P : Prop} (h : P) : Hid P := h

theorem x_ones (n : Nat) (h : n < 4294967296) : bits .xor .u32 IntKind.u32.max (n : Int) = ((Sum.ones ^^^ n : Nat) : Int) := u32_xor_nat 4294967295 n (by decide) h
theorem x_byte (h : Nat) (b : UInt8) (hh : h < 4294967296) : bits .xor .u32 (h : Int) ((b.toNat : Int) % 4294967296) = ((h ^^^ b.toNat : Nat) : Int) := by
  have hb := Sum.byte_lt b
  rw [Int.emod_eq_of_lt (by omega) (by omega)]
  exact u32_xor_nat h b.toNat hh (by omega)
theorem a_one (h : Nat) (hh : h < 4294967296) : bits .and .u32 (h : Int) 1 = ((h % 2 : Nat) : Int) := by
  have := u32_and_nat h 1 hh (by decide)
  rw [nat_mask1] at this
  exact this
theorem x_poly (h : Nat) (hh : h < 4294967296) : bits .xor .u32 ((h : Int) / 2) 3988292384 = ((h / 2 ^^^ Sum.poly : Nat) : Int) := u32_xor_nat (h / 2) 3988292384 (by omega) (by decide)

theorem ret_nat {k : IntKind} {a b : Nat} (h : a = b) : Ending.returned (.int k (a : Int)) = .returned (.int k (b : Int)) := by rw [h]

theorem drop_at (s : ByteArray) (i : Nat) (hi : i < s.size) : s.data.toList.drop i = s[i] :: s.data.toList.drop (i + 1) := by
  have h : i < s.data.toList.length := by simpa using hi
  rw [List.drop_eq_getElem_cons h]
  rfl
end Go.Proofs.Ytaiebhkjkeadoaa
