/- Bytes that lie in cells: a text of them, a part of a text. -/
import Derived.Test.YtdkicnpbcljofaaBinNum
import Derived.WalkSpells
import Derived.WalkLawsBesides
import Derived.Laws.BytesArg
import Derived.Laws.BitsAllLaws
import Derived.Below
namespace Go.Proofs.Ytdkicnpbcljofaa
open Go.RowKit

theorem binhid {P : Prop} (h : P) : Hid P := h

theorem binEnd {k : IntKind} {a b : Int} (h : a = b) : Ending.returned (.int k a) = .returned (.int k b) := by rw [h]

theorem Try.binfo5 : (Try.prog.info? 5).map (fun i => (i.zero, i.size, i.bytes)) = some (some (.int .u8 0), 1, 1) := by kernel_rfl

theorem bin_str (l : List UInt8) : strOfNums (l.map fun b => (b.toNat : Int)) = ⟨l.toArray⟩ := by
  have e : ((fun n : Int => UInt8.ofNat n.toNat) ∘ fun b : UInt8 => (b.toNat : Int)) = id := by
    funext b
    simp
  apply ByteArray.ext
  simp [strOfNums, e]

theorem bin_conv (w : World) (b off cap : Nat) (l : List UInt8) (h : ∀ t (h : t < l.length), w.cell? ⟨b, off + t, none⟩ = some (.int .u8 (l[t].toNat : Int))) :
    (convert 41 9 (.slice (some ⟨b, off, none⟩) l.length cap)).run Try.prog w = .ok (.string ⟨l.toArray⟩) w := by
  have := run_convert_bytes_arg (P := Try.prog) w 41 5 Try.underlying41 Try.underlying5 b off l.length cap (l.map fun b => (b.toNat : Int)) (by simp) (fun i hi => by
    rw [h i hi]
    simp [List.getD, hi]) 9 Try.underlying9
  rw [this, bin_str]

def part (s : ByteArray) (a n : Nat) : List UInt8 := (s.data.toList.drop a).take n
theorem part_length (s : ByteArray) (a n : Nat) (h : a + n ≤ s.size) : (part s a n).length = n := by
  have e : s.data.toList.length = s.size := by simp
  unfold part
  rw [List.length_take, List.length_drop]
  omega
theorem part_zero (s : ByteArray) (a : Nat) : part s a 0 = [] := by simp [part]
theorem part_succ (s : ByteArray) (a n : Nat) (h : a + n < s.size) : part s a (n + 1) = part s a n ++ [s[a + n]] := by
  unfold part
  have h2 : n < (s.data.toList.drop a).length := by simp; omega
  rw [List.take_succ_eq_append_getElem h2]
  simp
  rfl
end Go.Proofs.Ytdkicnpbcljofaa
