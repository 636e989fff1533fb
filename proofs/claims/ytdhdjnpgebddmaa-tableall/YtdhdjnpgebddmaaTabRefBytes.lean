/- What the document's own Put says, part by part. -/
import Derived.Test.YtdhdjnpgebddmaaTabRefCheckAll
import Derived.Test.YtdhdjnpgebddmaaBinRef
import Derived.Test.YtdhdjnpgebddmaaCrcRef
import Derived.Deep.RegionHeld3
namespace Go.Proofs.Ytdhdjnpgebddmaa
open Go.RowKit Tab

/-- So many bytes of a number, as a text. -/
def lowS (n : Nat) (v : Int) : ByteArray := ⟨(Bin.low n v).toArray⟩
theorem lowS_len (n : Nat) (v : Int) : (lowS n v).size = n := by
  show (Bin.low n v).toArray.size = n
  simp [Bin.low_length]
theorem lowS_list (n : Nat) (v : Int) : (lowS n v).data.toList = Bin.low n v := by simp [lowS]
theorem refPutS_t (v n : Int) (w : World) (h0 : 0 ≤ n) (h7 : n ≤ 7) (h1 : -9223372036854775808 ≤ v) (h2 : v ≤ 9223372036854775807) :
    Calls Try.prog 31 #[.int .i64 v, .int .i64 n] w fun e w' => e = .returned (.string (lowS n.toNat v)) ∧ Below w.heap.size w w' := by
  have := refPut_t v n.toNat w (by omega) h1 h2
  rw [show ((n.toNat : Nat) : Int) = n by omega] at this
  exact this

/-- A house's segments as the document puts them: so many places. -/
def segPart (l : List Int) (k : Nat) : List UInt8 := (List.range k).flatMap fun j => Bin.low 2 (l.getD j 0)
theorem segPart_succ (l : List Int) (k : Nat) : segPart l (k + 1) = segPart l k ++ Bin.low 2 (l.getD k 0) := by
  simp [segPart, List.range_succ]
theorem segPart_length (l : List Int) (k : Nat) : (segPart l k).length = 2 * k := by
  induction k with
  | zero => rfl
  | succ k ih =>
    rw [segPart_succ, List.length_append, ih, Bin.low_length]
    omega
theorem segPart_in (l : List Int) : ∀ k, k ≤ l.length → segPart l k = segBytes (l.take k)
  | 0, _ => rfl
  | k + 1, h => by
    have hk : k < l.length := by omega
    have e : l.getD k 0 = l[k] := by simp [List.getD, hk]
    rw [segPart_succ, segPart_in l k (by omega), e, List.take_succ_eq_append_getElem hk, segBytes, segBytes, List.flatMap_append, List.flatMap_cons, List.flatMap_nil, List.append_nil]
theorem segPart_out (l : List Int) : ∀ k, segPart l (l.length + k) = segBytes l ++ List.replicate (2 * k) 0
  | 0 => by rw [Nat.add_zero, segPart_in l _ (Nat.le_refl _), List.take_length]; simp
  | k + 1 => by
    have e0 : Bin.low 2 0 = [0, 0] := by decide
    have e1 : l.getD (l.length + k) 0 = 0 := by simp [List.getD]
    rw [← Nat.add_assoc, segPart_succ, segPart_out l k, e1, e0, List.append_assoc]
    congr 1
    rw [show 2 * (k + 1) = 2 * k + 2 by omega]
    exact List.replicate_append_replicate (n := 2 * k) (m := 2) (a := (0 : UInt8))
theorem segPart_all (l : List Int) (h : l.length ≤ 40) : segPart l 40 = segBytes l ++ List.replicate (2 * (40 - l.length)) 0 := by
  have := segPart_out l (40 - l.length)
  rw [show l.length + (40 - l.length) = 40 by omega] at this
  exact this
/-- A house's bytes ahead of its segments. -/
def headBytes (x : Ho) : List UInt8 := nums (fieldsOf x) ++ Bin.low 1 x.segs.length
theorem headBytes_length (x : Ho) : (headBytes x).length = 21 := by
  simp [headBytes, nums_length, Bin.low_length]
theorem hbytes_parts (x : Ho) (h : x.segs.length ≤ 40) : hbytes x = headBytes x ++ segPart x.segs 40 := by
  rw [segPart_all _ h]
  simp only [hbytes, headBytes, List.append_assoc]

theorem flat_snocR (l : List Ho) (i : Nat) (hi : i < l.length) : (l.take (i + 1)).flatMap hbytes = (l.take i).flatMap hbytes ++ hbytes l[i] := by
  rw [List.take_succ_eq_append_getElem hi]
  simp only [List.flatMap_append, List.flatMap_cons, List.flatMap_nil, List.append_nil]
theorem zeros418_make (w : World) : (Instr.makeSlice 39 (.int .i64 418) (.int .i64 418)).run Try.prog w = .ok (.slice (some ⟨w.heap.size, 0, none⟩) 418 418) (w.alloc (.cells (Array.replicate 418 (.int .u8 0)) 5)) := by kernel_rfl
def zeros418 : ByteArray := ⟨(List.replicate 418 (0 : UInt8)).toArray⟩
theorem zeros418_list : zeros418.data.toList = List.replicate 418 0 := rfl
theorem zeros418_conv (w : World) : (convert 39 9 (.slice (some ⟨w.heap.size, 0, none⟩) 418 418)).run Try.prog (w.alloc (.cells (Array.replicate 418 (.int .u8 0)) 5)) = .ok (.string zeros418) (w.alloc (.cells (Array.replicate 418 (.int .u8 0)) 5)) := by
  have := bin_conv (w.alloc (.cells (Array.replicate 418 (.int .u8 0)) 5)) w.heap.size 0 418 (List.replicate 418 (0 : UInt8)) (fun t ht => by
    have ht2 : t < 418 := by rw [List.length_replicate] at ht; exact ht
    rw [cell_of_row _ w.heap.size _ _ 5 _ (heap_alloc_new _ _), Nat.zero_add, List.getElem_replicate, Array.getElem?_replicate, if_pos ht2]
    rfl)
  rw [List.length_replicate] at this
  exact this

end Go.Proofs.Ytdhdjnpgebddmaa
