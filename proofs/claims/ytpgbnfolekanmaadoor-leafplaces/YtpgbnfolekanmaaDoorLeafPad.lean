/- Names with bytes 0 behind: the program's Pad and Cut walked, over the library's own Contains, Repeat and TrimRight by their contracts; the document's own. -/
import Derived.Test.YtpgbnfolekanmaaDoorLeafCode
import Derived.Test.YtpgbnfolekanmaaDoorBinShelf
import Derived.Test.YtpgbnfolekanmaaDoorZeros
import Derived.Lib.IndexAny
namespace Go.Proofs.YtpgbnfolekanmaaDoor
open Go.RowKit Lf

theorem lfCut {a b : ByteArray} {c d : Bool} (h : a = b) (k : c = d) : Ending.returned (.tuple #[.string a, .bool c]) = .returned (.tuple #[.string b, .bool d]) := by rw [h, k]

theorem has0_t (s : ByteArray) (w : World) :
    Calls Tryd.prog 38 #[.string s, .string ⟨#[0]⟩] w fun e w' => e = .returned (.bool (s.data.toList.contains 0)) ∧ w = w' :=
  (Any.strings_Contains_one binContains s 0 w).mono fun _ _ ⟨he, hw⟩ => ⟨by rw [he, Lib.contains_iff_indexByte], hw.symm⟩
theorem trim0_t (s : ByteArray) (w : World) (hs : s.size ≤ 9223372036854775807) :
    Calls Tryd.prog 45 #[.string s, .string ⟨#[0]⟩] w fun e w' => e = .returned (.string ⟨(trimL s.data.toList).toArray⟩) ∧ w = w' :=
  (Any.strings_TrimRight_one binTrim s 0 (by decide) w hs).mono fun _ _ ⟨he, hw⟩ => ⟨he, hw.symm⟩

/-- A name with bytes 0 behind, 26 in all. -/
def padN (s : ByteArray) : ByteArray := s ++ zerosS (26 - s.size)
theorem padN_list (s : ByteArray) : (padN s).data.toList = s.data.toList ++ List.replicate (26 - s.data.toList.length) 0 := by
  rw [padN, ByteArray.data_append, Array.toList_append, zerosS_list]
  simp
theorem padN_size {s : ByteArray} (h : s.size ≤ 26) : (padN s).size = 26 := by
  rw [padN, ByteArray.size_append, zerosS_size]
  omega

set_option maxHeartbeats 1000000 in
theorem pad_t (s : ByteArray) (w : World) (h1 : s.size ≤ 26) (h0 : s.data.toList.contains 0 = false) :
    Calls Tryd.prog 24 #[.string s, .int .i64 26] w fun e w' => e = .returned (.tuple #[.string (padN s), .bool true]) ∧ Below w.heap.size w w' := by
  have hd : (26 : Int) - (s.size : Int) = ((26 - s.size : Nat) : Int) := by omega
  have hzs := zerosS_size (26 - s.size)
  have Z := lfhid (zerosS_t (26 - s.size) w (by omega))
  unfold padN
  generalize zerosS (26 - s.size) = z at *
  generalize 26 - s.size = d at *
  go_enter Tryd.func24, Tryd.ntmps24
  go_wp2_with fail
  refine (has0_t s w).mono ?_
  rintro e w1 ⟨rfl, rfl⟩
  rw [h0]
  go_wp2_with fail
  refine Z.out.mono ?_
  rintro e w1 ⟨rfl, hb⟩
  go_wp2_with fail
  go_ret2
  exact ⟨rfl, hb⟩

set_option maxHeartbeats 1000000 in
theorem cut_t (s : ByteArray) (w : World) (hs : s.size ≤ 9223372036854775807) :
    Calls Tryd.prog 33 #[.string s] w fun e w' => e = .returned (.tuple #[.string ⟨(cutL s.data.toList).toArray⟩, .bool (cutB s.data.toList)]) ∧ w = w' := by
  have T := trim0_t s w hs
  obtain ⟨t, ht⟩ : ∃ t : ByteArray, t = ⟨(trimL s.data.toList).toArray⟩ := ⟨_, rfl⟩
  rw [← ht] at T
  have ht2 : t.data.toList = trimL s.data.toList := by rw [ht]
  have C := has0_t t w
  cases h0 : t.data.toList.contains 0
  · have HR : Hid (cutL s.data.toList = t.data.toList ∧ cutB s.data.toList = true) := by
      have e : cutB s.data.toList = true := by rw [cutB, ← ht2, h0]; rfl
      exact ⟨by rw [cutL, if_pos e, ht2], e⟩
    rw [h0] at C
    clear h0 ht ht2
    go_enter Tryd.func33, Tryd.ntmps33
    go_wp2_with fail
    refine T.mono ?_
    rintro e w1 ⟨rfl, rfl⟩
    go_wp2_with fail
    refine C.mono ?_
    rintro e w1 ⟨rfl, rfl⟩
    go_wp2_with fail
    go_ret2
    exact ⟨lfCut (by rw [HR.out.1]) (by rw [HR.out.2]), rfl⟩
  · have HR : Hid (cutL s.data.toList = [] ∧ cutB s.data.toList = false) := by
      have e : cutB s.data.toList = false := by rw [cutB, ← ht2, h0]; rfl
      exact ⟨by rw [cutL, e]; rfl, e⟩
    rw [h0] at C
    clear h0 ht ht2
    go_enter Tryd.func33, Tryd.ntmps33
    go_wp2_with fail
    refine T.mono ?_
    rintro e w1 ⟨rfl, rfl⟩
    go_wp2_with fail
    refine C.mono ?_
    rintro e w1 ⟨rfl, rfl⟩
    go_wp2_with fail
    go_ret2
    exact ⟨lfCut (by rw [HR.out.1]) (by rw [HR.out.2]), rfl⟩
end Go.Proofs.YtpgbnfolekanmaaDoor
