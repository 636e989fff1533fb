/- The program's padded texts (package bin) walked: Pad, over the library's own Contains and Repeat by their contracts. -/
import Derived.Test.YtofdpognieflnaaDoorBinCode
import Derived.Test.YtofdpognieflnaaDoorBinShelf
import Derived.Lib.IndexAny
namespace Go.Proofs.YtofdpognieflnaaDoor
open Go.RowKit

/-- Has the text a byte 0? -/
def has0 (s : ByteArray) : Bool := s.data.toList.contains 0

theorem has0_t (s : ByteArray) (w : World) :
    Calls Tryd.prog 12 #[.string s, .string ⟨#[0]⟩] w fun e w' => e = .returned (.bool (has0 s)) ∧ w = w' :=
  (Any.strings_Contains_one binContains s 0 w).mono fun _ _ ⟨he, hw⟩ => ⟨by rw [he, has0, Lib.contains_iff_indexByte], hw.symm⟩

theorem rep0 : ∀ n : Nat, Lib.repeatL [0] n = List.replicate n 0
  | 0 => rfl
  | n + 1 => by rw [Lib.repeatL, rep0 n, List.replicate_succ]; rfl

/-- So many bytes 0. -/
def zeros (n : Nat) : ByteArray := ⟨(List.replicate n 0).toArray⟩
theorem zeros_size (n : Nat) : (zeros n).size = n := by simp [zeros, ByteArray.size]

theorem zeros_t (n : Nat) (w : World) (hn : n ≤ 4194304) :
    Calls Tryd.prog 13 #[.string ⟨#[0]⟩, .int .i64 n] w fun e w' => e = .returned (.string (zeros n)) ∧ Below w.heap.size w w' := by
  have := Any.strings_Repeat binRepeat binExtra ⟨#[0]⟩ n w (by omega) (by show 1 * n ≤ _; omega)
  have e : Lib.repeatL (⟨#[0]⟩ : ByteArray).data.toList n = List.replicate n 0 := rep0 n
  rw [e] at this
  exact this

set_option maxHeartbeats 1000000 in
theorem pad_yes (s : ByteArray) (n : Nat) (w : World) (h1 : s.size ≤ n) (h2 : n ≤ 4194304) (h0 : has0 s = false) :
    Calls Tryd.prog 8 #[.string s, .int .i64 n] w fun e w' => e = .returned (.tuple #[.string (s ++ zeros (n - s.size)), .bool true]) ∧ Below w.heap.size w w' := by
  have hd : (n : Int) - (s.size : Int) = ((n - s.size : Nat) : Int) := by omega
  have hzs := zeros_size (n - s.size)
  have Z := binhid (zeros_t (n - s.size) w (by omega))
  generalize zeros (n - s.size) = z at *
  generalize n - s.size = d at *
  go_enter Tryd.func8, Tryd.ntmps8
  go_wp2_with fail
  refine (has0_t s w).mono ?_
  rintro e w1 ⟨rfl, rfl⟩
  rw [h0]
  go_wp2_with fail
  refine Z.out.mono ?_
  rintro e w1 ⟨rfl, hb⟩
  go_wp2_with fail
  go_ret2
  exact ⟨rfl, hb⟩

set_option maxHeartbeats 1000000 in
theorem pad_no (s : ByteArray) (n : Int) (w : World) (h : n < s.size ∨ 4194304 < n ∨ has0 s = true) :
    Calls Tryd.prog 8 #[.string s, .int .i64 n] w fun e w' => e = .returned (.tuple #[.string ⟨#[]⟩, .bool false]) ∧ w = w' := by
  by_cases h1 : n < s.size
  · go_enter Tryd.func8, Tryd.ntmps8
    go_wp2_with fail
    go_ret2
    exact ⟨rfl, rfl⟩
  · by_cases h2 : 4194304 < n
    · go_enter Tryd.func8, Tryd.ntmps8
      go_wp2_with fail
      go_ret2
      exact ⟨rfl, rfl⟩
    · have h0 : has0 s = true := by
        rcases h with h | h | h
        · exact absurd h h1
        · exact absurd h h2
        · exact h
      clear h
      go_enter Tryd.func8, Tryd.ntmps8
      go_wp2_with fail
      refine (has0_t s w).mono ?_
      rintro e w1 ⟨rfl, rfl⟩
      rw [h0]
      go_wp2_with fail
      go_ret2
      exact ⟨rfl, rfl⟩

/-- What Pad answers. -/
def padB (s : ByteArray) (n : Nat) : Bool := decide (s.size ≤ n ∧ n ≤ 4194304) && !has0 s
def padS (s : ByteArray) (n : Nat) : ByteArray := if padB s n then s ++ zeros (n - s.size) else ⟨#[]⟩

theorem pad_t (s : ByteArray) (n : Nat) (w : World) :
    Calls Tryd.prog 8 #[.string s, .int .i64 n] w fun e w' => e = .returned (.tuple #[.string (padS s n), .bool (padB s n)]) ∧ Below w.heap.size w w' := by
  by_cases h : s.size ≤ n ∧ n ≤ 4194304
  · by_cases h0 : has0 s = true
    · have e : padB s n = false := by simp [padB, h0]
      have e2 : padS s n = ⟨#[]⟩ := by rw [padS, e]; rfl
      rw [e, e2]
      exact (pad_no s n w (.inr (.inr h0))).mono fun _ _ ⟨he, hw⟩ => ⟨he, hw ▸ Below.refl _ _⟩
    · have h0' : has0 s = false := by simpa using h0
      have e : padB s n = true := by simp [padB, h0', h]
      have e2 : padS s n = s ++ zeros (n - s.size) := by rw [padS, e]; rfl
      rw [e, e2]
      exact pad_yes s n w h.1 h.2 h0'
  · have e : padB s n = false := by simp [padB]; intro h1 h2; omega
    have e2 : padS s n = ⟨#[]⟩ := by rw [padS, e]; rfl
    rw [e, e2]
    exact (pad_no s n w (by omega)).mono fun _ _ ⟨he, hw⟩ => ⟨he, hw ▸ Below.refl _ _⟩
end Go.Proofs.YtofdpognieflnaaDoor
