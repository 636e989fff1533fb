/- The program's numbers as bytes (package bin) walked: Get. -/
import Derived.Test.YtaiebhkjkeadoaaBinPut
namespace Go.Proofs.Ytaiebhkjkeadoaa
open Go.RowKit

set_option maxHeartbeats 1000000 in
theorem moved_up (b i : Nat) (w : World) (hi : i ≤ 6) (hb : b < 256) :
    Calls Try.prog 87 #[.int .u64 b, .int .i64 i] w fun e w' => e = .returned (.int .u64 (256 ^ i * b : Nat)) ∧ w = w' := by
  have hc : i = 0 ∨ i = 1 ∨ i = 2 ∨ i = 3 ∨ i = 4 ∨ i = 5 ∨ i = 6 := by omega
  rcases hc with rfl | rfl | rfl | rfl | rfl | rfl | rfl
  all_goals
    go_enter Try.func87, Try.ntmps87
    go_wp2
    go_ret
    refine ⟨binEnd ?_, rfl⟩
    omega

set_option maxHeartbeats 1000000 in
theorem get_t (s : ByteArray) (a n : Nat) (w : World) (hn : n ≤ 7) (ha : a + n ≤ s.size) (hl : s.size ≤ 9223372036854775807) :
    Calls Try.prog 79 #[.string s, .int .i64 a, .int .i64 n] w fun e w' => e = .returned (.tuple #[.int .i64 (Bin.num (part s a n) : Nat), .bool true]) ∧ w = w' := by
  go_enter Try.func79, Try.ntmps79
  go_wp2
  go_loopw [8, 29] (fun x c wr => ∃ (i v : Nat), i ≤ n ∧ c = .int .i64 i ∧ x = .int .u64 v ∧ v < 72057594037927936 ∧ Hid (v = Bin.num (part s a i)) ∧ w = wr) (fun _ c _ => n - (intOf c).toNat)
  case atStart => exact ⟨0, 0, by omega, rfl, rfl, by omega, by show _ = _; rw [part_zero]; rfl, rfl⟩
  case round =>
    obtain ⟨i, v, hi, rfl, rfl, hv, HV, rfl⟩ := hrel
    by_cases hlt : i < n
    · have hs : a + i < s.size := by omega
      have B := Bin.byte_lt s[a + i]
      have L := part_length s a i (by omega)
      have h0 := Bin.num_lt (part s a i)
      rw [L, ← HV.out] at h0
      have E := bin_join v s[a + i].toNat i h0
      have HV2 : Hid (v + 256 ^ i * s[a + i].toNat = Bin.num (part s a (i + 1))) := by
        show _ = _
        rw [part_succ s a i hs, Bin.num_snoc, L, ← HV.out]
      have hv2 : v + 256 ^ i * s[a + i].toNat < 72057594037927936 := by
        rw [HV2.out]
        have := Bin.num_lt (part s a (i + 1))
        rw [part_length s a (i + 1) (by omega)] at this
        exact bin_small (by omega) this
      have U := bin_up (i := i) (by omega) B
      have M := moved_up s[a + i].toNat i w (by omega) B
      have E2 : bits .or .u64 (v : Int) ((256 ^ i * s[a + i].toNat : Nat) : Int) = ((v + 256 ^ i * s[a + i].toNat : Nat) : Int) := by
        rw [u64_or_nat _ _ (by omega) U, E]
      clear E h0 L HV
      generalize 256 ^ i * s[a + i].toNat = y at *
      generalize hz : v + y = z at *
      have HZ := binhid hz
      clear hz
      go_wp2_with fail
      refine M.mono ?_
      rintro e w1 ⟨rfl, rfl⟩
      go_wp2
      exact ⟨⟨i + 1, z, by omega, by go_num, rfl, hv2, HV2, trivial⟩, by simp [intOf]; omega⟩
    · have e : i = n := by omega
      subst e
      have HR : Hid (v = Bin.num (part s a i)) := HV
      clear HV
      go_wp2
      go_ret2
      refine ⟨?_, rfl⟩
      rw [← HR.out]
      exact rfl

set_option maxHeartbeats 1000000 in
theorem get_no (s : ByteArray) (a n : Int) (w : World) (h : n < 0 ∨ 7 < n ∨ a < 0 ∨ (s.size : Int) < a + n) (hl : s.size ≤ 9223372036854775807) :
    Calls Try.prog 79 #[.string s, .int .i64 a, .int .i64 n] w fun e w' => e = .returned (.tuple #[.int .i64 0, .bool false]) ∧ w = w' := by
  by_cases h1 : n < 0
  · go_enter Try.func79, Try.ntmps79
    go_wp2
    go_ret2
    exact ⟨rfl, rfl⟩
  · by_cases h2 : 7 < n
    · go_enter Try.func79, Try.ntmps79
      go_wp2
      go_ret2
      exact ⟨rfl, rfl⟩
    · by_cases h3 : a < 0
      · go_enter Try.func79, Try.ntmps79
        go_wp2
        go_ret2
        exact ⟨rfl, rfl⟩
      · have h4 : (s.size : Int) - n < a := by omega
        go_enter Try.func79, Try.ntmps79
        go_wp2
        go_ret2
        exact ⟨rfl, rfl⟩
end Go.Proofs.Ytaiebhkjkeadoaa
