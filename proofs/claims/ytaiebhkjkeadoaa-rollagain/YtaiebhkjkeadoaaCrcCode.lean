/- The program's sums (package crc) walked: what Of and More answer is the sum over natural numbers. -/
import Derived.Test.YtaiebhkjkeadoaaCrcBits
namespace Go.Proofs.Ytaiebhkjkeadoaa
open Go.RowKit

set_option maxHeartbeats 1000000 in
theorem eight (n : Nat) (w : World) (hn : n < 4294967296) :
    Calls Try.prog 77 #[.int .u32 n] w fun e w' => e = .returned (.int .u32 (Sum.it 8 n : Nat)) ∧ w = w' := by
  go_enter Try.func77, Try.ntmps77
  go_wp2
  go_loopw [0, 4] (fun v c wr => ∃ (k g : Nat), k ≤ 8 ∧ c = .int .i64 k ∧ v = .int .u32 g ∧ g < 4294967296 ∧ Hid (Sum.it (8 - k) g = Sum.it 8 n) ∧ w = wr) (fun _ c _ => 8 - (intOf c).toNat)
  case atStart => exact ⟨0, n, by omega, rfl, rfl, hn, rfl, rfl⟩
  case round =>
    obtain ⟨k, g, hk, rfl, rfl, hg, HG, rfl⟩ := hrel
    by_cases hk8 : k < 8
    · have E3 := a_one g hg
      have E4 := x_poly g hg
      have e8 : 8 - k = (8 - (k + 1)) + 1 := by omega
      have HG2 : Hid (Sum.it (8 - (k + 1)) (Sum.stp g) = Sum.it 8 n) := by
        have := HG.out
        rw [e8] at this
        exact this
      have L4 := Sum.stp_lt hg
      clear e8 HG
      rcases Nat.mod_two_eq_zero_or_one g with ho | ho
      · have S1 : Sum.stp g = g / 2 := by unfold Sum.stp; rw [if_neg (by omega)]
        rw [S1] at HG2 L4
        clear S1
        rw [ho] at E3
        go_wp2
        exact ⟨⟨k + 1, g / 2, by omega, by go_num, by go_num, L4, HG2, trivial⟩, by simp [intOf]; omega⟩
      · have S1 : Sum.stp g = g / 2 ^^^ Sum.poly := by unfold Sum.stp; rw [if_pos ho]
        rw [S1] at HG2 L4
        clear S1
        rw [ho] at E3
        go_wp2
        exact ⟨⟨k + 1, g / 2 ^^^ Sum.poly, by omega, by go_num, rfl, L4, HG2, trivial⟩, by simp [intOf]; omega⟩
    · have k8 : k = 8 := by omega
      subst k8
      have HR : Hid (g = Sum.it 8 n) := HG.out
      clear HG
      go_wp2
      go_ret
      exact ⟨ret_nat HR.out, rfl⟩

set_option maxHeartbeats 1000000 in
theorem more_t (sum : Nat) (s : ByteArray) (w : World) (hs : sum < 4294967296) (hl : s.size ≤ 1125899906842624) :
    Calls Try.prog 67 #[.int .u32 sum, .string s] w fun e w' => e = .returned (.int .u32 (Sum.more sum s.data.toList : Nat)) ∧ w = w' := by
  have E1 := x_ones sum hs
  have L1 : Sum.ones ^^^ sum < 4294967296 := Sum.xor_lt (by decide) hs
  generalize hn : Sum.ones ^^^ sum = n0 at *
  have HN := hid hn
  clear hn
  go_enter Try.func67, Try.ntmps67
  go_wp2
  go_loopw [5, 11] (fun n c wr => ∃ (i h : Nat), i ≤ s.size ∧ c = .int .i64 i ∧ n = .int .u32 h ∧ h < 4294967296 ∧ Hid (Sum.feed h (s.data.toList.drop i) = Sum.feed n0 s.data.toList) ∧ w = wr) (fun _ c _ => s.size - (intOf c).toNat)
  case atStart => exact ⟨0, n0, by omega, rfl, rfl, L1, rfl, rfl⟩
  case round =>
    obtain ⟨i, h, hi, rfl, rfl, hh, HF, rfl⟩ := hrel
    by_cases hlt : i < s.size
    · have E2 := x_byte h s[i] hh
      have D := drop_at s i hlt
      have HF2 : Hid (Sum.feed (Sum.byte1 h s[i].toNat) (s.data.toList.drop (i + 1)) = Sum.feed n0 s.data.toList) := by
        have := HF.out
        rw [D, Sum.feed_cons] at this
        exact this
      have L2 : h ^^^ s[i].toNat < 4294967296 := Sum.xor_lt hh (by have := Sum.byte_lt s[i]; omega)
      have L3 : Sum.byte1 h s[i].toNat < 4294967296 := Sum.byte1_lt hh (Sum.byte_lt _)
      have HT : Hid (Sum.it 8 (h ^^^ s[i].toNat) = Sum.byte1 h s[i].toNat) := rfl
      clear D HF
      generalize Sum.byte1 h s[i].toNat = h2 at *
      generalize h ^^^ s[i].toNat = h1 at *
      go_wp2_with fail
      refine (eight h1 w L2).mono ?_
      rintro e w1 ⟨rfl, rfl⟩
      rw [HT.out]
      go_wp2
      exact ⟨⟨i + 1, h2, by omega, by go_num, rfl, L3, HF2, trivial⟩, by simp [intOf]; omega⟩
    · have E5 := x_ones h hh
      have hsz : i = s.size := by omega
      have HR : Hid (Sum.ones ^^^ h = Sum.more sum s.data.toList) := by
        have := HF.out
        rw [hsz, List.drop_of_length_le (by simp), Sum.feed_nil] at this
        unfold Sum.more
        rw [this, HN.out]
        exact rfl
      clear HF hsz
      generalize Sum.ones ^^^ h = m2 at *
      go_wp2
      go_ret
      exact ⟨ret_nat HR.out, rfl⟩

theorem of_t (s : ByteArray) (w : World) (hl : s.size ≤ 1125899906842624) :
    Calls Try.prog 68 #[.string s] w fun e w' => e = .returned (.int .u32 (Sum.crc s.data.toList : Nat)) ∧ w = w' := by
  go_enter Try.func68, Try.ntmps68
  go_wp2_with fail
  refine (more_t 0 s w (by decide) hl).mono ?_
  rintro e w1 ⟨rfl, rfl⟩
  go_wp2
  go_ret
  exact ⟨rfl, rfl⟩
end Go.Proofs.Ytaiebhkjkeadoaa
