/- The document's own sum (beguinageref02) walked: what it answers is the sum over natural numbers. -/
import Derived.Test.YtgbgklnlmgpmjaaRows
import Derived.Test.YtgbgklnlmgpmjaaSum
import Derived.WalkKit
import Derived.WalkSpells
import Derived.WalkLawsBesides
namespace Go.Proofs.Ytgbgklnlmgpmjaa
open Go.RowKit

theorem hid {P : Prop} (h : P) : Hid P := h

theorem x_ones (n : Nat) (h : n < 4294967296) : bits .xor .u32 IntKind.u32.max (n : Int) = ((Sum.ones ^^^ n : Nat) : Int) := u32_xor_nat 4294967295 n (by decide) h
theorem x_byte (h : Nat) (b : UInt8) (hh : h < 4294967296) : bits .xor .u32 (h : Int) ((b.toNat : Int) % 4294967296) = ((h ^^^ b.toNat : Nat) : Int) := by
  have hb := Sum.byte_lt b
  rw [Int.emod_eq_of_lt (by omega) (by omega)]
  exact u32_xor_nat h b.toNat hh (by omega)
theorem a_one (h : Nat) (hh : h < 4294967296) : bits .and .u32 (h : Int) 1 = ((h % 2 : Nat) : Int) := by
  have := u32_and_nat h 1 hh (by decide)
  rw [nat_mask1] at this
  exact this
theorem x_poly (h : Nat) (hh : h < 4294967296) : bits .xor .u32 ((h : Int) / 2) 3988292384 = ((h / 2 ^^^ Sum.poly : Nat) : Int) := u32_xor_nat (h / 2) 3988292384 (by omega) (by decide)

theorem ret_nat {k : IntKind} {a b : Nat} (h : a = b) : Ending.returned (.int k (a : Int)) = .returned (.int k (b : Int)) := by rw [h]

theorem drop_at (s : ByteArray) (i : Nat) (hi : i < s.size) : s.data.toList.drop i = s[i] :: s.data.toList.drop (i + 1) := by
  have h : i < s.data.toList.length := by simpa using hi
  rw [List.drop_eq_getElem_cons h]
  rfl

set_option maxHeartbeats 1000000 in
theorem refMore (sum : Nat) (s : ByteArray) (w : World) (hs : sum < 4294967296) (hl : s.size ≤ 1125899906842624) :
    Calls Try.prog 75 #[.int .u32 sum, .string s] w fun e w' => e = .returned (.int .u32 (Sum.more sum s.data.toList : Nat)) ∧ w = w' := by
  have E1 := x_ones sum hs
  have L1 : Sum.ones ^^^ sum < 4294967296 := Sum.xor_lt (by decide) hs
  generalize hn : Sum.ones ^^^ sum = n0 at *
  have HN := hid hn
  clear hn
  go_enter Try.func75, Try.ntmps75
  go_wp2
  go_loopw [5, 6] (fun n c wr => ∃ (i h : Nat), i ≤ s.size ∧ c = .int .i64 i ∧ n = .int .u32 h ∧ h < 4294967296 ∧ Hid (Sum.feed h (s.data.toList.drop i) = Sum.feed n0 s.data.toList) ∧ w = wr) (fun _ c _ => s.size - (intOf c).toNat)
  case atStart => exact ⟨0, n0, by omega, rfl, rfl, L1, rfl, rfl⟩
  case round =>
    obtain ⟨i, h, hi, rfl, rfl, hh, HF, rfl⟩ := hrel
    by_cases hlt : i < s.size
    · have E2 := x_byte h s[i] hh
      have D := drop_at s i hlt
      have HF2 : Hid (Sum.feed (Sum.byte1 h s[i].toNat) (s.data.toList.drop (i + 1)) = Sum.feed n0 s.data.toList) := by
        have := HF.out
        rw [D, Sum.feed_cons] at this
        exact this
      have L2 : h ^^^ s[i].toNat < 4294967296 := Sum.xor_lt hh (Nat.lt_trans (Sum.byte_lt _) (by decide))
      have B0 : Hid (Sum.it 8 (h ^^^ s[i].toNat) = Sum.byte1 h s[i].toNat) := rfl
      have L3 : Sum.byte1 h s[i].toNat < 4294967296 := Sum.it_lt 8 L2
      clear D HF
      generalize Sum.byte1 h s[i].toNat = h2 at *
      generalize h ^^^ s[i].toNat = h1 at *
      go_wp2
      go_loopw [5, 7] (fun n c wr => ∃ (k g : Nat), k ≤ 8 ∧ c = .int .i64 k ∧ n = .int .u32 g ∧ g < 4294967296 ∧ Hid (Sum.it (8 - k) g = h2) ∧ w = wr) (fun _ c _ => 8 - (intOf c).toNat)
      case atStart => exact ⟨0, h1, by omega, rfl, rfl, L2, B0, rfl⟩
      case round =>
        obtain ⟨k, g, hk, rfl, rfl, hg, HG, rfl⟩ := hrel
        by_cases hk8 : k < 8
        · have E3 := a_one g hg
          have E4 := x_poly g hg
          have e8 : 8 - k = (8 - (k + 1)) + 1 := by omega
          have HG2 : Hid (Sum.it (8 - (k + 1)) (Sum.stp g) = h2) := by
            have := HG.out
            rw [e8] at this
            exact this
          have L4 := Sum.stp_lt hg
          clear e8 HG
          rcases Nat.mod_two_eq_zero_or_one g with ho | ho
          · have S1 : Sum.stp g = g / 2 := by unfold Sum.stp; rw [if_neg (by omega)]
            rw [S1] at HG2 L4
            clear S1
            rw [ho] at E3
            go_wp2
            exact ⟨⟨k + 1, g / 2, by omega, by go_num, by go_num, L4, HG2, trivial⟩, by simp [intOf]; omega⟩
          · have S1 : Sum.stp g = g / 2 ^^^ Sum.poly := by unfold Sum.stp; rw [if_pos ho]
            rw [S1] at HG2 L4
            clear S1
            rw [ho] at E3
            go_wp2
            exact ⟨⟨k + 1, g / 2 ^^^ Sum.poly, by omega, by go_num, rfl, L4, HG2, trivial⟩, by simp [intOf]; omega⟩
        · have k8 : k = 8 := by omega
          subst k8
          have hgh : g = h2 := HG.out
          go_wp2
          exact ⟨⟨i + 1, g, by omega, by go_num, rfl, hg, by rw [hgh]; exact HF2, trivial⟩, by simp [intOf]; omega⟩
    · have E5 := x_ones h hh
      have hsz : i = s.size := by omega
      have HR : Hid (Sum.ones ^^^ h = Sum.more sum s.data.toList) := by
        have := HF.out
        rw [hsz, List.drop_of_length_le (by simp), Sum.feed_nil] at this
        unfold Sum.more
        rw [this, HN.out]
        exact rfl
      clear HF hsz
      generalize Sum.ones ^^^ h = m2 at *
      go_wp2
      go_ret
      exact ⟨ret_nat HR.out, rfl⟩

theorem refOf (s : ByteArray) (w : World) (hl : s.size ≤ 1125899906842624) :
    Calls Try.prog 59 #[.string s] w fun e w' => e = .returned (.int .u32 (Sum.crc s.data.toList : Nat)) ∧ w = w' := by
  go_enter Try.func59, Try.ntmps59
  go_wp2_with fail
  refine (refMore 0 s w (by decide) hl).mono ?_
  rintro e w1 ⟨rfl, rfl⟩
  go_wp2
  go_ret
  exact ⟨rfl, rfl⟩
end Go.Proofs.Ytgbgklnlmgpmjaa
