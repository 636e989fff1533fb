/- The law CrcParts walked. -/
import Derived.Test.YtofdpognieflnaaCode
namespace Go.Proofs.Ytofdpognieflnaa
open Go.RowKit

/-- A list of numbers that came in, cut at its length. -/
structure Ints (w : World) (a : Option Addr) (xs : List Int) (b off : Nat) : Prop where
  few : xs.length ≤ 20
  at' : xs ≠ [] → a = some ⟨b, off, none⟩ ∧ b < w.heap.size
  cell : ∀ t, t < xs.length → w.cell? ⟨b, off + t, none⟩ = some (.int .i64 (xs.getD t 0))

theorem crcParts_long (s : ByteArray) (a : Option Addr) (len cap : Nat) (w : World) (h : 2000 < s.size ∨ 20 < len) (hl : s.size ≤ maxLen) (hc : len ≤ maxLen) :
    Calls Try.prog 5 #[.string s, .slice a len cap] w fun e w' => e = .returned (.bool true) ∧ w = w' := by
  unfold maxLen at hl hc
  by_cases h0 : 2000 < s.size
  · go_enter Try.func5, Try.ntmps5
    go_wp2_with fail
    refine (awake_t w).mono ?_
    rintro e w1 ⟨rfl, rfl⟩
    go_wp2
    go_ret
    exact ⟨rfl, rfl⟩
  · have h1 : 20 < len := by omega
    go_enter Try.func5, Try.ntmps5
    go_wp2_with fail
    refine (awake_t w).mono ?_
    rintro e w1 ⟨rfl, rfl⟩
    go_wp2
    go_ret
    exact ⟨rfl, rfl⟩

theorem cut_join (q : ByteArray) (k : Nat) : (q.extract 0 k).data.toList ++ (q.extract k q.size).data.toList = q.data.toList := by
  rw [ByteArray.data_extract, ByteArray.data_extract, Array.toList_extract, Array.toList_extract]
  simp [List.extract]
  have h3 : List.take (q.size - k) (List.drop k q.data.toList) = List.drop k q.data.toList := List.take_of_length_le (by simp)
  rw [h3, List.take_append_drop]

set_option maxHeartbeats 2000000 in
theorem crcParts_t (s : ByteArray) (a : Option Addr) (xs : List Int) (cap b off : Nat) (w : World) (hs : s.size ≤ 2000) (hi : Ints w a xs b off) :
    Calls Try.prog 5 #[.string s, .slice a xs.length cap] w fun e w' => e = .returned (.bool true) ∧ w = w' := by
  have few := hi.few
  have HI := hid hi
  clear hi
  go_enter Try.func5, Try.ntmps5
  go_wp2_with fail
  refine (of0 w).mono ?_
  rintro e w1 ⟨rfl, rfl⟩
  go_wp2
  go_loopw [5, 6, 7] (fun v r c wr => ∃ (i m : Nat) (q : ByteArray), i ≤ xs.length ∧ c = .int .i64 i ∧ v = .int .u32 m ∧ r = .string q ∧ m < 4294967296 ∧ q.size ≤ 2000 ∧ Hid (Sum.more m q.data.toList = Sum.crc s.data.toList) ∧ w = wr) (fun _ _ c _ => xs.length - (intOf c).toNat)
  case atStart => exact ⟨0, 0, s, by omega, rfl, rfl, rfl, by decide, hs, rfl, rfl⟩
  case round =>
    obtain ⟨i, m, q, hi, rfl, rfl, rfl, hm, hq, HM, rfl⟩ := hrel
    by_cases hlt : i < xs.length
    · have hne : xs ≠ [] := by intro h; rw [h] at hlt; cases hlt
      obtain ⟨rfl, hb⟩ := HI.out.at' hne
      have hcell := HI.out.cell i hlt
      go_wp2_with fail
      refine (place_any _ (q.size + 1) w (by omega) (by omega)).mono ?_
      rintro e w1 ⟨⟨k, rfl, hk⟩, rfl⟩
      have hk2 : k ≤ q.size := by omega
      have z1 : (q.extract 0 k).size ≤ 2000 := by rw [ByteArray.size_extract]; omega
      have z2 : (q.extract k q.size).size ≤ 2000 := by rw [ByteArray.size_extract]; omega
      have HM2 : Hid (Sum.more (Sum.more m (q.extract 0 k).data.toList) (q.extract k q.size).data.toList = Sum.crc s.data.toList) := by
        have e := cut_join q k
        have := HM.out
        rw [← e, ← Sum.more_append] at this
        exact this
      have hm2 := Sum.more_lt hm (q.extract 0 k).data.toList
      go_wp2_with fail
      refine (more_t m (q.extract 0 k) w hm (by omega)).mono ?_
      rintro e w1 ⟨rfl, rfl⟩
      clear HM
      generalize Sum.more m (q.extract 0 k).data.toList = m2 at *
      go_wp2
      exact ⟨⟨i + 1, m2, q.extract k q.size, by omega, by go_num, rfl, rfl, hm2, z2, HM2, trivial⟩, by simp [intOf]; omega⟩
    · have o1 := more_t m q w hm (by omega)
      rw [HM.out] at o1
      have O1 := hid o1
      have O2 := hid (of_t s w (by omega))
      clear o1 HM
      go_wp2_with fail
      refine O1.out.mono ?_
      rintro e w1 ⟨rfl, rfl⟩
      go_wp2_with fail
      refine O2.out.mono ?_
      rintro e w1 ⟨rfl, rfl⟩
      go_wp2_with fail
      refine (awake_t w).mono ?_
      rintro e w1 ⟨rfl, rfl⟩
      go_wp2
      go_ret
      exact ⟨rfl, rfl⟩
end Go.Proofs.Ytofdpognieflnaa
