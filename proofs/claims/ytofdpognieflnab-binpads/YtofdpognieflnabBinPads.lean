/- The law BinPads walked. -/
import Derived.Test.YtofdpognieflnabBinPad
namespace Go.Proofs.Ytofdpognieflnab
open Go.RowKit

theorem cut_pad (l : List UInt8) (n : Nat) (h : l.contains 0 = false) : (l ++ List.replicate n 0).takeWhile (fun b => b != 0) = l := by
  have h1 : ∀ x ∈ l, (fun b : UInt8 => b != 0) x = true := by
    intro x hx
    have : x ≠ 0 := by
      intro e
      subst e
      rw [List.contains_iff_mem.2 hx] at h
      cases h
    simpa using this
  rw [List.takeWhile_append_of_pos h1]
  cases n with
  | zero => simp
  | succ n => simp [List.replicate_succ]

theorem padB_parts {s : ByteArray} {n : Nat} (h : padB s n = true) : s.size ≤ n ∧ has0 s = false := by
  simp [padB] at h
  exact ⟨h.1.1, h.2⟩

theorem padB_eq (s : ByteArray) (n : Nat) (hn : n ≤ 4194304) (h0 : has0 s = false) : padB s n = decide (s.size ≤ n) := by
  simp [padB, h0, hn]

theorem padB_zero (s : ByteArray) (n : Nat) (h0 : has0 s = true) : padB s n = false := by
  simp [padB, h0]

theorem padS_list {s : ByteArray} {n : Nat} (h : padB s n = true) : (padS s n).data.toList = s.data.toList ++ List.replicate (n - s.size) 0 := by
  rw [padS, if_pos h]
  simp [zeros]

theorem padS_size {s : ByteArray} {n : Nat} (h : padB s n = true) : (padS s n).size = n := by
  rw [padS, if_pos h, ByteArray.size_append, zeros_size]
  have := (padB_parts h).1
  omega

theorem padS_none {s : ByteArray} {n : Nat} (h : padB s n = false) : padS s n = ⟨#[]⟩ := by
  rw [padS, h]
  rfl

theorem bytes_eq {a b : ByteArray} (h : a.data.toList = b.data.toList) : a = b := by
  apply ByteArray.ext
  exact Array.toList_inj.1 h

theorem padS_alike {a b : ByteArray} {n : Nat} (ha : padB a n = true) (hb : padB b n = true) : ((padS a n).toList == (padS b n).toList) = (a.toList == b.toList) := by
  rw [ByteArray.toList_eq, ByteArray.toList_eq, ByteArray.toList_eq, ByteArray.toList_eq, Bool.eq_iff_iff, beq_iff_eq, beq_iff_eq]
  constructor
  · intro h
    rw [padS_list ha, padS_list hb] at h
    have e := congrArg (List.takeWhile (fun b => b != 0)) h
    rw [cut_pad _ _ (padB_parts ha).2, cut_pad _ _ (padB_parts hb).2] at e
    exact e
  · intro h
    rw [bytes_eq h]

theorem has0_at {s : ByteArray} {i : Nat} (hi : i < s.size) (h : s[i] = 0) : has0 s = true := by
  unfold has0
  rw [List.contains_iff_mem]
  have : s[i] ∈ s.data.toList := by
    rw [Array.mem_toList_iff]
    exact Array.getElem_mem hi
  rw [h] at this
  exact this

theorem has0_none {s : ByteArray} (h : ∀ i (hi : i < s.size), s[i] ≠ 0) : has0 s = false := by
  unfold has0
  rw [Bool.eq_false_iff]
  intro hc
  rw [List.contains_iff_mem, Array.mem_toList_iff] at hc
  obtain ⟨i, hi, e⟩ := Array.mem_iff_getElem.1 hc
  exact h i hi e

set_option maxHeartbeats 1000000 in
theorem binPads_long (a b : ByteArray) (n : Int) (w : World) (h : 200 < a.size ∨ 200 < b.size) (_ha : a.size ≤ 9223372036854775807) (_hb : b.size ≤ 9223372036854775807) :
    Calls Try.prog 3 #[.string a, .string b, .int .i64 n] w fun e w' => e = .returned (.bool true) ∧ Below w.heap.size w w' := by
  by_cases h1 : 200 < a.size
  · go_enter Try.func3, Try.ntmps3
    go_wp2_with fail
    refine (bawake_t w).mono ?_
    rintro e w1 ⟨rfl, hb1⟩
    go_wp2_with fail
    go_ret
    exact ⟨rfl, hb1⟩
  · have h2 : 200 < b.size := by omega
    go_enter Try.func3, Try.ntmps3
    go_wp2_with fail
    refine (bawake_t w).mono ?_
    rintro e w1 ⟨rfl, hb1⟩
    go_wp2_with fail
    go_ret
    exact ⟨rfl, hb1⟩

set_option maxHeartbeats 4000000 in
theorem binPads_t (a b : ByteArray) (n : Int) (w : World) (ha : a.size ≤ 200) (hb : b.size ≤ 200) :
    Calls Try.prog 3 #[.string a, .string b, .int .i64 n] w fun e w' => e = .returned (.bool true) ∧ Below w.heap.size w w' := by
  go_enter Try.func3, Try.ntmps3
  go_wp2_with fail
  refine (bplace_t n 250 w (by decide) (by decide)).mono ?_
  rintro e w1 ⟨⟨k, rfl, hk⟩, rfl⟩
  have hk2 : k < 250 := by omega
  clear hk
  have HA := binhid (padB_eq a k (by omega))
  have HZ := binhid (padB_zero a k)
  have HX := binhid (fun h => padS_size (s := a) (n := k) h)
  have HN := binhid (fun h => padS_none (s := a) (n := k) h)
  have HE := binhid (fun h h2 => padS_alike (a := a) (b := b) (n := k) h h2)
  have PA := binhid (pad_t a k)
  have PB := binhid (pad_t b k)
  generalize padB a k = B at *
  generalize padS a k = X at *
  generalize padB b k = C at *
  generalize padS b k = Y at *
  go_wp2_with fail
  refine (PA.out w).mono ?_
  rintro e w1 ⟨rfl, hb1⟩
  go_wp2_with fail
  refine (PB.out w1).mono ?_
  rintro e w2 ⟨rfl, hb2⟩
  have HB := binhid (hb1.trans (hb2.mono hb1.size))
  clear hb1 hb2 PA PB
  go_wp2_with fail
  go_loopw [12] (fun iv wr => ∃ i : Nat, iv = .int .i64 i ∧ i ≤ a.size ∧ Hid (∀ j (hj : j < a.size), j < i → a[j] ≠ 0) ∧ w2 = wr) (fun iv _ => a.size - (intOf iv).toNat)
  case atStart => exact ⟨0, rfl, by omega, fun j _ h => absurd h (Nat.not_lt_zero _), rfl⟩
  case round =>
    obtain ⟨i, rfl, hi, HI, rfl⟩ := hrel
    by_cases hlt : i < a.size
    · by_cases hz : a[i] = 0
      · have hB : B = false := HZ.out (has0_at hlt hz)
        subst hB
        have hzz : ((a[i].toNat : Int) == 0) = true := by rw [hz]; rfl
        clear hz HA HZ HX HN HE
        go_wp2_with fail
        refine (bawake_t w2).mono ?_
        rintro e w3 ⟨rfl, hb3⟩
        have H3 := binhid (HB.out.trans (hb3.mono HB.out.size))
        clear hb3
        go_wp2_with fail
        go_ret
        exact ⟨rfl, H3.out⟩
      · have hzz : ((a[i].toNat : Int) == 0) = false := by
          rw [beq_eq_false_iff_ne]
          intro e
          exact hz (UInt8.toNat_inj.1 (by show a[i].toNat = 0; omega))
        have HI2 : Hid (∀ j (hj : j < a.size), j < i + 1 → a[j] ≠ 0) := fun j hj h => by
          by_cases e : j = i
          · subst e; exact hz
          · exact HI.out j hj (by omega)
        clear hz HI HA HZ HX HN HE
        go_wp2_with fail
        exact ⟨⟨i + 1, by go_num, by omega, HI2, trivial⟩, by simp [intOf]; omega⟩
    · have hn0 : has0 a = false := has0_none fun j hj => HI.out j hj (by omega)
      have hA := HA.out hn0
      clear HI HA HZ
      by_cases hak : a.size ≤ k
      · have hB : B = true := by rw [hA]; simp [hak]
        subst hB
        have hX := HX.out rfl
        cases C with
        | true =>
          have hE := HE.out rfl rfl
          clear HX HN HE hA
          go_wp2_with fail
          refine (bawake_t w2).mono ?_
          rintro e w3 ⟨rfl, hb3⟩
          have H3 := binhid (HB.out.trans (hb3.mono HB.out.size))
          clear hb3
          go_wp2_with fail
          go_ret
          exact ⟨rfl, H3.out⟩
        | false =>
          clear HX HN HE hA
          go_wp2_with fail
          refine (bawake_t w2).mono ?_
          rintro e w3 ⟨rfl, hb3⟩
          have H3 := binhid (HB.out.trans (hb3.mono HB.out.size))
          clear hb3
          go_wp2_with fail
          go_ret
          exact ⟨rfl, H3.out⟩
      · have hB : B = false := by rw [hA]; simp; omega
        subst hB
        have hX := HN.out rfl
        subst hX
        clear HX HN HE hA
        go_wp2_with fail
        refine (bawake_t w2).mono ?_
        rintro e w3 ⟨rfl, hb3⟩
        have H3 := binhid (HB.out.trans (hb3.mono HB.out.size))
        clear hb3
        go_wp2_with fail
        go_ret
        exact ⟨rfl, H3.out⟩
end Go.Proofs.Ytofdpognieflnab
