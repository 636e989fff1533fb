/- Cut, over the library's own TrimRight and Contains by their contracts; and the law BinBack walked. -/
import Derived.Test.YtofdpognieflnaaDoorBinPadFacts
namespace Go.Proofs.YtofdpognieflnaaDoor
open Go.RowKit

theorem trim0_t (s : ByteArray) (w : World) (hs : s.size ≤ 9223372036854775807) :
    Calls Tryd.prog 14 #[.string s, .string ⟨#[0]⟩] w fun e w' => e = .returned (.string ⟨(Lib.trimRightB s.data.toList 0).toArray⟩) ∧ w = w' :=
  (Any.strings_TrimRight_one binTrim s 0 (by decide) w hs).mono fun _ _ ⟨he, hw⟩ => ⟨he, hw.symm⟩

set_option maxHeartbeats 1000000 in
theorem cut_yes (s t : ByteArray) (w : World) (hs : s.size ≤ 9223372036854775807) (ht : Lib.trimRightB s.data.toList 0 = t.data.toList) (h0 : has0 t = false) :
    Calls Tryd.prog 9 #[.string s] w fun e w' => e = .returned (.tuple #[.string t, .bool true]) ∧ w = w' := by
  have T := trim0_t s w hs
  have e : (⟨(Lib.trimRightB s.data.toList 0).toArray⟩ : ByteArray) = t := by rw [ht]
  rw [e] at T
  clear e ht
  go_enter Tryd.func9, Tryd.ntmps9
  go_wp2_with fail
  refine T.mono ?_
  rintro e w1 ⟨rfl, rfl⟩
  go_wp2_with fail
  refine (has0_t t w).mono ?_
  rintro e w1 ⟨rfl, rfl⟩
  rw [h0]
  go_wp2_with fail
  go_ret2
  exact ⟨rfl, rfl⟩

set_option maxHeartbeats 1000000 in
theorem cut_no (s t : ByteArray) (w : World) (hs : s.size ≤ 9223372036854775807) (ht : Lib.trimRightB s.data.toList 0 = t.data.toList) (h0 : has0 t = true) :
    Calls Tryd.prog 9 #[.string s] w fun e w' => e = .returned (.tuple #[.string ⟨#[]⟩, .bool false]) ∧ w = w' := by
  have T := trim0_t s w hs
  have e : (⟨(Lib.trimRightB s.data.toList 0).toArray⟩ : ByteArray) = t := by rw [ht]
  rw [e] at T
  clear e ht
  go_enter Tryd.func9, Tryd.ntmps9
  go_wp2_with fail
  refine T.mono ?_
  rintro e w1 ⟨rfl, rfl⟩
  go_wp2_with fail
  refine (has0_t t w).mono ?_
  rintro e w1 ⟨rfl, rfl⟩
  rw [h0]
  go_wp2_with fail
  go_ret2
  exact ⟨rfl, rfl⟩

theorem drop_zeros (n : Nat) (l : List UInt8) : (List.replicate n 0 ++ l).dropWhile (· == (0 : UInt8)) = l.dropWhile (· == 0) := by
  induction n with
  | zero => rfl
  | succ n ih => rw [List.replicate_succ, List.cons_append, List.dropWhile_cons_of_pos (by rfl), ih]

theorem drop_none {l : List UInt8} (h : l.contains 0 = false) : l.dropWhile (· == (0 : UInt8)) = l := by
  cases l with
  | nil => rfl
  | cons b l =>
    have hb : (b == (0 : UInt8)) = false := by
      rw [List.contains_cons, Bool.or_eq_false_iff] at h
      have := h.1
      rw [beq_eq_false_iff_ne] at this ⊢
      exact fun e => this e.symm
    rw [List.dropWhile_cons_of_neg (by simp [hb])]

theorem trim_pad (l : List UInt8) (n : Nat) (h : l.contains 0 = false) : Lib.trimRightB (l ++ List.replicate n 0) 0 = l := by
  unfold Lib.trimRightB
  rw [List.reverse_append, List.reverse_replicate, drop_zeros, drop_none (by rw [List.contains_reverse]; exact h), List.reverse_reverse]

theorem trim_last (l : List UInt8) (b : UInt8) (h : b ≠ 0) : Lib.trimRightB (l ++ [b]) 0 = l ++ [b] := by
  unfold Lib.trimRightB
  rw [List.reverse_append, List.reverse_singleton, List.singleton_append, List.dropWhile_cons_of_neg (by simpa using h), List.reverse_cons, List.reverse_reverse]

theorem cut_back (s : ByteArray) (n : Nat) (w : World) (hn : n ≤ 4194304) (h : padB s n = true) :
    Calls Tryd.prog 9 #[.string (padS s n)] w fun e w' => e = .returned (.tuple #[.string s, .bool true]) ∧ w = w' :=
  cut_yes (padS s n) s w (by rw [padS_size h]; omega) (by rw [padS_list h]; exact trim_pad _ _ (padB_parts h).2) (padB_parts h).2

theorem cut_bad (s : ByteArray) (w : World) (hs : s.size ≤ 500) :
    Calls Tryd.prog 9 #[.string (⟨#[0]⟩ ++ s ++ ⟨#[120]⟩)] w fun e w' => e = .returned (.tuple #[.string ⟨#[]⟩, .bool false]) ∧ w = w' := by
  have e : (⟨#[0]⟩ ++ s ++ ⟨#[120]⟩ : ByteArray).data.toList = (0 :: s.data.toList) ++ [120] := by simp
  refine cut_no _ (⟨#[0]⟩ ++ s ++ ⟨#[120]⟩) w ?_ ?_ ?_
  · rw [ByteArray.size_append, ByteArray.size_append]
    show 1 + s.size + 1 ≤ _
    omega
  · rw [e]
    exact trim_last _ _ (by decide)
  · rw [has0, e]
    rfl

/-- What 8 k bits hold. -/
def Full (k M : Nat) : Prop := M = 256 ^ k
theorem Full.facts {k M : Nat} (h : Full k M) (h7 : k ≤ 7) : 0 < M ∧ M ≤ 72057594037927936 := by
  have hc : k = 0 ∨ k = 1 ∨ k = 2 ∨ k = 3 ∨ k = 4 ∨ k = 5 ∨ k = 6 ∨ k = 7 := by omega
  rw [show M = _ from h]
  rcases hc with rfl | rfl | rfl | rfl | rfl | rfl | rfl | rfl <;> decide
theorem Full.shift {k M : Nat} (h : Full k M) (h7 : k ≤ 7) : wrap64 (2 ^ (8 * k)) = (M : Int) := by
  have hc : k = 0 ∨ k = 1 ∨ k = 2 ∨ k = 3 ∨ k = 4 ∨ k = 5 ∨ k = 6 ∨ k = 7 := by omega
  rw [show M = _ from h]
  rcases hc with rfl | rfl | rfl | rfl | rfl | rfl | rfl | rfl <;> simp [wrap64]

theorem back_part (a m : ByteArray) (k : Nat) (v : Int) : part (a ++ ⟨(Bin.low k v).toArray⟩ ++ m) a.size k = Bin.low k v := by
  unfold part
  have e : (a ++ ⟨(Bin.low k v).toArray⟩ ++ m).data.toList = a.data.toList ++ (Bin.low k v ++ m.data.toList) := by simp
  have ea : a.data.toList.length = a.size := by simp
  rw [e, List.drop_left' ea, List.take_left' (Bin.low_length k v)]

set_option maxHeartbeats 4000000 in
theorem binBack_t (v n : Int) (a m : ByteArray) (w : World) (ha : a.size ≤ 1125899906842624) (hm : m.size ≤ 1125899906842624) :
    Calls Tryd.prog 3 #[.int .i64 v, .int .i64 n, .string a, .string m] w fun e w' => e = .returned (.bool true) ∧ Below w.heap.size w w' := by
  go_enter Tryd.func3, Tryd.ntmps3
  go_wp2_with fail
  refine (bplace_t n 8 w (by decide) (by decide)).mono ?_
  rintro e w1 ⟨⟨k, rfl, hk⟩, rfl⟩
  have hk7 : k ≤ 7 := by omega
  obtain ⟨M, hM⟩ : ∃ M, Full k M := ⟨_, rfl⟩
  have hMf := hM.facts hk7
  have HM := binhid hM
  have hmin : min (k : Int) 7 = k := by omega
  clear hk hM
  go_wp2_with fail
  rw [HM.out.shift hk7]
  refine (bplace_t v M w (by omega) (by omega)).mono ?_
  rintro e w1 ⟨⟨x, rfl, hx⟩, rfl⟩
  have hx2 : x < M := by omega
  have HN : Hid (Bin.num (Bin.low k x) = x) := by
    show _ = _
    have := Bin.num_low k x (by omega) (by have : M = 256 ^ k := HM.out; omega)
    omega
  clear hx
  go_wp2_with fail
  refine (put_mid x k w hk7 (by omega) (by omega)).mono ?_
  rintro e w1 ⟨rfl, hb1⟩
  have hps : (⟨(Bin.low k x).toArray⟩ : ByteArray).size = k := by
    show (Bin.low k x).length = k
    exact Bin.low_length k x
  have G : Hid (Calls Tryd.prog 6 #[.string (a ++ ⟨(Bin.low k x).toArray⟩ ++ m), .int .i64 a.size, .int .i64 k] w1 fun e w' => e = .returned (.tuple #[.int .i64 x, .bool true]) ∧ w1 = w') := by
    have := get_t (a ++ ⟨(Bin.low k x).toArray⟩ ++ m) a.size k w1 hk7 (by rw [ByteArray.size_append, ByteArray.size_append, hps]; omega) (by rw [ByteArray.size_append, ByteArray.size_append, hps]; omega)
    rw [back_part, HN.out] at this
    exact this
  have G2 := binhid (get_no (⟨(Bin.low k x).toArray⟩ : ByteArray) 0 ((k : Int) + 1) w1 (by rw [hps]; omega) (by rw [hps]; omega))
  generalize (⟨(Bin.low k x).toArray⟩ : ByteArray) = p at *
  clear HN HM
  go_wp2_with fail
  refine G.out.mono ?_
  rintro e w2 ⟨rfl, rfl⟩
  go_wp2_with fail
  refine G2.out.mono ?_
  rintro e w2 ⟨rfl, rfl⟩
  clear G G2
  by_cases h500 : 500 < a.size
  · go_wp2_with fail
    refine (bawake_t w1).mono ?_
    rintro e w3 ⟨rfl, hb3⟩
    have H3 := binhid (hb1.trans (hb3.mono hb1.size))
    clear hb1 hb3
    go_wp2_with fail
    go_ret
    exact ⟨rfl, H3.out⟩
  · have H1 := binhid hb1
    clear hb1
    have hsum : (a.size : Int) + (k : Int) = ((a.size + k : Nat) : Int) := by omega
    have hu : a.size + k ≤ 507 := by omega
    have HA := binhid (padB_eq a (a.size + k) (by omega))
    have HZ := binhid (padB_zero a (a.size + k))
    have HX := binhid (fun h => padS_size (s := a) (n := a.size + k) h)
    have HL := binhid (fun h => padS_none (s := a) (n := a.size + k) h)
    have HC := binhid (fun h w => cut_back a (a.size + k) w (by omega) h)
    have HC2 := binhid (fun w => cut_bad a w (by omega))
    have PA := binhid (pad_t a (a.size + k))
    have HU : Hid (a.size ≤ a.size + k) := Nat.le_add_right _ _
    generalize padB a (a.size + k) = B at *
    generalize padS a (a.size + k) = X at *
    generalize a.size + k = u at *
    go_wp2_with fail
    refine (PA.out w1).mono ?_
    rintro e w2 ⟨rfl, hb2⟩
    have HB := binhid (H1.out.trans (hb2.mono H1.out.size))
    clear hb2 PA H1
    go_wp2_with fail
    go_loopw [18] (fun iv wr => ∃ i : Nat, iv = .int .i64 i ∧ i ≤ a.size ∧ Hid (∀ j (hj : j < a.size), j < i → a[j] ≠ 0) ∧ w2 = wr) (fun iv _ => a.size - (intOf iv).toNat)
    case atStart => exact ⟨0, rfl, by omega, fun j _ h => absurd h (Nat.not_lt_zero _), rfl⟩
    case round =>
      obtain ⟨i, rfl, hi, HI, rfl⟩ := hrel
      by_cases hlt : i < a.size
      · by_cases hz : a[i] = 0
        · have hB : B = false := HZ.out (has0_at hlt hz)
          subst hB
          have hX := HL.out rfl
          subst hX
          have hzz : ((a[i].toNat : Int) == 0) = true := by rw [hz]; rfl
          clear hz HA HZ HX HL HC HC2
          go_wp2_with fail
          refine (bawake_t w2).mono ?_
          rintro e w3 ⟨rfl, hb3⟩
          have H3 := binhid (HB.out.trans (hb3.mono HB.out.size))
          clear hb3
          go_wp2_with fail
          go_ret
          exact ⟨rfl, H3.out⟩
        · have hzz : ((a[i].toNat : Int) == 0) = false := by
            rw [beq_eq_false_iff_ne]
            intro e
            exact hz (UInt8.toNat_inj.1 (by show a[i].toNat = 0; omega))
          have HI2 : Hid (∀ j (hj : j < a.size), j < i + 1 → a[j] ≠ 0) := fun j hj h => by
            by_cases e : j = i
            · subst e; exact hz
            · exact HI.out j hj (by omega)
          clear hz HI HA HZ HX HL HC HC2
          go_wp2_with fail
          exact ⟨⟨i + 1, by go_num, by omega, HI2, trivial⟩, by simp [intOf]; omega⟩
      · have hn0 : has0 a = false := has0_none fun j hj => HI.out j hj (by omega)
        have hB : B = true := by rw [HA.out hn0]; simpa using HU.out
        subst hB
        have hX := HX.out rfl
        have hC := binhid (HC.out rfl w2)
        clear HI HA HZ HX HL HC
        go_wp2_with fail
        refine hC.out.mono ?_
        rintro e w3 ⟨rfl, rfl⟩
        go_wp2_with fail
        refine (HC2.out w2).mono ?_
        rintro e w3 ⟨rfl, rfl⟩
        go_wp2_with fail
        refine (bawake_t w2).mono ?_
        rintro e w3 ⟨rfl, hb3⟩
        have H3 := binhid (HB.out.trans (hb3.mono HB.out.size))
        clear hb3
        go_wp2_with fail
        go_ret
        exact ⟨rfl, H3.out⟩
end Go.Proofs.YtofdpognieflnaaDoor
