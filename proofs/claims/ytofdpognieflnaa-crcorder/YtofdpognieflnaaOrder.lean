/- The law CrcOrder walked. -/
import Derived.Test.YtofdpognieflnaaCode
import Derived.BigRegion
import Derived.Laws.BytesArg
namespace Go.Proofs.Ytofdpognieflnaa
open Go.RowKit

def str (l : List UInt8) : ByteArray := ⟨l.toArray⟩

/-- a row of one byte, as a text -/
theorem conv1 (g : Nat) (x : Int) (w : World) (h : w.cell? ⟨g, 0, none⟩ = some (.int .u8 x)) :
    (convert 27 9 (.slice (some ⟨g, 0, none⟩) 1 1)).run Try.prog w = .ok (.string (str [UInt8.ofNat x.toNat])) w := by
  have := run_convert_bytes_arg (P := Try.prog) w 27 5 Try.underlying27 Try.underlying5 g 0 1 1 [x] rfl (fun i hi => by
    have : i = 0 := by omega
    subst this
    simpa using h) 9 Try.underlying9
  rw [this]
  rfl

abbrev one (x : Int) : Obj := .cells #[.int .u8 x] 5

theorem conv_a (wr : World) (x : Int) : (convert 27 9 (.slice (some ⟨wr.heap.size, 0, none⟩) 1 1)).run Try.prog (wr.alloc (one x)).drew = .ok (.string (str [UInt8.ofNat x.toNat])) (wr.alloc (one x)).drew :=
  conv1 _ x _ (by simp [one])
theorem conv_b (wr : World) (x y : Int) : (convert 27 9 (.slice (some ⟨wr.heap.size, 0, none⟩) 1 1)).run Try.prog ((wr.alloc (one x)).alloc (one y)).drew = .ok (.string (str [UInt8.ofNat x.toNat])) ((wr.alloc (one x)).alloc (one y)).drew :=
  conv1 _ x _ (by simp [one])
theorem conv_c (wr : World) (x y : Int) : (convert 27 9 (.slice (some ⟨wr.heap.size + 1, 0, none⟩) 1 1)).run Try.prog ((wr.alloc (one x)).alloc (one y)).drew = .ok (.string (str [UInt8.ofNat y.toNat])) ((wr.alloc (one x)).alloc (one y)).drew :=
  conv1 _ y _ (by simp [one])

theorem low_succ : ∀ (i n : Nat), Sum.low (i + 1) n = Sum.low i n ++ [UInt8.ofNat (n / 256 ^ i % 256)]
  | 0, n => by simp [Sum.low]
  | i + 1, n => by
    have h := low_succ i (n / 256)
    rw [Sum.low, h, Sum.low, Nat.div_div_eq_div_mul, Nat.pow_succ, Nat.mul_comm 256]
    rfl

theorem str_append (l m : List UInt8) : str l ++ str m = str (l ++ m) := by
  apply ByteArray.ext
  simp [str]

theorem grow {sx : ByteArray} {i n : Nat} (h : str (Sum.low i n) = sx) : str (Sum.low (i + 1) n) = sx ++ str [UInt8.ofNat (n / 256 ^ i % 256)] := by
  rw [low_succ, ← str_append, h]

theorem str_low (i n : Nat) (h : i ≤ 4) : (str (Sum.low i n)).size ≤ 4 := by
  have e : (str (Sum.low i n)).size = (Sum.low i n).length := rfl
  rw [e, Sum.low_length]
  exact h

set_option maxHeartbeats 2000000 in
theorem crcOrder_t (a b : Nat) (n : Int) (w : World) (ha : a < 4294967296) (hb : b < 4294967296) :
    Calls Try.prog 6 #[.int .u32 a, .int .u32 b, .int .i64 n] w fun e w' => e = .returned (.bool true) ∧ Grown w w' := by
  go_enter Try.func6, Try.ntmps6
  go_wp2_with fail
  refine (place_any n 5 w (by omega) (by omega)).mono ?_
  rintro e w1 ⟨⟨k, rfl, hk⟩, rfl⟩
  go_wp2
  go_loopw [8, 9, 10] (fun x y c wr => ∃ i : Nat, i ≤ k ∧ c = .int .i64 i ∧ x = .string (str (Sum.low i a)) ∧ y = .string (str (Sum.low i b)) ∧ Grown w wr) (fun _ _ c _ => k - (intOf c).toNat)
  case atStart => exact ⟨0, by omega, rfl, rfl, rfl, Grown.refl _⟩
  case round =>
    obtain ⟨i, hi, rfl, rfl, rfl, hg⟩ := hrel
    by_cases hlt : i < k
    · have hi4 : i = 0 ∨ i = 1 ∨ i = 2 ∨ i = 3 := by omega
      rcases hi4 with rfl | rfl | rfl | rfl
      · have GA := hid (grow (i := 0) (n := a) rfl)
        have GB := hid (grow (i := 0) (n := b) rfl)
        have qa : Hid (UInt8.ofNat (((a : Nat) : Int) % 256).toNat = UInt8.ofNat (a / 256 ^ 0 % 256)) := congrArg UInt8.ofNat (by omega)
        have qb : Hid (UInt8.ofNat (((b : Nat) : Int) % 256).toNat = UInt8.ofNat (b / 256 ^ 0 % 256)) := congrArg UInt8.ofNat (by omega)
        have A1 := conv_a wr (((a : Nat) : Int) % 256)
        have A2 := conv_b wr (((a : Nat) : Int) % 256) (((b : Nat) : Int) % 256)
        have A3 := conv_c wr (((a : Nat) : Int) % 256) (((b : Nat) : Int) % 256)
        have B1 := conv_a wr (((b : Nat) : Int) % 256)
        have B2 := conv_b wr (((b : Nat) : Int) % 256) (((a : Nat) : Int) % 256)
        have B3 := conv_c wr (((b : Nat) : Int) % 256) (((a : Nat) : Int) % 256)
        unfold one at A1 A2 A3 B1 B2 B3
        rw [qa.out] at A1 A2 B3
        rw [qb.out] at A3 B1 B2
        have s1 : (str [UInt8.ofNat (a / 256 ^ 0 % 256)]).size ≤ 1 := Nat.le_refl _
        have s2 : (str [UInt8.ofNat (b / 256 ^ 0 % 256)]).size ≤ 1 := Nat.le_refl _
        have s3 : (str (Sum.low 0 a)).size ≤ 4 := str_low 0 a (by omega)
        have s4 : (str (Sum.low 0 b)).size ≤ 4 := str_low 0 b (by omega)
        generalize str [UInt8.ofNat (a / 256 ^ 0 % 256)] = ca at *
        generalize str [UInt8.ofNat (b / 256 ^ 0 % 256)] = cb at *
        generalize str (Sum.low 0 a) = sx at *
        generalize str (Sum.low 0 b) = sy at *
        clear qa qb
        go_wp2_with fail
        go_region
        all_goals go_wp2
        all_goals exact ⟨⟨1, by omega, rfl, congrArg Value.string GA.out.symm, congrArg Value.string GB.out.symm, ((hg.alloc _ _).alloc _ _).drew⟩, by simp [intOf]; omega⟩
      · have GA := hid (grow (i := 1) (n := a) rfl)
        have GB := hid (grow (i := 1) (n := b) rfl)
        have qa : Hid (UInt8.ofNat (((a : Nat) : Int) / 256 % 256).toNat = UInt8.ofNat (a / 256 ^ 1 % 256)) := congrArg UInt8.ofNat (by omega)
        have qb : Hid (UInt8.ofNat (((b : Nat) : Int) / 256 % 256).toNat = UInt8.ofNat (b / 256 ^ 1 % 256)) := congrArg UInt8.ofNat (by omega)
        have A1 := conv_a wr (((a : Nat) : Int) / 256 % 256)
        have A2 := conv_b wr (((a : Nat) : Int) / 256 % 256) (((b : Nat) : Int) / 256 % 256)
        have A3 := conv_c wr (((a : Nat) : Int) / 256 % 256) (((b : Nat) : Int) / 256 % 256)
        have B1 := conv_a wr (((b : Nat) : Int) / 256 % 256)
        have B2 := conv_b wr (((b : Nat) : Int) / 256 % 256) (((a : Nat) : Int) / 256 % 256)
        have B3 := conv_c wr (((b : Nat) : Int) / 256 % 256) (((a : Nat) : Int) / 256 % 256)
        unfold one at A1 A2 A3 B1 B2 B3
        rw [qa.out] at A1 A2 B3
        rw [qb.out] at A3 B1 B2
        have s1 : (str [UInt8.ofNat (a / 256 ^ 1 % 256)]).size ≤ 1 := Nat.le_refl _
        have s2 : (str [UInt8.ofNat (b / 256 ^ 1 % 256)]).size ≤ 1 := Nat.le_refl _
        have s3 : (str (Sum.low 1 a)).size ≤ 4 := str_low 1 a (by omega)
        have s4 : (str (Sum.low 1 b)).size ≤ 4 := str_low 1 b (by omega)
        generalize str [UInt8.ofNat (a / 256 ^ 1 % 256)] = ca at *
        generalize str [UInt8.ofNat (b / 256 ^ 1 % 256)] = cb at *
        generalize str (Sum.low 1 a) = sx at *
        generalize str (Sum.low 1 b) = sy at *
        clear qa qb
        go_wp2_with fail
        go_region
        all_goals go_wp2
        all_goals exact ⟨⟨2, by omega, rfl, congrArg Value.string GA.out.symm, congrArg Value.string GB.out.symm, ((hg.alloc _ _).alloc _ _).drew⟩, by simp [intOf]; omega⟩
      · have GA := hid (grow (i := 2) (n := a) rfl)
        have GB := hid (grow (i := 2) (n := b) rfl)
        have qa : Hid (UInt8.ofNat (((a : Nat) : Int) / 65536 % 256).toNat = UInt8.ofNat (a / 256 ^ 2 % 256)) := congrArg UInt8.ofNat (by omega)
        have qb : Hid (UInt8.ofNat (((b : Nat) : Int) / 65536 % 256).toNat = UInt8.ofNat (b / 256 ^ 2 % 256)) := congrArg UInt8.ofNat (by omega)
        have A1 := conv_a wr (((a : Nat) : Int) / 65536 % 256)
        have A2 := conv_b wr (((a : Nat) : Int) / 65536 % 256) (((b : Nat) : Int) / 65536 % 256)
        have A3 := conv_c wr (((a : Nat) : Int) / 65536 % 256) (((b : Nat) : Int) / 65536 % 256)
        have B1 := conv_a wr (((b : Nat) : Int) / 65536 % 256)
        have B2 := conv_b wr (((b : Nat) : Int) / 65536 % 256) (((a : Nat) : Int) / 65536 % 256)
        have B3 := conv_c wr (((b : Nat) : Int) / 65536 % 256) (((a : Nat) : Int) / 65536 % 256)
        unfold one at A1 A2 A3 B1 B2 B3
        rw [qa.out] at A1 A2 B3
        rw [qb.out] at A3 B1 B2
        have s1 : (str [UInt8.ofNat (a / 256 ^ 2 % 256)]).size ≤ 1 := Nat.le_refl _
        have s2 : (str [UInt8.ofNat (b / 256 ^ 2 % 256)]).size ≤ 1 := Nat.le_refl _
        have s3 : (str (Sum.low 2 a)).size ≤ 4 := str_low 2 a (by omega)
        have s4 : (str (Sum.low 2 b)).size ≤ 4 := str_low 2 b (by omega)
        generalize str [UInt8.ofNat (a / 256 ^ 2 % 256)] = ca at *
        generalize str [UInt8.ofNat (b / 256 ^ 2 % 256)] = cb at *
        generalize str (Sum.low 2 a) = sx at *
        generalize str (Sum.low 2 b) = sy at *
        clear qa qb
        go_wp2_with fail
        go_region
        all_goals go_wp2
        all_goals exact ⟨⟨3, by omega, rfl, congrArg Value.string GA.out.symm, congrArg Value.string GB.out.symm, ((hg.alloc _ _).alloc _ _).drew⟩, by simp [intOf]; omega⟩
      · have GA := hid (grow (i := 3) (n := a) rfl)
        have GB := hid (grow (i := 3) (n := b) rfl)
        have qa : Hid (UInt8.ofNat (((a : Nat) : Int) / 16777216).toNat = UInt8.ofNat (a / 256 ^ 3 % 256)) := congrArg UInt8.ofNat (by omega)
        have qb : Hid (UInt8.ofNat (((b : Nat) : Int) / 16777216).toNat = UInt8.ofNat (b / 256 ^ 3 % 256)) := congrArg UInt8.ofNat (by omega)
        have A1 := conv_a wr (((a : Nat) : Int) / 16777216)
        have A2 := conv_b wr (((a : Nat) : Int) / 16777216) (((b : Nat) : Int) / 16777216)
        have A3 := conv_c wr (((a : Nat) : Int) / 16777216) (((b : Nat) : Int) / 16777216)
        have B1 := conv_a wr (((b : Nat) : Int) / 16777216)
        have B2 := conv_b wr (((b : Nat) : Int) / 16777216) (((a : Nat) : Int) / 16777216)
        have B3 := conv_c wr (((b : Nat) : Int) / 16777216) (((a : Nat) : Int) / 16777216)
        unfold one at A1 A2 A3 B1 B2 B3
        rw [qa.out] at A1 A2 B3
        rw [qb.out] at A3 B1 B2
        have s1 : (str [UInt8.ofNat (a / 256 ^ 3 % 256)]).size ≤ 1 := Nat.le_refl _
        have s2 : (str [UInt8.ofNat (b / 256 ^ 3 % 256)]).size ≤ 1 := Nat.le_refl _
        have s3 : (str (Sum.low 3 a)).size ≤ 4 := str_low 3 a (by omega)
        have s4 : (str (Sum.low 3 b)).size ≤ 4 := str_low 3 b (by omega)
        generalize str [UInt8.ofNat (a / 256 ^ 3 % 256)] = ca at *
        generalize str [UInt8.ofNat (b / 256 ^ 3 % 256)] = cb at *
        generalize str (Sum.low 3 a) = sx at *
        generalize str (Sum.low 3 b) = sy at *
        clear qa qb
        go_wp2_with fail
        go_region
        all_goals go_wp2
        all_goals exact ⟨⟨4, by omega, rfl, congrArg Value.string GA.out.symm, congrArg Value.string GB.out.symm, ((hg.alloc _ _).alloc _ _).drew⟩, by simp [intOf]; omega⟩
    · have s3 := str_low i a (by omega)
      have s4 := str_low i b (by omega)
      have C := hid (fun e => @Sum.short (Sum.low i a) (Sum.low i b) (by rw [Sum.low_length]; omega) (by rw [Sum.low_length, Sum.low_length]) e)
      have ea : (str (Sum.low i a)).data.toList = Sum.low i a := rfl
      have eb : (str (Sum.low i b)).data.toList = Sum.low i b := rfl
      have oa := of_t (str (Sum.low i a)) wr (by omega)
      have ob := of_t (str (Sum.low i b)) wr (by omega)
      rw [ea] at oa
      rw [eb] at ob
      have Oa := hid oa
      have Ob := hid ob
      clear ea eb oa ob
      by_cases hxy : Sum.low i a = Sum.low i b
      · rw [hxy] at Oa s3 ⊢
        clear C hxy
        generalize str (Sum.low i b) = sy at *
        go_wp2_with fail
        refine Oa.out.mono ?_
        rintro e w1 ⟨rfl, rfl⟩
        go_wp2_with fail
        refine Ob.out.mono ?_
        rintro e w1 ⟨rfl, rfl⟩
        go_wp2_with fail
        refine (awake_t wr).mono ?_
        rintro e w1 ⟨rfl, rfl⟩
        go_wp2
        go_ret
        exact ⟨rfl, hg⟩
      · have hs : ((str (Sum.low i a)).toList == (str (Sum.low i b)).toList) = false := by
          rw [beq_eq_false_iff_ne, ByteArray.toList_eq, ByteArray.toList_eq]
          exact hxy
        have hc : (((Sum.crc (Sum.low i a) : Nat) : Int) == ((Sum.crc (Sum.low i b) : Nat) : Int)) = false := by
          rw [beq_eq_false_iff_ne]
          intro e
          exact hxy (C.out (by omega))
        clear C
        generalize Sum.crc (Sum.low i a) = cx at *
        generalize Sum.crc (Sum.low i b) = cy at *
        generalize str (Sum.low i a) = sx at *
        generalize str (Sum.low i b) = sy at *
        go_wp2_with fail
        refine Oa.out.mono ?_
        rintro e w1 ⟨rfl, rfl⟩
        go_wp2_with fail
        refine Ob.out.mono ?_
        rintro e w1 ⟨rfl, rfl⟩
        go_wp2_with fail
        refine (awake_t wr).mono ?_
        rintro e w1 ⟨rfl, rfl⟩
        go_wp2
        go_ret
        exact ⟨rfl, hg⟩
end Go.Proofs.Ytofdpognieflnaa
