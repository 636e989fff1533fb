/- The blocks of a text of whole ones: split walked. -/
import Derived.Test.YtaiebhkjkeadoaaChunkLay
import Derived.Lib.JoinLaws
namespace Go.Proofs.Ytaiebhkjkeadoaa
open Go.RowKit Rec Hdp Chk

theorem tail_list (B : ByteArray) (a : Nat) : (B.extract a B.size).data.toList = B.data.toList.drop a := by
  rw [extract_list, List.take_of_length_le (by rw [← size_list]; exact Nat.le_refl _)]
theorem rest_piece (B : ByteArray) (i : Nat) : (B.extract (256 * i) B.size).extract 0 256 = B.extract (256 * i) (256 * i + 256) := by
  apply bytes_ext
  rw [extract_list, tail_list, extract_list, List.drop_zero, List.drop_take]
  congr 1
  omega
theorem rest_rest (B : ByteArray) (i : Nat) : (B.extract (256 * i) B.size).extract 256 (B.extract (256 * i) B.size).size = B.extract (256 * (i + 1)) B.size := by
  apply bytes_ext
  rw [tail_list, tail_list, tail_list, List.drop_drop]
  congr 1
theorem rest_zero (B : ByteArray) : B.extract (256 * 0) B.size = B := bytes_ext (by rw [tail_list]; rfl)
theorem rest_size (B : ByteArray) (i n : Nat) (hB : B.size = 256 * n) : (B.extract (256 * i) B.size).size = 256 * (n - i) := by
  rw [ByteArray.size_extract, hB]
  omega

def strLen : Value → Nat
  | .string s => s.size
  | _ => 0

set_option maxHeartbeats 2000000 in
theorem split_t (B : ByteArray) (n : Nat) (w : World) (hB : B.size = 256 * n) (hn : n ≤ 1000) :
    Calls Try.prog 70 #[.string B] w fun e w' => ∃ v, e = .returned v ∧ TOwn w' w.heap.size v (cutL B n) ∧ Below w.heap.size w w' := by
  have hm := fun w1 => run_make_room (P := Try.prog) 44 9 (.string ByteArray.empty) 16 Try.underlying44 Try.tinfo9 rfl .i64 .i64 n (by omega) (by omega) w1
  have hd2 : (B.size : Int) / 256 = (n : Int) := by rw [hB]; omega
  go_enter Try.func70, Try.ntmps70
  go_wp2
  have HM : Hid (TOwn (w.alloc (.cells (madeCells #[Value.string ByteArray.empty] n) 9)) w.heap.size (.slice (some ⟨w.heap.size, 0, none⟩) 0 n) []) := World.ownsRow_made w _ _ (Nat.le_refl _) (by unfold maxLen; omega) (by rw [size_madeCells, Nat.mul_one])
  have HB := hdhid hB
  clear hm hd2 hB
  go_loopw [0, 3] (fun b v wr => ∃ i : Nat, i ≤ n ∧ b = .string (B.extract (256 * i) B.size) ∧ Hid (TOwn wr w.heap.size v (cutL B i)) ∧ Hid (Below w.heap.size w wr)) (fun b _ _ => strLen b)
  case atStart => exact ⟨0, by omega, by rw [rest_zero], HM.out, (Below.refl _ _).alloc (Nat.le_refl _) _⟩
  case round =>
    obtain ⟨i, hi, rfl, HR, HW⟩ := hrel
    have hsz := hdhid (rest_size B i n HB.out)
    by_cases hlt : i < n
    · have HP := hdhid (rest_piece B i)
      have HQ := hdhid (rest_rest B i)
      have HS := hdhid (cutL_succ B i)
      have hsz2 := hsz.out
      have HZ2 := rest_size B (i + 1) n HB.out
      have HN : Hid (i + 1 ≤ n) := hlt
      have hle := HW.out.size
      have hne : (B.extract (256 * i) B.size).toList.isEmpty = false := by
        rw [ByteArray.toList_eq, List.isEmpty_eq_false_iff]
        intro h
        have h0 : (B.extract (256 * i) B.size).size = 0 := by rw [size_list, h]; rfl
        omega
      have h256 : 256 ≤ (B.extract (256 * i) B.size).size := by omega
      clear hsz2
      have hcl : (cutL B i).length = i := cutL_length B i
      generalize cutL B i = C at *
      generalize B.extract (256 * i) B.size = R at *
      obtain ⟨R2, hR2⟩ : ∃ R2, B.extract (256 * (i + 1)) B.size = R2 := ⟨_, rfl⟩
      rw [hR2] at HZ2 HQ
      have HE := hdhid hR2
      clear hR2
      go_wp2_with (first
        | (refine wpList_append_txt rfl _ _ rfl w.heap.size _ C rfl (HR.out.on ((Below.refl _ _).alloc (by simp) _)) wr.heap.size 1 [R.extract 0 256] rfl 9 (0, 0) ?c1 ?c2 ?c3 ?c4 ?_)
        | fail)
      case c1 => exact heap_alloc_new _ _
      case c2 => simp
      case c3 => rw [hcl]; simp; omega
      case c4 => simp; omega
      · intro v' w' ho hb hle2 _
        have e : C ++ [R.extract 0 256] = cutL B (i + 1) := by rw [HS.out, HP.out]
        rw [e] at ho
        have HR2 := hdhid ho
        have HW2 : Hid (Below w.heap.size w w') := (HW.out.alloc hle _).trans hb
        clear ho hb hle2 HR HW HS HP e hlt
        go_wp2_with fail
        refine ⟨⟨i + 1, HN.out, by rw [HQ.out, HE.out], HR2, HW2⟩, ?_⟩
        have e2 : R.extract 256 R.size = R2 := HQ.out
        show strLen (.string (R.extract 256 R.size)) < strLen (.string R)
        rw [e2]
        show R2.size < R.size
        have := hsz.out
        omega
    · have hin : i = n := by omega
      subst hin
      have he : (B.extract (256 * i) B.size).toList.isEmpty = true := by
        rw [ByteArray.toList_eq, List.isEmpty_iff]
        apply List.eq_nil_of_length_eq_zero
        rw [← size_list, hsz.out]
        omega
      have HR2 := HR
      clear hsz HR
      generalize B.extract (256 * i) B.size = R at *
      go_wp2_with fail
      go_ret
      exact ⟨_, rfl, HR2.out, HW.out⟩
end Go.Proofs.Ytaiebhkjkeadoaa
