/- May a name be: the document's own Check walked. -/
import Derived.Test.YtpgbnfolekanmaaDoorNameCheck
namespace Go.Proofs.YtpgbnfolekanmaaDoor
open Go.RowKit

/-- What the last line of Check asks. -/
theorem chk_parts (s : ByteArray) : Word.chk s.data.toList = (decide (1 ≤ s.size ∧ s.size ≤ 26) && (s.data.toList.all Word.okb && (s.data.toList != [46] && s.data.toList != [46, 46]))) := by
  rw [Word.chk, size_data]

set_option maxHeartbeats 2000000 in
/-- Check of the document: may the name be? -/
theorem rcheck_t (s : ByteArray) (w : World) (hs : s.size ≤ 9223372036854775807) :
    Calls Tryd.prog 30 #[.string s] w fun e w' => e = .returned (.bool (Word.chk s.data.toList)) ∧ w = w' := by
  have hB := chk_parts s
  obtain ⟨B, hB2⟩ : ∃ B, Word.chk s.data.toList = B := ⟨_, rfl⟩
  rw [hB2] at hB
  rw [hB2]
  have HB := namehid hB
  clear hB hB2
  go_enter Tryd.func30, Tryd.ntmps30
  go_wp2
  go_loopw [3] (fun iv wr => ∃ i : Nat, iv = .int .i64 i ∧ i ≤ s.size ∧ Hid (∀ j (hj : j < s.size), j < i → Word.okb s[j] = true) ∧ w = wr) (fun iv _ => s.size - (intOf iv).toNat)
  case atStart => exact ⟨0, rfl, Nat.zero_le _, fun j _ h => absurd h (Nat.not_lt_zero _), rfl⟩
  case round =>
    obtain ⟨i, rfl, hi, HI, rfl⟩ := hrel
    by_cases hlt : i < s.size
    · cases hb : Word.okb s[i] with
      | true =>
        have hb2 : 33 ≤ s[i].toNat ∧ s[i].toNat ≤ 126 ∧ s[i].toNat ≠ 47 := by simpa [Word.okb] using hb
        have c1 : 33 ≤ s[i].toNat := hb2.1
        have c2 : s[i].toNat ≤ 126 := hb2.2.1
        have c3 : ((s[i].toNat : Int) == 47) = false := by rw [beq_eq_false_iff_ne]; have := hb2.2.2; omega
        have HI2 : Hid (∀ j (hj : j < s.size), j < i + 1 → Word.okb s[j] = true) := fun j hj h => by
          by_cases e : j = i
          · subst e; exact hb
          · exact HI.out j hj (by omega)
        clear hb hb2 HI HB
        go_wp2_with fail
        exact ⟨⟨i + 1, by go_num, by omega, HI2, trivial⟩, by simp [intOf]; omega⟩
      | false =>
        have hb2 : s[i].toNat < 33 ∨ 126 < s[i].toNat ∨ s[i].toNat = 47 := by
          have : ¬ (33 ≤ s[i].toNat ∧ s[i].toNat ≤ 126 ∧ s[i].toNat ≠ 47) := by simpa only [Word.okb, decide_eq_false_iff_not] using hb
          omega
        have hall : s.data.toList.all Word.okb = false := by
          rw [List.all_eq_false]
          exact ⟨s[i], List.mem_of_getElem? (list_get hlt), by simp [hb]⟩
        have hB : B = false := by rw [HB.out, hall]; simp
        subst hB
        clear hall hb HI HB
        rcases hb2 with hb2 | hb2 | hb2
        · go_wp2_with fail
          go_ret
          exact ⟨rfl, rfl⟩
        · go_wp2_with fail
          go_ret
          exact ⟨rfl, rfl⟩
        · have c3 : ((s[i].toNat : Int) == 47) = true := by rw [beq_iff_eq]; omega
          have c4 : 33 ≤ s[i].toNat := by omega
          have c5 : s[i].toNat ≤ 126 := by omega
          go_wp2_with fail
          go_ret
          exact ⟨rfl, rfl⟩
    · have hall : s.data.toList.all Word.okb = true := by
        rw [List.all_eq_true]
        intro b hb
        obtain ⟨i, hi, rfl⟩ := mem_at hb
        exact HI.out i hi (by omega)
      have HB2 : Hid (B = (decide (1 ≤ s.size ∧ s.size ≤ 26) && (s.toList != [46] && s.toList != [46, 46]))) := by
        show _ = _
        rw [HB.out, hall, Lib.toList_data]
        simp
      clear HB hall HI
      by_cases h1 : 1 ≤ s.size
      · by_cases h26 : s.size ≤ 26
        · have hd : decide (1 ≤ s.size ∧ s.size ≤ 26) = true := by simp; omega
          have HB3 : Hid (B = (s.toList != [46] && s.toList != [46, 46])) := by
            show _ = _
            rw [HB2.out, hd]
            simp
          clear HB2 hd
          cases hp1 : (s.toList == [46]) with
          | true =>
            have hB : B = false := by rw [HB3.out, bne, hp1]; rfl
            subst hB
            clear HB3
            go_wp2_with fail
            go_ret
            exact ⟨rfl, rfl⟩
          | false =>
            cases hp2 : (s.toList == [46, 46]) with
            | true =>
              have hB : B = false := by rw [HB3.out, bne, bne, hp1, hp2]; rfl
              subst hB
              clear HB3
              go_wp2_with fail
              go_ret
              exact ⟨rfl, rfl⟩
            | false =>
              have hB : B = true := by rw [HB3.out, bne, bne, hp1, hp2]; rfl
              subst hB
              clear HB3
              go_wp2_with fail
              go_ret
              exact ⟨rfl, rfl⟩
        · have hB : B = false := by
            rw [HB2.out]
            have : decide (1 ≤ s.size ∧ s.size ≤ 26) = false := by simp; omega
            rw [this]; rfl
          subst hB
          clear HB2
          go_wp2_with fail
          go_ret
          exact ⟨rfl, rfl⟩
      · have hB : B = false := by
          rw [HB2.out]
          have : decide (1 ≤ s.size ∧ s.size ≤ 26) = false := by simp; omega
          rw [this]; rfl
        subst hB
        clear HB2
        go_wp2_with fail
        go_ret
        exact ⟨rfl, rfl⟩
end Go.Proofs.YtpgbnfolekanmaaDoor
