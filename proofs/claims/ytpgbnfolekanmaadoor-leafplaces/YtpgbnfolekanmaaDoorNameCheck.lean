/- May a name be: the program's Check walked (for seats without paths). -/
import Derived.Test.YtpgbnfolekanmaaDoorNamePlain
import Derived.Test.YtpgbnfolekanmaaDoorRows
import Derived.WalkKit
import Derived.WalkSpells
import Derived.WalkLawsBesides
import Derived.Laws.RangeAny
import Derived.Below
namespace Go.Proofs.YtpgbnfolekanmaaDoor
open Go.RowKit

theorem namehid {P : Prop} (h : P) : Hid P := h

theorem size_data (s : ByteArray) : s.size = s.data.toList.length := Lib.size_eq s
theorem list_get {s : ByteArray} {i : Nat} (h : i < s.size) : s.data.toList[i]? = some s[i] := by
  rw [List.getElem?_eq_getElem (by rw [← size_data]; exact h)]; rfl

theorem mem_at {s : ByteArray} {b : UInt8} (h : b ∈ s.data.toList) : ∃ i, ∃ hi : i < s.size, s[i] = b := by
  obtain ⟨i, hi, e⟩ := List.getElem_of_mem h
  exact ⟨i, by rw [size_data]; exact hi, e⟩

set_option maxHeartbeats 1000000 in
theorem check_long (s : ByteArray) (w : World) (h : 26 < s.size) :
    Calls Tryd.prog 37 #[.string s] w fun e w' => e = .returned (.bool false) ∧ w = w' := by
  have h0 : s.toList.isEmpty = false := by
    rw [Lib.toList_data]
    cases e : s.data.toList with
    | nil => rw [size_data, e] at h; simp at h
    | cons _ _ => rfl
  go_enter Tryd.func37, Tryd.ntmps37
  go_wp2
  go_ret
  exact ⟨rfl, rfl⟩

set_option maxHeartbeats 1000000 in
theorem check_points (s : ByteArray) (w : World) (h : s = ⟨#[]⟩ ∨ s = ⟨#[46]⟩ ∨ s = ⟨#[46, 46]⟩) :
    Calls Tryd.prog 37 #[.string s] w fun e w' => e = .returned (.bool false) ∧ w = w' := by
  rcases h with rfl | rfl | rfl
  all_goals
    go_enter Tryd.func37, Tryd.ntmps37
    go_wp2
    go_ret
    exact ⟨rfl, rfl⟩

/-- A good byte: its sign is the byte itself, one long. -/
theorem rune_ok {s : ByteArray} {pos : Nat} (h : pos < s.size) (hb : Word.okb s[pos] = true) : ∃ c : Nat, (Utf8.decode s pos).1 = c ∧ (Utf8.decode s pos).2 = 1 ∧ 33 ≤ c ∧ c ≤ 126 ∧ c ≠ 47 := by
  simp only [Word.okb, decide_eq_true_eq] at hb
  rw [decode_ascii s pos h (by omega)]
  exact ⟨_, rfl, rfl, hb⟩

/-- Another byte: its sign is none that a name has. -/
theorem rune_no {s : ByteArray} {pos : Nat} (h : pos < s.size) (hb : Word.okb s[pos] = false) : ∃ c : Nat, (Utf8.decode s pos).1 = c ∧ (c < 33 ∨ 126 < c ∨ c = 47) := by
  simp only [Word.okb, decide_eq_false_iff_not] at hb
  by_cases ha : (s[pos]).toNat < 128
  · rw [decode_ascii s pos h ha]
    exact ⟨_, rfl, by omega⟩
  · exact ⟨_, rfl, by have := (decode_high s pos h (by omega)).1; omega⟩

set_option maxHeartbeats 2000000 in
theorem check_loop (s : ByteArray) (w : World) (h1 : 1 ≤ s.size) (h2 : s.size ≤ 26) (h3 : s ≠ ⟨#[46]⟩) (h4 : s ≠ ⟨#[46, 46]⟩) :
    Calls Tryd.prog 37 #[.string s] w fun e w' => e = .returned (.bool (s.data.toList.all Word.okb)) ∧ Below w.heap.size w w' := by
  have h0 : s.toList.isEmpty = false := by
    rw [Lib.toList_data]
    cases e : s.data.toList with
    | nil => rw [size_data, e] at h1; simp at h1
    | cons _ _ => rfl
  have e3 : (s.toList == [46]) = false := by
    rw [Lib.toList_data, beq_eq_false_iff_ne]
    intro e
    exact h3 (by rw [← Lib.mk_data s, e])
  have e4 : (s.toList == [46, 46]) = false := by
    rw [Lib.toList_data, beq_eq_false_iff_ne]
    intro e
    exact h4 (by rw [← Lib.mk_data s, e])
  clear h3 h4
  obtain ⟨B, hB⟩ : ∃ B, s.data.toList.all Word.okb = B := ⟨_, rfl⟩
  rw [hB]
  have HB := namehid hB
  clear hB
  go_enter Tryd.func37, Tryd.ntmps37
  go_wp2
  go_loopw [] (fun wr => ∃ pos : Nat, wr = w.iter s pos ∧ pos ≤ s.size ∧ Hid (∀ j (hj : j < s.size), j < pos → Word.okb s[j] = true)) (fun wr => s.size - wr.iterPos w.heap.size)
  case atStart => exact ⟨0, rfl, Nat.zero_le _, fun j _ h => absurd h (Nat.not_lt_zero _)⟩
  case round =>
    obtain ⟨pos, rfl, hp, HI⟩ := hrel
    by_cases hlt : pos < s.size
    · have hnx : ∀ ty, (Instr.next (.pointer (some ⟨w.heap.size, 0, none⟩)) true ty).run Tryd.prog (w.iter s pos) = _ := fun ty => run_next_any w s pos ty hlt
      cases hb : Word.okb s[pos] with
      | true =>
        obtain ⟨c, e1, e2, c1, c2, c3⟩ := rune_ok hlt hb
        rw [e1, e2] at hnx
        have c4 : ((c : Int) == 47) = false := by rw [beq_eq_false_iff_ne]; omega
        have HI2 : Hid (∀ j (hj : j < s.size), j < pos + 1 → Word.okb s[j] = true) := fun j hj h => by
          by_cases e : j = pos
          · subst e; exact hb
          · exact HI.out j hj (by omega)
        clear e1 e2 hb HI
        go_wp2
        refine ⟨⟨pos + 1, rfl, by omega, HI2⟩, ?_⟩
        simp
        omega
      | false =>
        obtain ⟨c, e1, hc⟩ := rune_no hlt hb
        rw [e1] at hnx
        have hall : s.data.toList.all Word.okb = false := by
          rw [List.all_eq_false]
          exact ⟨s[pos], List.mem_of_getElem? (list_get hlt), by simp [hb]⟩
        have hB : B = false := HB.out.symm.trans hall
        subst hB
        clear e1 hb HI hall HB
        generalize (Utf8.decode s pos).2 = wd at hnx
        rcases hc with hc | hc | rfl
        · go_wp2
          go_ret
          exact ⟨rfl, (Below.refl _ w).alloc (Nat.le_refl _) _⟩
        · go_wp2
          go_ret
          exact ⟨rfl, (Below.refl _ w).alloc (Nat.le_refl _) _⟩
        · go_wp2
          go_ret
          exact ⟨rfl, (Below.refl _ w).alloc (Nat.le_refl _) _⟩
    · have hnx : ∀ ty, (Instr.next (.pointer (some ⟨w.heap.size, 0, none⟩)) true ty).run Tryd.prog (w.iter s pos) = _ := fun ty => run_next_end w s pos ty hlt
      have hall : s.data.toList.all Word.okb = true := by
        rw [List.all_eq_true]
        intro b hb
        obtain ⟨i, hi, rfl⟩ := mem_at hb
        exact HI.out i hi (by omega)
      have hB : B = true := HB.out.symm.trans hall
      subst hB
      clear HI hall HB
      go_wp2
      go_ret
      exact ⟨rfl, (Below.refl _ w).alloc (Nat.le_refl _) _⟩

/-- Check: may the name be? -/
theorem check_t (s : ByteArray) (w : World) :
    Calls Tryd.prog 37 #[.string s] w fun e w' => e = .returned (.bool (Word.chk s.data.toList)) ∧ Below w.heap.size w w' := by
  have eq : ∀ l : List UInt8, (s.data.toList = l) ↔ s = ⟨l.toArray⟩ := fun l => ⟨fun e => by rw [← Lib.mk_data s, e], fun e => by rw [e]⟩
  by_cases h0 : s = ⟨#[]⟩ ∨ s = ⟨#[46]⟩ ∨ s = ⟨#[46, 46]⟩
  · have e : Word.chk s.data.toList = false := by rcases h0 with rfl | rfl | rfl <;> rfl
    rw [e]
    exact (check_points s w h0).mono fun _ _ ⟨he, hw⟩ => ⟨he, hw ▸ Below.refl _ _⟩
  · by_cases h26 : 26 < s.size
    · have e : Word.chk s.data.toList = false := by
        simp [Word.chk]
        intro _ h
        omega
      rw [e]
      exact (check_long s w h26).mono fun _ _ ⟨he, hw⟩ => ⟨he, hw ▸ Below.refl _ _⟩
    · have hne : s ≠ ⟨#[]⟩ ∧ s ≠ ⟨#[46]⟩ ∧ s ≠ ⟨#[46, 46]⟩ := ⟨fun e => h0 (.inl e), fun e => h0 (.inr (.inl e)), fun e => h0 (.inr (.inr e))⟩
      have h1 : 1 ≤ s.size := by
        rw [size_data]
        cases e : s.data.toList with
        | nil => exact absurd ((eq []).1 e) hne.1
        | cons _ _ => simp
      have e : Word.chk s.data.toList = s.data.toList.all Word.okb := by
        have a1 : decide (1 ≤ s.data.toList.length ∧ s.data.toList.length ≤ 26) = true := by rw [← size_data]; simp; omega
        have a2 : (s.data.toList != [46]) = true := by rw [bne_iff_ne]; exact fun e => hne.2.1 ((eq _).1 e)
        have a3 : (s.data.toList != [46, 46]) = true := by rw [bne_iff_ne]; exact fun e => hne.2.2 ((eq _).1 e)
        rw [Word.chk, a1, a2, a3]
        simp
      rw [e]
      exact check_loop s w h1 (by omega) hne.2.1 hne.2.2
end Go.Proofs.YtpgbnfolekanmaaDoor
