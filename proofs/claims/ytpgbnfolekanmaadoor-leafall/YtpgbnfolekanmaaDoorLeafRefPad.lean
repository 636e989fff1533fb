/- Chapter 3's own Pad and Cut (the document's) walked. -/
import Derived.Test.YtpgbnfolekanmaaDoorLeafRef
import Derived.Test.YtpgbnfolekanmaaDoorBinRefPut
namespace Go.Proofs.YtpgbnfolekanmaaDoor
open Go.RowKit Lf

theorem free_at {s : ByteArray} (h : s.data.toList.contains 0 = false) {i : Nat} (hi : i < s.size) : s[i] ≠ 0 := by
  intro e
  have hm : s[i] ∈ s.data.toList := by
    rw [Array.mem_toList_iff]
    exact Array.getElem_mem hi
  rw [e] at hm
  rw [List.contains_iff_mem.2 hm] at h
  cases h

set_option maxHeartbeats 1000000 in
theorem rpad_t (s : ByteArray) (w : World) (h1 : s.size ≤ 26) (h0 : s.data.toList.contains 0 = false) :
    Calls Tryd.prog 31 #[.string s, .int .i64 26] w fun e w' => e = .returned (.tuple #[.string (padN s), .bool true]) ∧ Below w.heap.size w w' := by
  have hd : (26 : Int) - (s.size : Int) = ((26 - s.size : Nat) : Int) := by omega
  have hn : 26 - s.size ≤ 26 := by omega
  have HF : Hid (∀ i, (hi : i < s.size) → s[i] ≠ 0) := fun i hi => free_at h0 hi
  have hzs := zerosS_size (26 - s.size)
  unfold padN
  have hmk : ∀ W : World, (Instr.makeSlice 46 (.int .i64 ((26 - s.size : Nat) : Int)) (.int .i64 ((26 - s.size : Nat) : Int))).run Tryd.prog W = .ok (.slice (some ⟨W.heap.size, 0, none⟩) (26 - s.size) (26 - s.size)) (W.alloc (.cells (zrow (26 - s.size)) 5)) := fun W => zmake (26 - s.size) (by omega) W
  have hcv : (convert 46 9 (.slice (some ⟨w.heap.size, 0, none⟩) (26 - s.size) (26 - s.size))).run Tryd.prog (w.alloc (.cells (zrow (26 - s.size)) 5)) = .ok (.string (zerosS (26 - s.size))) (w.alloc (.cells (zrow (26 - s.size)) 5)) := zconv (26 - s.size) w.heap.size _ (heap_alloc_new _ _)
  generalize zerosS (26 - s.size) = Z at *
  generalize zrow (26 - s.size) = R at *
  generalize 26 - s.size = d at *
  clear h0
  go_enter Tryd.func31, Tryd.ntmps31
  go_wp2_with fail
  go_loopw [6] (fun c wr => ∃ i : Nat, c = .int .i64 i ∧ i ≤ s.size ∧ w = wr) (fun c _ => s.size - (intOf c).toNat)
  case atStart => exact ⟨0, rfl, Nat.zero_le _, rfl⟩
  case round =>
    obtain ⟨i, rfl, hi, rfl⟩ := hrel
    by_cases hlt : i < s.size
    · have hz : ((s[i].toNat : Int) == 0) = false := by
        rw [beq_eq_false_iff_ne]
        intro e
        exact HF.out i hlt (UInt8.toNat_inj.1 (by show s[i].toNat = 0; omega))
      clear hmk hcv
      go_wp2_with fail
      exact ⟨⟨i + 1, by go_num, by omega, trivial⟩, by simp [intOf]; omega⟩
    · go_wp2_with fail
      go_ret2
      exact ⟨rfl, (Below.refl _ _).alloc (Nat.le_refl _) _⟩

/-- What the end of a text is. -/
theorem trim_is {t : List UInt8} {n : Nat} (hn : n ≤ t.length) (hb : ∀ i, (h : i < t.length) → n ≤ i → t[i] = 0) (ha : 0 < n → ∀ (h : n - 1 < t.length), t[n - 1] ≠ 0) : trimL t = t.take n := by
  have e : t = t.take n ++ List.replicate (t.length - n) 0 := by
    apply List.ext_getElem
    · rw [List.length_append, List.length_take, List.length_replicate]
      omega
    · intro i h1 h2
      by_cases hi : i < n
      · rw [List.getElem_append_left (by rw [List.length_take]; omega), List.getElem_take]
      · rw [List.getElem_append_right (by rw [List.length_take]; omega), List.getElem_replicate]
        exact hb i h1 (by omega)
  have e2 : trimL t = trimL (t.take n) := by
    conv => lhs; rw [e]
    unfold trimL Lib.trimRightB
    rw [List.reverse_append, List.reverse_replicate, drop_zeros]
  rw [e2]
  rcases Nat.eq_zero_or_pos n with h0 | h0
  · subst h0
    rfl
  · have hl : n - 1 < t.length := by omega
    have hn0 := ha h0 hl
    have e3 : t.take n = t.take (n - 1) ++ [t[n - 1]] := by
      have := List.take_succ_eq_append_getElem hl
      rw [show n - 1 + 1 = n by omega] at this
      exact this
    rw [e3]
    unfold trimL Lib.trimRightB
    rw [List.reverse_append, List.reverse_singleton, List.singleton_append, List.dropWhile_cons_of_neg (by simpa using hn0), List.reverse_cons, List.reverse_reverse]

theorem list_at {s : ByteArray} {i : Nat} (h : i < s.data.toList.length) : s.data.toList[i] = s[i]'(by rw [Lib.size_eq]; exact h) := rfl

set_option maxRecDepth 10000 in
set_option maxHeartbeats 2000000 in
theorem rcut_t (s : ByteArray) (w : World) (hs : s.size ≤ 1000) :
    Calls Tryd.prog 35 #[.string s] w fun e w' => e = .returned (.tuple #[.string ⟨(cutL s.data.toList).toArray⟩, .bool (cutB s.data.toList)]) ∧ w = w' := by
  have HTR : Hid (∀ n, n ≤ s.size → (∀ i, (h : i < s.size) → n ≤ i → s[i] = 0) → (0 < n → ∀ (h : n - 1 < s.size), s[n - 1] ≠ 0) → trimL s.data.toList = s.data.toList.take n) := fun n hn hb ha => trim_is (by rw [← Lib.size_eq]; exact hn) (fun i h hi => hb i (by rw [Lib.size_eq]; exact h) hi) (fun h0 h => ha h0 (by rw [Lib.size_eq]; exact h))
  have HCY : Hid (∀ n, n ≤ s.size → trimL s.data.toList = s.data.toList.take n → (∀ i, (h : i < s.size) → i < n → s[i] ≠ 0) → (⟨(cutL s.data.toList).toArray⟩ : ByteArray) = s.extract 0 n ∧ cutB s.data.toList = true) := fun n hn ht hz => by
    have hc : (s.data.toList.take n).contains 0 = false := by
      rw [Bool.eq_false_iff]
      intro h
      rw [List.contains_iff_mem] at h
      obtain ⟨i, hi, e⟩ := List.getElem_of_mem h
      rw [List.length_take, ← Lib.size_eq] at hi
      rw [List.getElem_take] at e
      exact hz i (by omega) (by omega) e
    have hb : cutB s.data.toList = true := by rw [cutB, ht, hc]; rfl
    refine ⟨?_, hb⟩
    apply ba_eq
    rw [cutL, if_pos hb, ht, ByteArray.data_extract]
    simp
  have HCN : Hid (∀ n i, trimL s.data.toList = s.data.toList.take n → (h : i < s.size) → i < n → s[i] = 0 → (⟨(cutL s.data.toList).toArray⟩ : ByteArray) = ⟨#[]⟩ ∧ cutB s.data.toList = false) := fun n i ht h hin hz => by
    have hc : (s.data.toList.take n).contains 0 = true := by
      rw [List.contains_iff_mem]
      have h2 : i < (s.data.toList.take n).length := by rw [List.length_take, ← Lib.size_eq]; omega
      have e : (s.data.toList.take n)[i] = 0 := by rw [List.getElem_take]; exact hz
      rw [← e]
      exact List.getElem_mem h2
    have hb : cutB s.data.toList = false := by rw [cutB, ht, hc]; rfl
    exact ⟨by rw [cutL, hb]; rfl, hb⟩
  generalize (⟨(cutL s.data.toList).toArray⟩ : ByteArray) = CS at *
  generalize cutB s.data.toList = CB at *
  go_enter Tryd.func35, Tryd.ntmps35
  go_wp2_with fail
  go_loopw [4] (fun c wr => ∃ n : Nat, c = .int .i64 n ∧ n ≤ s.size ∧ Hid (∀ i, (h : i < s.size) → n ≤ i → s[i] = 0) ∧ w = wr) (fun c _ => (intOf c).toNat)
  case atStart => exact ⟨s.size, rfl, Nat.le_refl _, fun i h h2 => absurd h (by omega), rfl⟩
  case round =>
    obtain ⟨n, rfl, hn, HI, rfl⟩ := hrel
    have HEND : Hid ((0 < n → ∀ (h : n - 1 < s.size), s[n - 1] ≠ 0) → trimL s.data.toList = s.data.toList.take n) := fun h => HTR.out n hn HI.out h
    by_cases h0 : 0 < n
    · obtain ⟨m, hm⟩ : ∃ m, n = m + 1 := ⟨n - 1, by omega⟩
      subst hm
      have hms : m < s.size := by omega
      by_cases hz : s[m] = 0
      · have hzz : ((s[m].toNat : Int) == 0) = true := by rw [hz]; rfl
        have HI2 : Hid (∀ i, (h : i < s.size) → m ≤ i → s[i] = 0) := fun i h h2 => by
          by_cases e : i = m
          · subst e; exact hz
          · exact HI.out i h (by omega)
        clear HI HEND hz
        go_wp2_with fail
        exact ⟨⟨m, by go_num, by omega, HI2, trivial⟩, by simp [intOf]⟩
      · have hzz : ((s[m].toNat : Int) == 0) = false := by
          rw [beq_eq_false_iff_ne]
          intro e
          exact hz (UInt8.toNat_inj.1 (by show s[m].toNat = 0; omega))
        have HT := lfhid (HEND.out (fun _ _ => hz))
        clear HI HEND hz
        go_wp2_with fail
        go_loopw [5] (fun c wr => ∃ i : Nat, c = .int .i64 i ∧ i ≤ m + 1 ∧ Hid (∀ j, (h : j < s.size) → j < i → s[j] ≠ 0) ∧ w = wr) (fun c _ => m + 1 - (intOf c).toNat)
        case atStart => exact ⟨0, rfl, Nat.zero_le _, fun j _ h => absurd h (Nat.not_lt_zero _), rfl⟩
        case round =>
          obtain ⟨i, rfl, hi, HJ, rfl⟩ := hrel
          by_cases hlt : i < m + 1
          · have his : i < s.size := by omega
            by_cases hz : s[i] = 0
            · have hzz : ((s[i].toNat : Int) == 0) = true := by rw [hz]; rfl
              have HR := lfhid (HCN.out _ i HT.out his hlt hz)
              clear HJ hz HCN HCY
              go_wp2_with fail
              go_ret2
              exact ⟨lfCut HR.out.1.symm HR.out.2.symm, rfl⟩
            · have hzz : ((s[i].toNat : Int) == 0) = false := by
                rw [beq_eq_false_iff_ne]
                intro e
                exact hz (UInt8.toNat_inj.1 (by show s[i].toNat = 0; omega))
              have HJ2 : Hid (∀ j, (h : j < s.size) → j < i + 1 → s[j] ≠ 0) := fun j h h2 => by
                by_cases e : j = i
                · subst e; exact hz
                · exact HJ.out j h (by omega)
              clear HJ hz HCN HCY
              go_wp2_with fail
              exact ⟨⟨i + 1, by go_num, by omega, HJ2, trivial⟩, by simp [intOf]; omega⟩
          · have HR := lfhid (HCY.out _ (by omega) HT.out (fun j h h2 => HJ.out j h (by omega)))
            clear HJ HCN HCY
            go_wp2_with fail
            go_ret2
            exact ⟨lfCut HR.out.1.symm HR.out.2.symm, rfl⟩
    · have hn0 : n = 0 := by omega
      subst hn0
      have HT := lfhid (HEND.out (fun h => absurd h (Nat.lt_irrefl 0)))
      clear HI HEND h0
      have HR := lfhid (HCY.out _ (by omega) HT.out (fun j _ h2 => absurd h2 (Nat.not_lt_zero _)))
      have e0 : s.extract 0 0 = ByteArray.empty := by apply ba_eq; simp
      rw [e0] at HR
      clear HCN HCY e0
      go_wp2_with fail
      go_loopw [5] (fun c wr => c = .int .i64 0 ∧ w = wr) (fun _ _ => 0)
      case atStart => exact ⟨rfl, rfl⟩
      case round =>
        obtain ⟨rfl, rfl⟩ := hrel
        go_wp2_with fail
        go_ret2
        exact ⟨lfCut HR.out.1.symm HR.out.2.symm, rfl⟩
end Go.Proofs.YtpgbnfolekanmaaDoor
