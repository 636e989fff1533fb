/- The document's own small functions of layer 11 walked: empty, Free, Find, Same; chapter 3's Pad and Cut. -/
import Derived.Test.YtpgbnfolekanmaaDoorLeafPad
import Derived.Test.YtpgbnfolekanmaaDoorLeafRow
import Derived.Test.YtpgbnfolekanmaaDoorNameRefCheck
namespace Go.Proofs.YtpgbnfolekanmaaDoor
open Go.RowKit Lf

set_option maxHeartbeats 1000000 in
theorem rempty_t (p : Nm) (w : World) : Calls Tryd.prog 29 #[nmV p] w fun r w' => r = .returned (.bool (emB p)) ∧ Below w.heap.size w w' := by
  obtain ⟨n, v⟩ := p
  have HE : Hid (emB ⟨n, v⟩ = (n.data.toList.isEmpty && decide (v = 0))) := rfl
  show Calls _ _ #[.agg #[.string n, .int .i64 v]] _ _
  cases hs : n.toList.isEmpty
  · have hs2 : n.data.toList.isEmpty = false := by rw [← Lib.toList_data, hs]
    have HR : Hid (emB ⟨n, v⟩ = false) := by show _ = _; rw [HE.out, hs2]; rfl
    clear HE hs2
    go_enter Tryd.func29, Tryd.ntmps29
    go_wp2_with fail
    go_ret
    exact ⟨lfBool (by rw [HR.out]), (Below.refl _ _).alloc (Nat.le_refl _) _⟩
  · have hs2 : n.data.toList.isEmpty = true := by rw [← Lib.toList_data, hs]
    have HR : Hid (emB ⟨n, v⟩ = (v == 0)) := by
      show _ = _
      rw [HE.out, hs2, Bool.true_and]
      by_cases h : v = 0 <;> simp [h]
    clear HE hs2
    go_enter Tryd.func29, Tryd.ntmps29
    go_wp2_with fail
    go_ret
    exact ⟨lfBool (by rw [HR.out]), (Below.refl _ _).alloc (Nat.le_refl _) _⟩

set_option maxHeartbeats 1000000 in
theorem rfree_t (v : Value) (l : List Nm) (w : World) (hE : Nams w v l) (hl : l.length ≤ 1000) : Calls Tryd.prog 17 #[v] w fun e w' => e = .returned (.int .i64 (freeI l : Nat)) ∧ Below w.heap.size w w' := by
  have HE0 := lfhid hE
  obtain ⟨ad, cap, rfl⟩ := hE.slice
  have CE := lfhid rempty_t
  clear hE
  go_enter Tryd.func17, Tryd.ntmps17
  go_wp2_with fail
  go_loopw [3] (fun c wr => ∃ k : Nat, k ≤ l.length ∧ c = .int .i64 k ∧ Hid (∀ j, (h : j < l.length) → j < k → emB l[j] = false) ∧ Hid (Below w.heap.size w wr)) (fun c _ => l.length - (intOf c).toNat)
  case atStart => exact ⟨0, by omega, rfl, fun j _ h => absurd h (Nat.not_lt_zero _), Below.refl _ _⟩
  case round =>
    obtain ⟨k, hk, rfl, HA, HB⟩ := hrel
    by_cases hlt : k < l.length
    · obtain ⟨b, off, rfl, hb, c0, c1⟩ := (HE0.out.on HB.out).at hlt
      have HY : Hid (∀ B, emB l[k] = B → (∀ j, (h : j < l.length) → j < k → emB l[j] = false) → (B = true → freeI l = k) ∧ (B = false → ∀ j, (h : j < l.length) → j < k + 1 → emB l[j] = false)) := fun B hB hA => ⟨fun h => by
        subst h
        exact findIdx_is hlt hB (fun j hj => hA j (by omega) hj), fun h j hj hjk => by
        subst h
        by_cases e : j = k
        · subst e; exact hB
        · exact hA j hj (by omega)⟩
      generalize l[k] = y at *
      obtain ⟨n, nd⟩ := y
      go_wp2_with fail
      refine (CE.out ⟨n, nd⟩ _).mono ?_
      rintro e w1 ⟨rfl, hb1⟩
      have HB1 : Hid (Below w.heap.size w w1) := HB.out.trans (hb1.mono HB.out.size)
      clear hb1 c0 c1
      cases he : emB ⟨n, nd⟩
      · have HA2 := lfhid ((HY.out _ he HA.out).2 rfl)
        clear HY HA
        go_wp2_with fail
        exact ⟨⟨k + 1, by omega, by go_num, HA2, HB1⟩, by simp [intOf]; omega⟩
      · have HR := lfhid ((HY.out _ he HA.out).1 rfl)
        clear HY HA
        go_wp2_with fail
        go_ret
        exact ⟨lfInt (by rw [HR.out]), HB1.out⟩
    · have HR : Hid (freeI l = l.length) := findIdx_none (fun j hj => HA.out j hj (by omega))
      clear HA
      go_wp2_with fail
      go_ret
      exact ⟨lfInt (by rw [HR.out]), HB.out⟩

set_option maxHeartbeats 1000000 in
theorem rfind_t (v : Value) (l : List Nm) (s : ByteArray) (w : World) (hE : Nams w v l) (hl : l.length ≤ 1000) : Calls Tryd.prog 14 #[v, .string s] w fun e w' => e = .returned (.tuple #[.int .i64 (findI l s : Nat), .bool (findB l s)]) ∧ w = w' := by
  have HE0 := lfhid hE
  obtain ⟨ad, cap, rfl⟩ := hE.slice
  clear hE
  cases hs0 : s.toList.isEmpty
  · have hs : ¬ s.toList = [] := by simpa using hs0
    have H1 := lfhid (fun k (hk : k < l.length) (h : fnd l s = k) => findB_at hs hk h)
    have H2 := lfhid (fun (h : fnd l s = l.length) => findB_none h)
    generalize findB l s = FB at *
    generalize findI l s = FI at *
    go_enter Tryd.func14, Tryd.ntmps14
    go_wp2_with fail
    go_loopw [6] (fun c wr => ∃ k : Nat, k ≤ l.length ∧ c = .int .i64 k ∧ Hid (∀ j, (h : j < l.length) → j < k → isB s l[j] = false) ∧ w = wr) (fun c _ => l.length - (intOf c).toNat)
    case atStart => exact ⟨0, by omega, rfl, fun j _ h => absurd h (Nat.not_lt_zero _), rfl⟩
    case round =>
      obtain ⟨k, hk, rfl, HA, rfl⟩ := hrel
      by_cases hlt : k < l.length
      · obtain ⟨b, off, rfl, hb, c0, c1⟩ := HE0.out.at hlt
        have HY : Hid (∀ B, isB s l[k] = B → (∀ j, (h : j < l.length) → j < k → isB s l[j] = false) → (B = true → fnd l s = k) ∧ (B = false → ∀ j, (h : j < l.length) → j < k + 1 → isB s l[j] = false)) := fun B hB hA => ⟨fun h => by
          subst h
          exact findIdx_is hlt hB (fun j hj => hA j (by omega) hj), fun h j hj hjk => by
          subst h
          by_cases e : j = k
          · subst e; exact hB
          · exact hA j hj (by omega)⟩
        have heq := isB_toList s l[k]
        generalize l[k] = y at *
        obtain ⟨n, nd⟩ := y
        have heq2 : isB s ⟨n, nd⟩ = (n.toList == s.toList) := heq
        clear heq
        cases he : (n.toList == s.toList)
        · rw [he] at heq2
          have HA2 := lfhid ((HY.out _ heq2 HA.out).2 rfl)
          clear HY HA heq2
          go_wp2_with fail
          exact ⟨⟨k + 1, by omega, by go_num, HA2, trivial⟩, by simp [intOf]; omega⟩
        · rw [he] at heq2
          have HR := lfhid (H1.out k hlt ((HY.out _ heq2 HA.out).1 rfl))
          clear HY HA heq2
          go_wp2_with fail
          go_ret2
          exact ⟨lfFind (by rw [HR.out.2]) (by rw [HR.out.1]), rfl⟩
      · have HR := lfhid (H2.out (findIdx_none (fun j hj => HA.out j hj (by omega))))
        clear HA H1 H2
        go_wp2_with fail
        go_ret2
        exact ⟨lfFind (by rw [HR.out.2]; rfl) (by rw [HR.out.1]), rfl⟩
  · have hs : s.toList = [] := by simpa using hs0
    have HR := lfhid (findB_empty (l := l) hs)
    clear hs
    go_enter Tryd.func14, Tryd.ntmps14
    go_wp2_with fail
    go_loopw [6] (fun c wr => c = .int .i64 0 ∧ w = wr) (fun _ _ => 0)
    case atStart => exact ⟨rfl, rfl⟩
    case round =>
      obtain ⟨rfl, rfl⟩ := hrel
      by_cases h0 : 0 < l.length
      · go_wp2_with fail
        go_ret2
        exact ⟨lfFind (by rw [HR.out.2]; rfl) (by rw [HR.out.1]), rfl⟩
      · go_wp2_with fail
        go_ret2
        exact ⟨lfFind (by rw [HR.out.2]; rfl) (by rw [HR.out.1]), rfl⟩

set_option maxRecDepth 10000 in
set_option maxHeartbeats 4000000 in
/-- Same: places are the same as themselves, wherever they lie. -/
theorem same_t (v v' : Value) (l : List Nm) (w : World) (hE : Nams w v l) (hE' : Nams w v' l) (hl : l.length ≤ 1000) :
    Calls Tryd.prog 15 #[v, v'] w fun e w' => e = .returned (.bool true) ∧ Below w.heap.size w w' := by
  have HE := lfhid hE
  have HE' := lfhid hE'
  obtain ⟨ad, cap, rfl⟩ := hE.slice
  obtain ⟨ad', cap', rfl⟩ := hE'.slice
  clear hE hE'
  go_enter Tryd.func15, Tryd.ntmps15
  go_wp2_with fail
  go_loopw [5] (fun c wr => ∃ k n : Nat, k ≤ l.length ∧ c = .int .i64 k ∧ wr = w.drewN n) (fun c _ => l.length - (intOf c).toNat)
  case atStart => exact ⟨0, 0, by omega, rfl, rfl⟩
  case round =>
    obtain ⟨k, n, hk, rfl, rfl⟩ := hrel
    by_cases hlt : k < l.length
    · obtain ⟨b, off, rfl, hb, c0, c1⟩ := HE.out.at hlt
      obtain ⟨b', off', rfl, hb', d0, d1⟩ := HE'.out.at hlt
      clear HE HE'
      generalize l[k] = y at *
      obtain ⟨nm, nd⟩ := y
      have k0 : (0 : Int) ≤ (k : Int) := by omega
      have k1 : (k : Int) < (l.length : Int) := by omega
      go_wp2_with fail
      go_quiet (fail)
      go_wp2_with fail
      exact ⟨⟨k + 1, _, by omega, by go_num, rfl⟩, by simp [intOf]; omega⟩
    · go_wp2_with fail
      go_ret
      exact ⟨rfl, ⟨rfl, rfl, rfl, Nat.le_refl _, fun _ _ => rfl⟩⟩
end Go.Proofs.YtpgbnfolekanmaaDoor
