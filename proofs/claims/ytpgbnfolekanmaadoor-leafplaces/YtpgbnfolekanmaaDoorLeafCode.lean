/- Directories' small functions walked: empty, Free, Find, mayBeBlock; how places lie in memory. -/
import Derived.Test.YtpgbnfolekanmaaDoorLeafPlain
import Derived.Test.YtpgbnfolekanmaaDoorNameCheck
import Derived.WalkSpells
import Derived.WalkLawsBesides
import Derived.Below
import Derived.Deep.QuietTactic
import Derived.BigQuiet
namespace Go.Proofs.YtpgbnfolekanmaaDoor
open Go.RowKit Lf

theorem lfhid {P : Prop} (h : P) : Hid P := h
theorem lfBool {a b : Bool} (h : a = b) : Ending.returned (.bool a) = .returned (.bool b) := by rw [h]
theorem lfInt {a b : Int} (h : a = b) : Ending.returned (.int .i64 a) = .returned (.int .i64 b) := by rw [h]
theorem lfFind {a b : Int} {c d : Bool} (h : a = b) (k : c = d) : Ending.returned (.tuple #[.int .i64 a, .bool c]) = .returned (.tuple #[.int .i64 b, .bool d]) := by rw [h, k]

/-- A place as a value. -/
abbrev nmV (p : Nm) : Value := .agg #[.string p.name, .int .i64 p.node]

/-- Places that lie as a slice. -/
def Nams (w : World) (v : Value) (l : List Nm) : Prop :=
  ∃ ad cap, v = .slice ad l.length cap ∧ (ad = none → cap = 0) ∧ l.length ≤ cap ∧ (0 < l.length → ∃ b off, ad = some ⟨b, off, none⟩ ∧ b < w.heap.size ∧ ∀ i (h : i < l.length), w.cell? ⟨b, off + i * 2, none⟩ = some (.string l[i].name) ∧ w.cell? ⟨b, off + i * 2 + 1, none⟩ = some (.int .i64 l[i].node))

theorem Nams.nil (w : World) : Nams w (.slice none 0 0) [] := ⟨none, 0, rfl, fun _ => rfl, Nat.le_refl _, fun h => absurd h (by simp)⟩
theorem Nams.on {w w' : World} {v : Value} {l : List Nm} (h : Nams w v l) (k : Below w.heap.size w w') : Nams w' v l := by
  obtain ⟨ad, cap, hv, hn, hcap, hc⟩ := h
  refine ⟨ad, cap, hv, hn, hcap, fun hl => ?_⟩
  obtain ⟨b, off, ha, hb, hi⟩ := hc hl
  refine ⟨b, off, ha, Nat.lt_of_lt_of_le hb k.size, fun i h => ?_⟩
  obtain ⟨h0, h1⟩ := hi i h
  exact ⟨by rw [k.cell hb]; exact h0, by rw [k.cell hb]; exact h1⟩
theorem Nams.slice {w : World} {v : Value} {l : List Nm} (h : Nams w v l) : ∃ ad cap, v = .slice ad l.length cap := by
  obtain ⟨ad, cap, hv, _⟩ := h
  exact ⟨ad, cap, hv⟩
/-- A place's cells. -/
theorem Nams.at {w : World} {ad : Option Addr} {n cap : Nat} {l : List Nm} (h : Nams w (.slice ad n cap) l) {k : Nat} (hk : k < l.length) : ∃ b off, ad = some ⟨b, off, none⟩ ∧ b < w.heap.size ∧ w.cell? ⟨b, off + k * 2, none⟩ = some (.string l[k].name) ∧ w.cell? ⟨b, off + k * 2 + 1, none⟩ = some (.int .i64 l[k].node) := by
  obtain ⟨ad', cap', hv, _, _, hc⟩ := h
  cases hv
  obtain ⟨b, off, ha, hb, hi⟩ := hc (by omega)
  exact ⟨b, off, ha, hb, (hi k hk).1, (hi k hk).2⟩

theorem toList_empty (s : ByteArray) : s.toList.isEmpty = s.data.toList.isEmpty := by rw [Lib.toList_data]

set_option maxHeartbeats 1000000 in
theorem empty_t (p : Nm) (w : World) : Calls Tryd.prog 36 #[nmV p] w fun r w' => r = .returned (.bool (emB p)) ∧ Below w.heap.size w w' := by
  obtain ⟨n, v⟩ := p
  have HE : Hid (emB ⟨n, v⟩ = (n.data.toList.isEmpty && decide (v = 0))) := rfl
  show Calls _ _ #[.agg #[.string n, .int .i64 v]] _ _
  go_enter Tryd.func36, Tryd.ntmps36
  go_wp2_with fail
  all_goals
    go_ret
    refine ⟨lfBool ?_, (Below.refl _ _).alloc (Nat.le_refl _) _⟩
    rw [HE.out, ← Lib.toList_data]
    simp [*]

set_option maxHeartbeats 1000000 in
theorem free_t (v : Value) (l : List Nm) (w : World) (hE : Nams w v l) (hl : l.length ≤ 1000) : Calls Tryd.prog 16 #[v] w fun e w' => e = .returned (.int .i64 (freeI l : Nat)) ∧ Below w.heap.size w w' := by
  have HE0 := lfhid hE
  obtain ⟨ad, cap, rfl⟩ := hE.slice
  have CE := lfhid empty_t
  clear hE
  go_enter Tryd.func16, Tryd.ntmps16
  go_wp2_with fail
  go_loopw [7] (fun c wr => ∃ k : Nat, k ≤ l.length ∧ c = .int .i64 k ∧ Hid (∀ j, (h : j < l.length) → j < k → emB l[j] = false) ∧ Hid (Below w.heap.size w wr)) (fun c _ => l.length - (intOf c).toNat)
  case atStart => exact ⟨0, by omega, rfl, fun j _ h => absurd h (Nat.not_lt_zero _), Below.refl _ _⟩
  case round =>
    obtain ⟨k, hk, rfl, HA, HB⟩ := hrel
    by_cases hlt : k < l.length
    · obtain ⟨b, off, rfl, hb, c0, c1⟩ := (HE0.out.on HB.out).at hlt
      have HY : Hid (∀ B, emB l[k] = B → (∀ j, (h : j < l.length) → j < k → emB l[j] = false) → (B = true → freeI l = k) ∧ (B = false → ∀ j, (h : j < l.length) → j < k + 1 → emB l[j] = false)) := fun B hB hA => ⟨fun h => by
        subst h
        exact findIdx_is hlt hB (fun j hj => hA j (by omega) hj), fun h j hj hjk => by
        subst h
        by_cases e : j = k
        · subst e; exact hB
        · exact hA j hj (by omega)⟩
      have hbs := HB.out.size
      generalize l[k] = y at *
      obtain ⟨n, nd⟩ := y
      go_wp2_with fail
      refine (CE.out ⟨n, nd⟩ _).mono ?_
      rintro e w1 ⟨rfl, hb1⟩
      have HB1 : Hid (Below w.heap.size w w1) := (HB.out.alloc hbs _).trans (hb1.mono (by simp; omega))
      clear hb1 c0 c1
      cases he : emB ⟨n, nd⟩
      · have HA2 := lfhid ((HY.out _ he HA.out).2 rfl)
        clear HY HA
        go_wp2_with fail
        exact ⟨⟨k + 1, by omega, by go_num, HA2, HB1⟩, by simp [intOf]; omega⟩
      · have HR := lfhid ((HY.out _ he HA.out).1 rfl)
        clear HY HA
        go_wp2_with fail
        go_ret
        exact ⟨lfInt (by rw [HR.out]), HB1.out⟩
    · have HR : Hid (freeI l = l.length) := findIdx_none (fun j hj => HA.out j hj (by omega))
      clear HA
      go_wp2_with fail
      go_ret
      exact ⟨lfInt (by rw [HR.out]), HB.out⟩

theorem findB_empty {l : List Nm} {s : ByteArray} (h : s.toList = []) : findB l s = false ∧ findI l s = 0 := by
  have e : findB l s = false := by rw [findB, ← Lib.toList_data, h]; rfl
  exact ⟨e, by rw [findI, e]; rfl⟩
theorem findB_at {l : List Nm} {s : ByteArray} (h : ¬ s.toList = []) {k : Nat} (hk : k < l.length) (hf : fnd l s = k) : findB l s = true ∧ findI l s = k := by
  have e : findB l s = true := by
    rw [findB, ← Lib.toList_data, hf, decide_eq_true hk, Bool.and_true]
    simpa using h
  exact ⟨e, by rw [findI, e]; exact hf⟩
theorem findB_none {l : List Nm} {s : ByteArray} (hf : fnd l s = l.length) : findB l s = false ∧ findI l s = 0 := by
  have e : findB l s = false := by
    rw [findB, hf, decide_eq_false (Nat.lt_irrefl _), Bool.and_false]
  exact ⟨e, by rw [findI, e]; rfl⟩
theorem isB_toList (s : ByteArray) (p : Nm) : isB s p = (p.name.toList == s.toList) := by rw [isB, Lib.toList_data, Lib.toList_data]

set_option maxHeartbeats 1000000 in
theorem find_t (v : Value) (l : List Nm) (s : ByteArray) (w : World) (hE : Nams w v l) (hl : l.length ≤ 1000) : Calls Tryd.prog 13 #[v, .string s] w fun e w' => e = .returned (.tuple #[.int .i64 (findI l s : Nat), .bool (findB l s)]) ∧ Below w.heap.size w w' := by
  have HE0 := lfhid hE
  obtain ⟨ad, cap, rfl⟩ := hE.slice
  clear hE
  cases hs0 : s.toList.isEmpty
  · have hs : ¬ s.toList = [] := by simpa using hs0
    have H1 := lfhid (fun k (hk : k < l.length) (h : fnd l s = k) => findB_at hs hk h)
    have H2 := lfhid (fun (h : fnd l s = l.length) => findB_none h)
    have HF : Hid (∀ k, fnd l s = k → fnd l s = k) := fun _ h => h
    generalize findB l s = FB at *
    generalize findI l s = FI at *
    go_enter Tryd.func13, Tryd.ntmps13
    go_wp2_with fail
    go_loopw [12] (fun c wr => ∃ k : Nat, k ≤ l.length ∧ c = .int .i64 k ∧ Hid (∀ j, (h : j < l.length) → j < k → isB s l[j] = false) ∧ Hid (Below w.heap.size w wr)) (fun c _ => l.length - (intOf c).toNat)
    case atStart => exact ⟨0, by omega, rfl, fun j _ h => absurd h (Nat.not_lt_zero _), Below.refl _ _⟩
    case round =>
      obtain ⟨k, hk, rfl, HA, HB⟩ := hrel
      by_cases hlt : k < l.length
      · obtain ⟨b, off, rfl, hb, c0, c1⟩ := (HE0.out.on HB.out).at hlt
        have HY : Hid (∀ B, isB s l[k] = B → (∀ j, (h : j < l.length) → j < k → isB s l[j] = false) → (B = true → fnd l s = k) ∧ (B = false → ∀ j, (h : j < l.length) → j < k + 1 → isB s l[j] = false)) := fun B hB hA => ⟨fun h => by
          subst h
          exact findIdx_is hlt hB (fun j hj => hA j (by omega) hj), fun h j hj hjk => by
          subst h
          by_cases e : j = k
          · subst e; exact hB
          · exact hA j hj (by omega)⟩
        have hbs := HB.out.size
        have heq := isB_toList s l[k]
        generalize l[k] = y at *
        obtain ⟨n, nd⟩ := y
        have heq2 : isB s ⟨n, nd⟩ = (n.toList == s.toList) := heq
        clear heq
        cases he : (n.toList == s.toList)
        · rw [he] at heq2
          have HA2 := lfhid ((HY.out _ heq2 HA.out).2 rfl)
          have HB1 : Hid (Below w.heap.size w (wr.alloc (.cells #[.string n, .int .i64 nd] 41))) := HB.out.alloc hbs _
          clear HY HA heq2
          go_wp2_with fail
          exact ⟨⟨k + 1, by omega, by go_num, HA2, HB1⟩, by simp [intOf]; omega⟩
        · rw [he] at heq2
          have HR := lfhid (H1.out k hlt ((HY.out _ heq2 HA.out).1 rfl))
          have HB1 : Hid (Below w.heap.size w (wr.alloc (.cells #[.string n, .int .i64 nd] 41))) := HB.out.alloc hbs _
          clear HY HA heq2
          go_wp2_with fail
          go_ret2
          exact ⟨lfFind (by rw [HR.out.2]) (by rw [HR.out.1]), HB1.out⟩
      · have HR := lfhid (H2.out (findIdx_none (fun j hj => HA.out j hj (by omega))))
        clear HA H1 H2
        go_wp2_with fail
        go_ret2
        exact ⟨lfFind (by rw [HR.out.2]; rfl) (by rw [HR.out.1]), HB.out⟩
  · have hs : s.toList = [] := by simpa using hs0
    have HR := lfhid (findB_empty (l := l) hs)
    clear hs
    go_enter Tryd.func13, Tryd.ntmps13
    go_wp2_with fail
    go_ret2
    exact ⟨lfFind (by rw [HR.out.2]; rfl) (by rw [HR.out.1]), Below.refl _ _⟩
end Go.Proofs.YtpgbnfolekanmaaDoor
