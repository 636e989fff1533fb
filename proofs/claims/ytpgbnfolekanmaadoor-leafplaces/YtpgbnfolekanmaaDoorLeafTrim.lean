/- Places without the empty ones at their end: Trim walked. -/
import Derived.Test.YtpgbnfolekanmaaDoorLeafCopy
import Derived.Lib.MinMax
import Derived.WalkMore
namespace Go.Proofs.YtpgbnfolekanmaaDoor
open Go.RowKit Lf

theorem lfSl {a b : Option Addr} {n m c d : Nat} (h : a = b) (k : n = m) (i : c = d) : Ending.returned (.slice a n c) = .returned (.slice b m d) := by rw [h, k, i]

set_option maxRecDepth 10000 in
set_option maxHeartbeats 4000000 in
theorem trim_t (v : Value) (l : List Nm) (n : Nat) (w : World) (hE : Nams w v l) (hl : l.length ≤ 1000) (hL : Lst l n) :
    Calls Tryd.prog 18 #[v] w fun e w' => ∃ ad cap, e = .returned (.slice ad (trimTo l n).length cap) ∧ Nams w' (.slice ad (trimTo l n).length cap) (trimTo l n) ∧ Below w.heap.size w w' := by
  have HE0 := lfhid hE
  have hnl := hL.le
  have HBE : Hid (∀ i, (h : i < l.length) → n ≤ i → emB l[i] = true) := hL.behind
  have HAH : Hid (0 < n → ∀ (h : n - 1 < l.length), emB l[n - 1] = false) := hL.ahead
  have HPT : Hid (∀ e, e = (n + 7) / 8 * 8 → padTo l e = trimTo l n) := fun e he => padTo_trim hL he
  have HPL := lfhid (padTo_length l)
  have CE := lfhid empty_t
  have hcap0 : ∃ ad cap, v = .slice ad l.length cap ∧ l.length ≤ cap := by
    obtain ⟨ad, cap, hv, _, hcap, _⟩ := hE
    exact ⟨ad, cap, hv, hcap⟩
  obtain ⟨ad, cap, rfl, hcap⟩ := hcap0
  clear hE hL
  obtain ⟨q, hQ⟩ : ∃ q, q = (l.length + 7) / 8 * 8 := ⟨_, rfl⟩
  have HQ : Hid (((l.length : Int) + 8 - 1) / 8 * 8 = (q : Int)) := by show _ = _; omega
  have hq1 : n ≤ q := by omega
  have hq2 : q ≤ l.length + 7 := by omega
  have hq3 : Hid (q % 8 = 0) := by show q % 8 = 0; omega
  have HN0 : Hid (n ≤ l.length) := hnl
  clear hQ hnl
  go_enter Tryd.func18, Tryd.ntmps18
  go_wp2_with fail
  go_step3
  go_wp2_with fail
  go_step3
  go_wp2_with fail
  rw [HQ.out]
  clear HQ
  go_loopw [3] (fun c wr => ∃ e : Nat, c = .int .i64 e ∧ n ≤ e ∧ e ≤ l.length + 7 ∧ Hid (e % 8 = 0) ∧ Hid (Below w.heap.size w wr)) (fun c _ => (intOf c).toNat)
  case atStart => exact ⟨q, rfl, hq1, hq2, hq3, Below.refl _ _⟩
  case round =>
    obtain ⟨e, rfl, hne, hel, H8, HB⟩ := hrel
    clear hq1 hq2 hq3
    have HEND : Hid (e = (n + 7) / 8 * 8 → ∀ g' w', Hid (NRow w' g' (padTo l e)) → Hid (Below w.heap.size w w') → (∃ ad cap, Ending.returned (.slice (some ⟨g', 0, none⟩) e e) = .returned (.slice ad (trimTo l n).length cap) ∧ Nams w' (.slice ad (trimTo l n).length cap) (trimTo l n) ∧ Below w.heap.size w w')) := fun he g' w' hr hb => by
      have hpt := HPT.out e he
      have hpl : (trimTo l n).length = e := by rw [← hpt]; exact HPL.out e
      refine ⟨some ⟨g', 0, none⟩, e, lfSl rfl hpl.symm rfl, ?_, hb⟩
      have := hr.out.nams (cap := e) (by rw [HPL.out]; exact Nat.le_refl _)
      rw [hpl, ← hpt]
      rw [HPL.out] at this
      exact this
    obtain ⟨RZ, hRZ⟩ : ∃ RZ, RZ = (ncells (List.replicate e z)).toArray := ⟨_, rfl⟩
    have hmk : ∀ W : World, (Instr.makeSlice 22 (.int .i64 (e : Int)) (.int .i64 (e : Int))).run Tryd.prog W = .ok (.slice (some ⟨W.heap.size, 0, none⟩) e e) (W.alloc (.cells RZ 41)) := fun W => by rw [hRZ]; exact nmake e (by omega) W
    have HRZ : Hid (∀ W : World, NRow (W.alloc (.cells RZ 41)) W.heap.size (List.replicate e z)) := fun W => by rw [hRZ]; exact nmake_row e W
    clear hRZ
    by_cases he0 : 0 < e
    · obtain ⟨A, hA2⟩ : ∃ A, e = A + 8 := ⟨e - 8, by have := H8.out; omega⟩
      have hA : (e : Int) - 8 = (A : Int) := by omega
      have HA2 : Hid (e = A + 8) := hA2
      obtain ⟨H, hH2⟩ : ∃ H, H = min e l.length := ⟨_, rfl⟩
      have hH : min (e : Int) (l.length : Int) = (H : Int) := by omega
      have hAH : A ≤ H := by omega
      have hHl : H ≤ l.length := by omega
      have hHc : H ≤ cap := by omega
      have hAc : A < cap := by omega
      have hAn : n ≤ A + 8 := by omega
      have HHe : Hid (H = min e l.length) := hH2
      have hA0 : A < l.length := by omega
      obtain ⟨b, off, rfl, hbw, _, _⟩ := HE0.out.at hA0
      obtain ⟨M, hM⟩ : ∃ M, H - A = M := ⟨_, rfl⟩
      have HM : Hid (M = H - A) := hM.symm
      clear hA2 hH2
      have HBW0 := lfhid HB.out.size
      go_wp2_with fail
      go_loopw [26] (fun c wx => ∃ i : Nat, c = .int .i64 i ∧ i ≤ M ∧ Hid (∀ j, (h : j < l.length) → A ≤ j → j < A + i → emB l[j] = true) ∧ Hid (Below w.heap.size w wx)) (fun c _ => M - (intOf c).toNat)
      case atStart => exact ⟨0, rfl, Nat.zero_le _, fun j _ h1 h2 => absurd h2 (by omega), HB⟩
      case round =>
        obtain ⟨i, rfl, hiM, HI, HB⟩ := hrel
        by_cases hlt : i < M
        · have hAi : A + i < l.length := by have := HM.out; omega
          obtain ⟨b', off', hbo, hbw2, c0, c1⟩ := (HE0.out.on HB.out).at hAi
          cases hbo
          have eo : off + (A + i) * 2 = off + A * 2 + i * 2 := by omega
          rw [eo] at c0 c1
          have hbs := HB.out.size
          have HY : Hid (∀ B, emB l[A + i] = B → (B = true → ∀ j, (h : j < l.length) → A ≤ j → j < A + (i + 1) → emB l[j] = true) ∧ (B = false → e = (n + 7) / 8 * 8)) := fun B hB => by
            subst hB
            refine ⟨fun hy j hj h1 h2 => ?_, fun hn => ?_⟩
            · by_cases e1 : j = A + i
              · subst e1; exact hy
              · exact HI.out j hj h1 (by omega)
            · have hni : ¬ n ≤ A + i := fun h => by
                have := HBE.out (A + i) hAi h
                rw [hn] at this
                cases this
              have e1 := HA2.out
              have e2 := H8.out
              omega
          clear eo
          generalize l[A + i] = y at *
          obtain ⟨nm, nd⟩ := y
          go_wp2_with fail
          refine (CE.out ⟨nm, nd⟩ _).mono ?_
          rintro e' w1 ⟨rfl, hb1⟩
          have HB1 : Hid (Below w.heap.size w w1) := (HB.out.alloc hbs _).trans (hb1.mono (by simp; omega))
          clear hb1 c0 c1 HB hbw2 hbs
          cases he : emB ⟨nm, nd⟩
          · have HNE := lfhid ((HY.out _ he).2 rfl)
            have HBX := HB1
            clear HY he HI HB1
            go_wp2_with (first | (refine wpList_copy_nams rfl _ _ rfl w1.heap.size e l _ rfl rfl ?_ ?_ w.heap.size w ?_ ?_ ?_) | fail)
            · exact HE0.out.on (HBX.out.alloc HBX.out.size _)
            · exact HRZ.out w1
            · exact HBX.out.alloc HBX.out.size _
            · exact HBX.out.size
            intro wy ny HRY HBY
            go_wp2_with fail
            rw [Exit.noGoto_ret]
            go_ret
            exact HEND.out HNE.out _ _ HRY HBY
          · have HI2 := lfhid ((HY.out _ he).1 rfl)
            clear HY he HI
            go_wp2_with fail
            exact ⟨⟨i + 1, by go_num, by omega, HI2, HB1⟩, by simp [intOf]; omega⟩
        · have hnA : n ≤ A := by
            have e1 := HM.out
            have e2 := HHe.out
            have e3 := HA2.out
            have e4 := HN0.out
            rcases Nat.lt_or_ge A n with h | h
            · exfalso
              have h1 := HAH.out (by omega) (by omega)
              rw [HI.out (n - 1) (by omega) (by omega) (by omega)] at h1
              cases h1
            · exact h
          have H82 : Hid (A % 8 = 0) := by
            have e1 := HA2.out
            have e2 := H8.out
            show A % 8 = 0
            omega
          have hAe : A < e := by have := HA2.out; omega
          have hAl : A ≤ l.length + 7 := by omega
          clear HI hmk HRZ HEND
          go_wp2_with fail
          exact ⟨⟨A, rfl, hnA, hAl, H82, HB⟩, by simp [intOf]; omega⟩
    · have HNE : Hid (e = (n + 7) / 8 * 8) := by show _ = _; omega
      have he1 : (e : Int) ≤ 0 := by omega
      have HBX := HB
      clear HB he0
      go_wp2_with (first | (refine wpList_copy_nams rfl _ _ rfl wr.heap.size e l _ rfl rfl ?_ ?_ w.heap.size w ?_ ?_ ?_) | fail)
      · exact HE0.out.on (HBX.out.alloc HBX.out.size _)
      · exact HRZ.out wr
      · exact HBX.out.alloc HBX.out.size _
      · exact HBX.out.size
      intro wy ny HRY HBY
      go_wp2_with fail
      rw [Exit.noGoto_ret]
      go_ret
      exact HEND.out HNE.out _ _ HRY HBY
end Go.Proofs.YtpgbnfolekanmaaDoor
