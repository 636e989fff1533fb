/- The document's Inds walked. -/
import Derived.Test.YtdkicnpbcljofaaSpanWay
namespace Go.Proofs.Ytdkicnpbcljofaa
open Go.RowKit Span

set_option maxHeartbeats 4000000 in
theorem rinds_t (v : Value) (l : List Int) (w : World) (hI : Ints w v l) (hl : l.length ≤ 4611686018427387904) :
    Calls Try.prog 11 #[v] w fun e w' => e = .returned (.int .i64 (indsL l)) ∧ Below w.heap.size w w' := by
  obtain ⟨ad, cap, rfl, _, _, hc⟩ := hI
  have HC := spanhid hc
  clear hc
  go_enter Try.func11, Try.ntmps11
  go_wp2_with fail
  generalize hW : World.alloc w _ = W
  have HK : Hid (W.heap[w.heap.size]? = some (.cells (seenC []) 36 (0, 0))) := by rw [← hW]; exact heap_alloc_new _ _
  have HB : Hid (Below w.heap.size w W) := by rw [← hW]; exact (Below.refl _ w).alloc (Nat.le_refl _) _
  clear hW
  go_loopw [4, 5] (fun d c wr => ∃ (i : Nat) (y : Bool), i ≤ l.length ∧ c = .int .i64 i ∧ d = .bool y ∧ Hid (y = inR 76 588 (l.take i)) ∧ Hid (wr.heap[w.heap.size]? = some (.cells (seenC (l.take i)) 36 (0, 0))) ∧ Hid (Below w.heap.size w wr)) (fun _ c _ => l.length - (intOf c).toNat)
  case atStart => exact ⟨0, false, by omega, rfl, rfl, rfl, HK, HB⟩
  case round =>
    obtain ⟨i, y, hi, rfl, rfl, HY, HK, HB⟩ := hrel
    by_cases hlt : i < l.length
    · obtain ⟨b, off, rfl, hb, hcell⟩ := HC.out (by omega)
      have c0 : wr.cell? ⟨b, off + i, none⟩ = some (.int .i64 l[i]) := by rw [HB.out.cell hb]; exact hcell i hlt
      have HT : Hid (l.take (i + 1) = l.take i ++ [l[i]]) := List.take_succ_eq_append_getElem hlt
      clear hcell HC
      have WAY := spanhid (rway_t l[i] wr)
      generalize l[i] = q at *
      generalize l.take i = p at *
      by_cases h1 : 12 ≤ q ∧ q < 76
      · rw [wayV_single h1.1 h1.2] at WAY
        have HY2 : Hid (y = inR 76 588 (p ++ [q])) := by show _ = _; rw [inR_out (by omega), HY.out]
        have HS : Hid ((seenC p).setIfInBounds 8 (.bool true) = seenC (p ++ [q])) := seenC_set8 h1.1 h1.2
        have k0 : wr.cell? ⟨w.heap.size, 8, none⟩ = some (.bool (seenB p 8)) := by rw [cell_of_row wr _ _ _ _ _ HK.out]; exact seenC_get _ 8 (by decide)
        have f0 := frozen_of_row wr w.heap.size 8 _ _ HK.out
        clear HY h1
        go_wp2_with fail
        refine WAY.out.mono ?_
        rintro e w1 ⟨rfl, rfl⟩
        go_wp2_with fail
        have HK2 : Hid ((wr.setCell ⟨w.heap.size, 8, none⟩ (.bool true)).heap[w.heap.size]? = some (.cells (seenC (p ++ [q])) 36 (0, 0))) := by show _ = _; rw [← HS.out]; exact heap_setCell_same _ _ _ _ _ _ HK.out
        rw [← HT.out] at HY2 HK2
        exact ⟨⟨i + 1, y, by omega, by go_num, rfl, HY2, HK2, HB.out.setCell (Nat.le_refl _) _⟩, by simp [intOf]; omega⟩
      · by_cases h2 : 76 ≤ q ∧ q < 588
        · rw [wayV_double h2.1 h2.2] at WAY
          obtain ⟨c, hc⟩ : ∃ c : Nat, (q - 76) / 64 = (c : Int) := ⟨((q - 76) / 64).toNat, by omega⟩
          have hc8 : c < 8 := by omega
          have HY2 : Hid (true = inR 76 588 (p ++ [q])) := by show _ = _; rw [inR_in h2]
          have HS : Hid ((seenC p).setIfInBounds c (.bool true) = seenC (p ++ [q])) := seenC_set (by omega) (by omega) hc8
          have k0 : wr.cell? ⟨w.heap.size, c, none⟩ = some (.bool (seenB p c)) := by rw [cell_of_row wr _ _ _ _ _ HK.out]; exact seenC_get _ c (by omega)
          have f0 := frozen_of_row wr w.heap.size c _ _ HK.out
          rw [hc] at WAY
          clear HY h1 h2 hc
          generalize (q - 76) % 64 = a at *
          go_wp2_with fail
          refine WAY.out.mono ?_
          rintro e w1 ⟨rfl, rfl⟩
          go_wp2_with fail
          have HK2 : Hid ((wr.setCell ⟨w.heap.size, c, none⟩ (.bool true)).heap[w.heap.size]? = some (.cells (seenC (p ++ [q])) 36 (0, 0))) := by show _ = _; rw [← HS.out]; exact heap_setCell_same _ _ _ _ _ _ HK.out
          rw [← HT.out] at HY2 HK2
          exact ⟨⟨i + 1, true, by omega, by go_num, rfl, HY2, HK2, HB.out.setCell (Nat.le_refl _) _⟩, by simp [intOf]; omega⟩
        · have HY2 : Hid (y = inR 76 588 (p ++ [q])) := by show _ = _; rw [inR_out h2, HY.out]
          have HK2 : Hid (wr.heap[w.heap.size]? = some (.cells (seenC (p ++ [q])) 36 (0, 0))) := by show _ = _; rw [seenC_out (l := p) (x := q) (by omega)]; exact HK.out
          rw [← HT.out] at HY2 HK2
          clear HY HK
          by_cases h3 : q < 0 ∨ 588 ≤ q
          · rw [wayV_none h3] at WAY
            clear h1 h2 h3
            go_wp2_with fail
            refine WAY.out.mono ?_
            rintro e w1 ⟨rfl, rfl⟩
            go_wp2_with fail
            exact ⟨⟨i + 1, y, by omega, by go_num, rfl, HY2, HK2, HB⟩, by simp [intOf]; omega⟩
          · rw [wayV_straight (by omega) (by omega)] at WAY
            clear h1 h2 h3
            go_wp2_with fail
            refine WAY.out.mono ?_
            rintro e w1 ⟨rfl, rfl⟩
            go_wp2_with fail
            exact ⟨⟨i + 1, y, by omega, by go_num, rfl, HY2, HK2, HB⟩, by simp [intOf]; omega⟩
    · have hil : i = l.length := by omega
      rw [hil, List.take_length] at HY HK
      have HG : Hid (∀ c : Nat, c < 9 → (seenC l)[c]? = some (.bool (seenB l c))) := fun c hc => seenC_get l c hc
      have HKS : Hid (∀ c : Nat, 0 ≤ seenN l c ∧ seenN l c ≤ c) := seen_bound l
      have HSU : Hid (∀ c : Nat, seenN l (c + 1) = seenN l c + n01 (seenB l c)) := fun _ => rfl
      have HE : Hid (indsL l = seenN l 9 + n01 y) := by show _ = _; unfold indsL; rw [HY.out, seen_9]; omega
      have HK0 : Hid (seenN l 0 = 0) := rfl
      clear HY HC
      generalize seenC l = row at *
      go_wp2_with fail
      go_loopw [10, 11] (fun s c wq => ∃ (k : Nat) (z : Int), k ≤ 9 ∧ c = .int .i64 k ∧ s = .int .i64 z ∧ 0 ≤ z ∧ z ≤ k ∧ Hid (z = seenN l k) ∧ wq = wr) (fun _ c _ => 9 - (intOf c).toNat)
      case atStart => exact ⟨0, 0, by omega, rfl, rfl, by omega, by omega, by show _ = _; rw [HK0.out], rfl⟩
      case round =>
        obtain ⟨k, z, hk, rfl, rfl, hz0, hz1, HZ, rfl⟩ := hrel
        by_cases hk8 : k < 9
        · have k0 : wr.cell? ⟨w.heap.size, k, none⟩ = some (.bool (seenB l k)) := by rw [cell_of_row wr _ _ _ _ _ HK.out]; exact HG.out k hk8
          have HZ2 : Hid (z + n01 (seenB l k) = seenN l (k + 1)) := by show _ = _; rw [HSU.out, HZ.out]
          clear HZ HG
          generalize seenB l k = u at *
          cases u
          · rw [n01_f, Int.add_zero] at HZ2
            go_wp2_with fail
            exact ⟨⟨k + 1, z, by omega, by go_num, rfl, by omega, by omega, HZ2, trivial⟩, by simp [intOf]; omega⟩
          · rw [n01_t] at HZ2
            go_wp2_with fail
            exact ⟨⟨k + 1, z + 1, by omega, by go_num, rfl, by omega, by omega, HZ2, trivial⟩, by simp [intOf]; omega⟩
        · have hk2 : k = 9 := by omega
          subst hk2
          cases y
          · rw [n01_f, Int.add_zero] at HE
            go_wp2_with fail
            go_ret
            exact ⟨spanInt (by rw [HE.out, HZ.out]), HB.out⟩
          · rw [n01_t] at HE
            go_wp2_with fail
            go_ret
            exact ⟨spanInt (by rw [HE.out, HZ.out]), HB.out⟩
end Go.Proofs.Ytdkicnpbcljofaa
