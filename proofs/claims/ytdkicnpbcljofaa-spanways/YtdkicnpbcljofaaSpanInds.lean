/- The program's Inds walked. -/
import Derived.Test.YtdkicnpbcljofaaSpanWay
namespace Go.Proofs.Ytdkicnpbcljofaa
open Go.RowKit Span

theorem kid_index (f : Nat → Int) (c : Nat) (hc : c < 8) (w : World) : (Instr.index 35 (.agg (kidC f)) (.int .i64 c)).run Try.prog w = .ok (.int .i64 (f c)) w := by
  have h : c = 0 ∨ c = 1 ∨ c = 2 ∨ c = 3 ∨ c = 4 ∨ c = 5 ∨ c = 6 ∨ c = 7 := by omega
  rcases h with rfl | rfl | rfl | rfl | rfl | rfl | rfl | rfl <;> (refine ?_; show _ = _; kernel_rfl)
theorem Try.kidSize : (Try.prog.info? 35).map (·.size) = some 8 := by kernel_rfl

set_option maxHeartbeats 4000000 in
theorem inds_t (v : Value) (l : List Int) (w : World) (hI : Ints w v l) (hl : l.length ≤ 4611686018427387904) :
    Calls Try.prog 10 #[v] w fun e w' => e = .returned (.int .i64 (indsL l)) ∧ Below w.heap.size w w' := by
  obtain ⟨ad, cap, rfl, _, _, hc⟩ := hI
  have HC := spanhid hc
  clear hc
  go_enter Try.func10, Try.ntmps10
  go_wp2_with fail
  generalize hW : World.alloc w _ = W
  have HK : Hid (W.heap[w.heap.size]? = some (.cells (kidC (kidF [])) 35 (0, 0))) := by rw [← hW]; exact heap_alloc_new _ _
  have HB : Hid (Below w.heap.size w W) := by rw [← hW]; exact (Below.refl _ w).alloc (Nat.le_refl _) _
  clear hW
  go_loopw [3, 4, 17] (fun s d c wr => ∃ (i : Nat) (x y : Int), i ≤ l.length ∧ c = .int .i64 i ∧ s = .int .i64 x ∧ d = .int .i64 y ∧ Hid (x = n01 (inR 12 76 (l.take i))) ∧ Hid (y = n01 (inR 76 588 (l.take i))) ∧ Hid (wr.heap[w.heap.size]? = some (.cells (kidC (kidF (l.take i))) 35 (0, 0))) ∧ Hid (Below w.heap.size w wr)) (fun _ _ c _ => l.length - (intOf c).toNat)
  case atStart => exact ⟨0, 0, 0, by omega, rfl, rfl, rfl, rfl, rfl, HK, HB⟩
  case round =>
    obtain ⟨i, x, y, hi, rfl, rfl, rfl, HX, HY, HK, HB⟩ := hrel
    by_cases hlt : i < l.length
    · obtain ⟨b, off, rfl, hb, hcell⟩ := HC.out (by omega)
      have c0 : wr.cell? ⟨b, off + i, none⟩ = some (.int .i64 l[i]) := by rw [HB.out.cell hb]; exact hcell i hlt
      have HT : Hid (l.take (i + 1) = l.take i ++ [l[i]]) := List.take_succ_eq_append_getElem hlt
      clear hcell HC
      have WAY := spanhid (way_t l[i] wr)
      generalize l[i] = q at *
      generalize l.take i = p at *
      by_cases h1 : 12 ≤ q ∧ q < 76
      · rw [wayV_single h1.1 h1.2] at WAY
        have HX2 : Hid ((1 : Int) = n01 (inR 12 76 (p ++ [q]))) := by show _ = _; rw [inR_in h1]; rfl
        have HY2 : Hid (y = n01 (inR 76 588 (p ++ [q]))) := by show _ = _; rw [inR_out (by omega), HY.out]
        have HK2 : Hid (wr.heap[w.heap.size]? = some (.cells (kidC (kidF (p ++ [q]))) 35 (0, 0))) := by show _ = _; rw [kidC_eq (kidF_out (l := p) (x := q) (by omega))]; exact HK.out
        clear HX HY HK
        go_wp2_with fail
        refine WAY.out.mono ?_
        rintro e w1 ⟨rfl, rfl⟩
        go_wp2_with fail
        rw [← HT.out] at HX2 HY2 HK2
        exact ⟨⟨i + 1, 1, y, by omega, by go_num, rfl, rfl, HX2, HY2, HK2, HB⟩, by simp [intOf]; omega⟩
      · by_cases h2 : 76 ≤ q ∧ q < 588
        · rw [wayV_double h2.1 h2.2] at WAY
          obtain ⟨c, hc⟩ : ∃ c : Nat, (q - 76) / 64 = (c : Int) := ⟨((q - 76) / 64).toNat, by omega⟩
          have hc8 : c < 8 := by omega
          have HX2 : Hid (x = n01 (inR 12 76 (p ++ [q]))) := by show _ = _; rw [inR_out h1, HX.out]
          have HY2 : Hid ((1 : Int) = n01 (inR 76 588 (p ++ [q]))) := by show _ = _; rw [inR_in h2]; rfl
          have HS : Hid ((kidC (kidF p)).setIfInBounds c (.int .i64 1) = kidC (kidF (p ++ [q]))) := kidC_set (by omega) (by omega) hc8
          have k0 : wr.cell? ⟨w.heap.size, c, none⟩ = some (.int .i64 (kidF p c)) := by rw [cell_of_row wr _ _ _ _ _ HK.out]; exact kidC_get _ c hc8
          have f0 := frozen_of_row wr w.heap.size c _ _ HK.out
          rw [hc] at WAY
          clear HX HY h1 h2 hc
          generalize (q - 76) % 64 = a at *
          go_wp2_with fail
          refine WAY.out.mono ?_
          rintro e w1 ⟨rfl, rfl⟩
          go_wp2_with fail
          have HK2 : Hid ((wr.setCell ⟨w.heap.size, c, none⟩ (.int .i64 1)).heap[w.heap.size]? = some (.cells (kidC (kidF (p ++ [q]))) 35 (0, 0))) := by show _ = _; rw [← HS.out]; exact heap_setCell_same _ _ _ _ _ _ HK.out
          rw [← HT.out] at HX2 HY2 HK2
          exact ⟨⟨i + 1, x, 1, by omega, by go_num, rfl, rfl, HX2, HY2, HK2, HB.out.setCell (Nat.le_refl _) _⟩, by simp [intOf]; omega⟩
        · have HX2 : Hid (x = n01 (inR 12 76 (p ++ [q]))) := by show _ = _; rw [inR_out h1, HX.out]
          have HY2 : Hid (y = n01 (inR 76 588 (p ++ [q]))) := by show _ = _; rw [inR_out h2, HY.out]
          have HK2 : Hid (wr.heap[w.heap.size]? = some (.cells (kidC (kidF (p ++ [q]))) 35 (0, 0))) := by show _ = _; rw [kidC_eq (kidF_out (l := p) (x := q) (by omega))]; exact HK.out
          have WAY2 : Hid (∃ c a b, Calls Try.prog 8 #[.int .i64 q] wr fun e w' => e = .returned (wV 0 c a b) ∧ wr = w') := by
            by_cases h3 : q < 0 ∨ 588 ≤ q
            · rw [wayV_none h3] at WAY
              exact ⟨_, _, _, WAY.out⟩
            · rw [wayV_straight (by omega) (by omega)] at WAY
              exact ⟨_, _, _, WAY.out⟩
          obtain ⟨c, a, b', HW⟩ := WAY2.out
          have HW2 := spanhid HW
          clear HX HY HK WAY WAY2 HW h1 h2
          go_wp2_with fail
          refine HW2.out.mono ?_
          rintro e w1 ⟨rfl, rfl⟩
          go_wp2_with fail
          rw [← HT.out] at HX2 HY2 HK2
          exact ⟨⟨i + 1, x, y, by omega, by go_num, rfl, rfl, HX2, HY2, HK2, HB⟩, by simp [intOf]; omega⟩
    · have hil : i = l.length := by omega
      rw [hil, List.take_length] at HX HY HK
      have hx := n01_bound (inR 12 76 l)
      have hy := n01_bound (inR 76 588 l)
      rw [← HX.out] at hx
      rw [← HY.out] at hy
      have HIX : Hid (∀ (c : Nat) (hc : c < 8) (w1 : World), (Instr.index 35 (.agg (kidC (kidF l))) (.int .i64 c)).run Try.prog w1 = .ok (.int .i64 (kidF l c)) w1) := fun c hc w1 => kid_index (kidF l) c hc w1
      have HSZ : Hid ((Try.prog.info? 35).map (·.size) = some (kidC (kidF l)).size) := Try.kidSize
      have HKS : Hid (∀ c : Nat, 0 ≤ kids l c ∧ kids l c ≤ c) := kids_bound l
      have HSU : Hid (∀ c : Nat, kids l (c + 1) = kids l c + kidF l c) := kids_succ l
      have HE : Hid (indsL l = x + y + kids l 8) := by show _ = _; unfold indsL; rw [HX.out, HY.out]
      have HK0 : Hid (kids l 0 = 0) := rfl
      have HKB : Hid (∀ c : Nat, 0 ≤ kidF l c ∧ kidF l c ≤ 1) := fun c => n01_bound _
      clear HX HY HC
      generalize kidC (kidF l) = row at *
      go_wp2_with (first | (refine wpList_load_row rfl 35 (.tmp 5) rfl w.heap.size rfl 35 row (0, 0) _ HK.out Try.underlying35 rfl HSZ.out ?_) | fail)
      go_loopw [12, 40] (fun s c wq => ∃ (k : Nat) (z : Int), k ≤ 8 ∧ c = .int .i64 k ∧ s = .int .i64 z ∧ 0 ≤ z ∧ z ≤ 2 + k ∧ Hid (z = x + y + kids l k) ∧ wq = wr) (fun _ c _ => 8 - (intOf c).toNat)
      case atStart => exact ⟨0, x + y, by omega, rfl, rfl, by omega, by omega, by show _ = _; rw [HK0.out]; omega, rfl⟩
      case round =>
        obtain ⟨k, z, hk, rfl, rfl, hz0, hz1, HZ, rfl⟩ := hrel
        by_cases hk8 : k < 8
        · have hix := HIX.out k hk8
          have hb := HKB.out k
          have HZ2 : Hid (z + kidF l k = x + y + kids l (k + 1)) := by show _ = _; rw [HSU.out, HZ.out]; omega
          clear HZ HIX
          generalize kidF l k = u at *
          go_wp2_with fail
          exact ⟨⟨k + 1, z + u, by omega, by go_num, rfl, by omega, by omega, HZ2, trivial⟩, by simp [intOf]; omega⟩
        · have hk2 : k = 8 := by omega
          subst hk2
          go_wp2_with fail
          go_ret
          exact ⟨spanInt (by rw [HE.out, HZ.out]), HB.out⟩
end Go.Proofs.Ytdkicnpbcljofaa
