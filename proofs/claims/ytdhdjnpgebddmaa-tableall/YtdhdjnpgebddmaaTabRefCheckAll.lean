/- The document's own Check walked: houses, by threes of loops. -/
import Derived.Test.YtdhdjnpgebddmaaTabRefCheck
namespace Go.Proofs.Ytdhdjnpgebddmaa
open Go.RowKit Tab

set_option maxRecDepth 4000 in
set_option maxHeartbeats 2000000 in
theorem refCheck_t (n : Int) (l : List Ho) (v : Value) (w : World) (hH : Houses w v l) (hs : ∀ x ∈ l, x.segs.length ≤ 1000) :
    Calls Try.prog 18 #[.int .i64 n, v] w fun e w' => e = .returned (.bool (checkB n l)) ∧ Below w.heap.size w w' := by
  obtain ⟨ad, cap, rfl, hc⟩ := hH
  have HC := tabhid hc
  have HS := tabhid hs
  clear hc hs
  by_cases h16 : l.length = 16
  · obtain ⟨b, off, rfl, hb, hcell⟩ := HC.out (by omega)
    have HCE := tabhid hcell
    clear HC hcell
    have CO := tabhid rone_t
    have CH := tabhid has_t
    have YES : Hid (goodTo n l 16 → checkB n l = true) := good_check h16
    have NO1 : Hid (∀ i (hi : i < l.length), houseB n l[i] = false → checkB n l = false) := fun i hi h => check_one hi h
    have NO2 : Hid (∀ i j (hi : i < l.length) (hj : j < l.length), i < j → ∀ x, x ∈ l[i].segs → x ∈ l[j].segs → checkB n l = false) := fun i j hi hj hij x h1 h2 => shared_no hi hj hij h1 h2
    obtain ⟨R, hR⟩ : ∃ R, R = checkB n l := ⟨_, rfl⟩
    rw [← hR] at YES NO1 NO2 ⊢
    clear hR
    have hlI : (l.length : Int) = 16 := by omega
    have H16 := tabhid h16
    rw [h16]
    clear h16 hlI
    go_enter Try.func18, Try.ntmps18
    go_wp2_with fail
    go_loopw [5] (fun c wr => ∃ (i : Nat), i ≤ 16 ∧ c = .int .i64 i ∧ Hid (goodTo n l i) ∧ Hid (Below w.heap.size w wr)) (fun c _ => 16 - (intOf c).toNat)
    case atStart => exact ⟨0, by omega, rfl, fun t ht h => by omega, Below.refl _ _⟩
    case round =>
      obtain ⟨i, hi, rfl, HG, HB⟩ := hrel
      by_cases hlt : i < 16
      · have hil : i < l.length := by rw [H16.out]; exact hlt
        obtain ⟨sv, hh⟩ := HCE.out i hil
        have hh2 := hh.on hb HB.out
        have hblt : b < wr.heap.size := Nat.lt_of_lt_of_le hb HB.out.size
        have hsl := HS.out l[i] (List.getElem_mem hil)
        have HI0 := tabhid hh.2.2.2.2.2.2.2.2.2.2
        have HN1 := tabhid (NO1.out i hil)
        obtain ⟨c0, c1, c2, c3, c4, c5, c6, c7, c8, c9, hI⟩ := hh2
        have HI := tabhid hI
        obtain ⟨sa, sc, rfl, _, _⟩ := hI
        obtain ⟨x, hx⟩ : ∃ x, x = l[i] := ⟨_, rfl⟩
        rw [← hx] at c0 c1 c2 c3 c4 c5 c6 c7 c8 c9 HI HI0 hsl HN1
        have HX := tabhid hx
        clear hx hh
        go_wp2_with fail
        refine (CO.out n x (.slice sa x.segs.length sc) _ HI.out (by omega)).mono ?_
        rintro e w1 ⟨rfl, hb1⟩
        have HB1 : Hid (Below w.heap.size w w1) := HB.out.trans (hb1.mono HB.out.size)
        have k9 : w1.cell? ⟨b, off + i * 10 + 9, none⟩ = some (.slice sa x.segs.length sc) := by rw [hb1.cell hblt]; exact c9
        clear hb1 c0 c1 c2 c3 c4 c5 c6 c7 c8 c9 HI HB
        cases hB : houseB n x
        · have HF := tabhid (HN1.out hB)
          go_wp2_with fail
          go_ret
          exact ⟨tabBool HF.out.symm, HB1.out⟩
        · have HBX := tabhid hB
          clear hB HN1
          have hb1l : b < w1.heap.size := Nat.lt_of_lt_of_le hb HB1.out.size
          go_wp2_with fail
          go_loopw [6] (fun c w2 => ∃ (k : Nat), k ≤ i ∧ c = .int .i64 k ∧ Hid (∀ t (ht : t < l.length), t < k → ∀ y ∈ x.segs, y ∉ l[t].segs) ∧ Hid (Below w1.heap.size w1 w2)) (fun c _ => i - (intOf c).toNat)
          case atStart => exact ⟨0, by omega, rfl, fun t ht h => by omega, Below.refl _ _⟩
          case round =>
            obtain ⟨k, hk, rfl, HK, HB2⟩ := hrel
            rename World => w2
            by_cases hki : k < i
            · have hkl : k < l.length := by rw [H16.out]; omega
              have hk16 : k < 16 := by omega
              obtain ⟨kv, hhk⟩ := HCE.out k hkl
              have HKI := tabhid hhk.2.2.2.2.2.2.2.2.2.2
              have q9 := hhk.2.2.2.2.2.2.2.2.2.1
              have hkb := HS.out l[k] (List.getElem_mem hkl)
              have HN2 : Hid (∀ y, y ∈ l[k].segs → y ∈ x.segs → R = false) := fun y h1 h2 => NO2.out k i hkl hil hki y h1 (HX.out ▸ h2)
              clear hhk
              obtain ⟨z, hz⟩ : ∃ z, z = l[k] := ⟨_, rfl⟩
              rw [← hz] at HKI hkb HN2
              have HZ := tabhid hz
              clear hz
              go_wp2_with fail
              go_loopw [7] (fun c w3 => ∃ (j : Nat), j ≤ x.segs.length ∧ c = .int .i64 j ∧ Hid (∀ t (ht : t < x.segs.length), t < j → x.segs[t] ∉ z.segs) ∧ Hid (Below w1.heap.size w1 w3)) (fun c _ => x.segs.length - (intOf c).toNat)
              case atStart => exact ⟨0, by omega, rfl, fun t ht h => by omega, HB2⟩
              case round =>
                obtain ⟨j, hj, rfl, HJ, HB3⟩ := hrel
                rename World => w3
                have HB4 : Hid (Below w.heap.size w w3) := HB1.out.trans (HB3.out.mono HB1.out.size)
                have d9 : w3.cell? ⟨b, off + i * 10 + 9, none⟩ = some (.slice sa x.segs.length sc) := by rw [HB3.out.cell hb1l]; exact k9
                have e9 : w3.cell? ⟨b, off + k * 10 + 9, none⟩ = some kv := by rw [HB4.out.cell hb]; exact q9
                by_cases hjl : j < x.segs.length
                · have HI3 := HI0.out.on HB4.out
                  obtain ⟨sa', sc', he, _, hcs⟩ := HI3
                  simp only [Value.slice.injEq] at he
                  obtain ⟨rfl, -, rfl⟩ := he
                  obtain ⟨gb, go, rfl, hgb, hgi⟩ := hcs (by omega)
                  have s0 := hgi j hjl
                  have HAS := tabhid (fun w4 (hb4 : Below w3.heap.size w3 w4) => CH.out kv z.segs x.segs[j] w4 ((HKI.out.on HB4.out).on hb4) (by omega))
                  have HN3 : Hid (x.segs[j] ∈ z.segs → R = false) := fun h => HN2.out x.segs[j] h (List.getElem_mem hjl)
                  have HJ2 : Hid (¬ x.segs[j] ∈ z.segs → ∀ t (ht : t < x.segs.length), t < j + 1 → x.segs[t] ∉ z.segs) := fun hn t ht htj => by
                    rcases Nat.lt_or_ge t j with h' | h'
                    · exact HJ.out t ht h'
                    · have : t = j := by omega
                      subst this
                      exact hn
                  clear hgi hcs HJ
                  generalize x.segs[j] = y at *
                  by_cases hm : y ∈ z.segs
                  · have hd : decide (y ∈ z.segs) = true := decide_eq_true hm
                    have HF := tabhid (HN3.out hm)
                    rw [hd] at HAS
                    clear HJ2 HN3 hm hd
                    go_wp2_with fail
                    go_quiet ((go_at_call 40; refine Calls.quiet_of_same ((HAS.out _ ?_).mono fun _ _ h => ⟨h.1, h.2.symm⟩); first | exact Below.refl _ _ | exact ⟨rfl, rfl, rfl, Nat.le_refl _, fun _ _ => rfl⟩))
                    go_wp2_with fail
                    go_ret
                    exact ⟨tabBool HF.out.symm, HB4.out.os, HB4.out.tape, HB4.out.output, HB4.out.size, HB4.out.block⟩
                  · have hd : decide (y ∈ z.segs) = false := decide_eq_false hm
                    have HJ3 := tabhid (HJ2.out hm)
                    rw [hd] at HAS
                    clear HJ2 HN3 hm hd
                    go_wp2_with fail
                    go_quiet ((go_at_call 40; refine Calls.quiet_of_same ((HAS.out _ ?_).mono fun _ _ h => ⟨h.1, h.2.symm⟩); first | exact Below.refl _ _ | exact ⟨rfl, rfl, rfl, Nat.le_refl _, fun _ _ => rfl⟩))
                    go_wp2_with fail
                    exact ⟨⟨j + 1, by omega, by go_num, HJ3, ⟨HB3.out.os, HB3.out.tape, HB3.out.output, HB3.out.size, HB3.out.block⟩⟩, by simp [intOf]; omega⟩
                · have HK2 : Hid (∀ t (ht : t < l.length), t < k + 1 → ∀ y ∈ x.segs, y ∉ l[t].segs) := fun t ht htk y hy => by
                    rcases Nat.lt_or_ge t k with h' | h'
                    · exact HK.out t ht h' y hy
                    · have : t = k := by omega
                      subst this
                      obtain ⟨m, hm, rfl⟩ := List.getElem_of_mem hy
                      rw [← HZ.out]
                      exact HJ.out m hm (by omega)
                  go_wp2_with fail
                  exact ⟨⟨k + 1, by omega, by go_num, HK2, HB3⟩, by simp [intOf]; omega⟩
            · have HG2 : Hid (goodTo n l (i + 1)) := fun t ht hti => by
                rcases Nat.lt_or_ge t i with h' | h'
                · exact HG.out t ht h'
                · have : t = i := by omega
                  subst this
                  rw [← HX.out]
                  exact ⟨HBX.out, fun k' hk' hlt' => HK.out k' hk' (by omega)⟩
              have HB4 : Hid (Below w.heap.size w w2) := HB1.out.trans (HB2.out.mono HB1.out.size)
              go_wp2_with fail
              exact ⟨⟨i + 1, by omega, by go_num, HG2, HB4⟩, by simp [intOf]; omega⟩
      · have hi16 : i = 16 := by omega
        subst hi16
        have HF := tabhid (YES.out HG.out)
        go_wp2_with fail
        go_ret
        exact ⟨tabBool HF.out.symm, HB.out⟩
  · have hE : checkB n l = false := by unfold checkB; rw [decide_eq_false h16]; rfl
    have hb : ((l.length : Int) == 16) = false := by rw [beq_eq_false_iff_ne]; omega
    have hb2 : ((l.length : Int) != 16) = true := by rw [bne, hb]; rfl
    rw [hE]
    go_enter Try.func18, Try.ntmps18
    go_wp2_with fail
    go_ret
    exact ⟨rfl, Below.refl _ _⟩
end Go.Proofs.Ytdhdjnpgebddmaa
