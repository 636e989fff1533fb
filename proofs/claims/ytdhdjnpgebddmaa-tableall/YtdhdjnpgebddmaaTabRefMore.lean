/- The document's own one: whether a house may be, walked. -/
import Derived.Test.YtdhdjnpgebddmaaTabRefOne
namespace Go.Proofs.Ytdhdjnpgebddmaa
open Go.RowKit Tab

/-- What is least at a place of rising numbers. -/
def leastAt (l : List Int) (i : Nat) : Int := if i = 0 then 0 else l.getD (i - 1) 0 + 1

set_option maxRecDepth 4000 in
set_option maxHeartbeats 1500000 in
theorem rone_more (n : Int) (st gen : Int) (x : Lm) (segs : List Int) (v : Value) (w : World) (hI : Ints w v segs) (hl : segs.length ≤ 4611686018427387904) (hs : inB st 0 2 = true) (h0 : (st == 0) = false) (hg : inB gen 0 65535 = true) :
    Calls Try.prog 39 #[.int .i64 n, houseV ⟨st, gen, x, segs⟩ v] w fun e w' => e = .returned (.bool (decide (0 < gen) && limB x && decide ((segs.length : Int) = x.s) && rises n 0 segs)) ∧ Below w.heap.size w w' := by
  have hg0 := (inB_iff.1 hg).1
  obtain ⟨ad, cap, rfl, _, hc⟩ := hI
  have HC := tabhid hc
  clear hc
  have C := tabhid rin_t
  have CL := tabhid fun w => rlimit_t x w
  obtain ⟨LB, hLB⟩ : ∃ B, B = limB x := ⟨_, rfl⟩
  rw [← hLB] at CL ⊢
  clear hLB
  obtain ⟨xs, xhb, xsb, xhn, xsn, xgr, xbu⟩ := x
  show Calls _ _ #[.int .i64 n, .agg #[.int .i64 st, .int .i64 gen, .int .i64 xs, .int .i64 xhb, .int .i64 xsb, .int .i64 xhn, .int .i64 xsn, .int .i64 xgr, .int .i64 xbu, .slice ad segs.length cap]] _ _
  by_cases hgz : gen = 0
  · have hgb : (gen == 0) = true := by rw [hgz]; rfl
    have E1 : Hid (decide (0 < gen) = false) := decide_eq_false (by omega)
    clear hgz
    go_enter Try.func39, Try.ntmps39
    go_wp2_with (first | (refine (C.out _ _ _ _).mono ?_; rintro e w' ⟨rfl, rfl⟩) | fail)
    go_ret
    exact ⟨tabBool (by rw [E1.out]; simp), (Below.refl _ w).alloc (Nat.le_refl _) _⟩
  · have hgb : (gen == 0) = false := by rw [beq_eq_false_iff_ne]; exact hgz
    have E1 : Hid (decide (0 < gen) = true) := decide_eq_true (by omega)
    clear hgz
    go_enter Try.func39, Try.ntmps39
    go_wp2_with (first | (refine (C.out _ _ _ _).mono ?_; rintro e w' ⟨rfl, rfl⟩) | fail)
    refine (CL.out _).mono ?_
    rintro e w1 ⟨rfl, hb1⟩
    have c0 : w1.cell? ⟨w.heap.size, 2, none⟩ = some (.int .i64 xs) := by rw [hb1.cell (by simp)]; simp
    have c1 : w1.cell? ⟨w.heap.size, 9, none⟩ = some (.slice ad segs.length cap) := by rw [hb1.cell (by simp)]; simp
    have HB : Hid (Below w.heap.size w w1) := ((Below.refl _ w).alloc (Nat.le_refl _) _).trans (hb1.mono (by simp))
    have hw1 : w.heap.size < w1.heap.size := by have := hb1.size; simp at this; omega
    clear hb1 CL C
    cases LB
    · go_wp2_with fail
      go_ret
      exact ⟨tabBool (by rw [E1.out]; rfl), HB.out⟩
    · by_cases hlen : (segs.length : Int) = xs
      · have hlb : ((segs.length : Int) == xs) = true := by simpa using hlen
        have hlb2 : ((segs.length : Int) != xs) = false := by rw [bne, hlb]; rfl
        have E2 : Hid (decide ((segs.length : Int) = xs) = true) := decide_eq_true hlen
        clear hlen
        go_wp2_with fail
        go_loopw [5] (fun c wr => ∃ (i : Nat), i ≤ segs.length ∧ c = .int .i64 i ∧ 0 ≤ leastAt segs i ∧ Hid (rises n (leastAt segs i) (segs.drop i) = rises n 0 segs) ∧ Hid (Below w1.heap.size w1 wr)) (fun c _ => segs.length - (intOf c).toNat)
        case atStart => exact ⟨0, by omega, rfl, by simp [leastAt], by show _ = _; simp [leastAt], Below.refl _ _⟩
        case round =>
          obtain ⟨i, hi, rfl, hx0, HR, HBW⟩ := hrel
          have d1 : wr.cell? ⟨w.heap.size, 9, none⟩ = some (.slice ad segs.length cap) := by rw [HBW.out.cell hw1]; exact c1
          have HBN : Hid (Below w.heap.size w wr) := HB.out.trans (HBW.out.mono HB.out.size)
          by_cases hlt : i < segs.length
          · obtain ⟨b, off, rfl, hb, hcell⟩ := HC.out (by omega)
            have E : Hid (rises n 0 segs = (decide (leastAt segs i ≤ segs[i] ∧ segs[i] < n) && rises n (segs[i] + 1) (segs.drop (i + 1)))) := by show _ = _; rw [← HR.out, rises_drop n (leastAt segs i) segs i hlt]
            have s0 : wr.cell? ⟨b, off + i, none⟩ = some (.int .i64 segs[i]) := by rw [HBN.out.cell hb]; exact hcell i hlt
            have NX : Hid (leastAt segs (i + 1) = segs[i] + 1) := by show _ = _; simp [leastAt, hlt]
            have FIN : Hid (∀ B, rises n 0 segs = B → (decide (0 < gen) && true && decide ((segs.length : Int) = xs) && rises n 0 segs) = B) := fun B h => by rw [E1.out, E2.out, h]; rfl
            by_cases h1 : segs[i] < 0
            · have q1 : decide (segs[i] < 0) = true := decide_eq_true h1
              have F := tabhid (FIN.out false (by rw [E.out, decide_eq_false (by omega)]; rfl))
              clear E FIN NX HR hcell
              generalize segs[i] = y at *
              go_wp2_with fail
              go_quiet (fail)
              go_wp2_with fail
              go_ret
              exact ⟨tabBool F.out.symm, ⟨HBN.out.os, HBN.out.tape, HBN.out.output, HBN.out.size, HBN.out.block⟩⟩
            · have q1 : decide (segs[i] < 0) = false := decide_eq_false h1
              by_cases h2 : n ≤ segs[i]
              · have q2 : decide (n ≤ segs[i]) = true := decide_eq_true h2
                have F := tabhid (FIN.out false (by rw [E.out, decide_eq_false (by omega)]; rfl))
                clear E FIN NX HR hcell
                generalize segs[i] = y at *
                go_wp2_with fail
                go_quiet (fail)
                go_wp2_with fail
                go_ret
                exact ⟨tabBool F.out.symm, ⟨HBN.out.os, HBN.out.tape, HBN.out.output, HBN.out.size, HBN.out.block⟩⟩
              · have q2 : decide (n ≤ segs[i]) = false := decide_eq_false h2
                by_cases hi0 : i = 0
                · subst hi0
                  have hL : leastAt segs 0 = 0 := rfl
                  have q3 : decide ((0 : Int) < ((0 : Nat) : Int)) = false := rfl
                  rw [Nat.add_zero] at s0
                  have HR2 : Hid (rises n (leastAt segs (0 + 1)) (segs.drop (0 + 1)) = rises n 0 segs) := by
                    show _ = _
                    rw [E.out, decide_eq_true (by rw [hL]; omega), NX.out]
                    rfl
                  have hx1 : 0 ≤ leastAt segs (0 + 1) := by rw [NX.out]; omega
                  clear E FIN NX HR hcell hx0
                  generalize segs[0] = y at *
                  go_wp2_with fail
                  go_quiet (fail)
                  go_wp2_with fail
                  exact ⟨⟨0 + 1, by omega, by go_num, hx1, HR2, ⟨HBW.out.os, HBW.out.tape, HBW.out.output, HBW.out.size, HBW.out.block⟩⟩, by simp [intOf]; omega⟩
                · obtain ⟨k, rfl⟩ : ∃ k, i = k + 1 := ⟨i - 1, by omega⟩
                  have hk : k < segs.length := by omega
                  have hL : leastAt segs (k + 1) = segs[k] + 1 := by simp [leastAt, hk]
                  have q3 : decide ((0 : Int) < ((k + 1 : Nat) : Int)) = true := decide_eq_true (by omega)
                  have s1 : wr.cell? ⟨b, off + k, none⟩ = some (.int .i64 segs[k]) := by rw [HBN.out.cell hb]; exact hcell k hk
                  by_cases h3 : segs[k + 1] ≤ segs[k]
                  · have q4 : decide (segs[k + 1] ≤ segs[k]) = true := decide_eq_true h3
                    have F := tabhid (FIN.out false (by rw [E.out, decide_eq_false (by rw [hL]; omega)]; rfl))
                    clear E FIN NX HR hcell
                    clear hL
                    generalize segs[k + 1] = y at *
                    generalize segs[k] = z at *
                    go_wp2_with fail
                    go_quiet (fail)
                    go_wp2_with fail
                    go_ret
                    exact ⟨tabBool F.out.symm, ⟨HBN.out.os, HBN.out.tape, HBN.out.output, HBN.out.size, HBN.out.block⟩⟩
                  · have q4 : decide (segs[k + 1] ≤ segs[k]) = false := decide_eq_false h3
                    have HR2 : Hid (rises n (leastAt segs (k + 1 + 1)) (segs.drop (k + 1 + 1)) = rises n 0 segs) := by
                      show _ = _
                      rw [E.out, decide_eq_true (by rw [hL]; omega), NX.out]
                      rfl
                    have hx1 : 0 ≤ leastAt segs (k + 1 + 1) := by rw [NX.out]; omega
                    clear E FIN NX HR hcell hx0
                    clear hL
                    generalize segs[k + 1] = y at *
                    generalize segs[k] = z at *
                    go_wp2_with fail
                    go_quiet (fail)
                    go_wp2_with fail
                    exact ⟨⟨k + 1 + 1, by omega, by go_num, hx1, HR2, ⟨HBW.out.os, HBW.out.tape, HBW.out.output, HBW.out.size, HBW.out.block⟩⟩, by simp [intOf]; omega⟩
          · go_wp2_with fail
            go_ret
            refine ⟨tabBool ?_, HBN.out⟩
            rw [E1.out, E2.out, ← HR.out, List.drop_of_length_le (by omega)]
            rfl
      · have hlb : ((segs.length : Int) == xs) = false := by rw [beq_eq_false_iff_ne]; exact hlen
        have hlb2 : ((segs.length : Int) != xs) = true := by rw [bne, hlb]; rfl
        have E2 : Hid (decide ((segs.length : Int) = xs) = false) := decide_eq_false hlen
        clear hlen
        go_wp2_with fail
        go_ret
        exact ⟨tabBool (by rw [E2.out]; simp), HB.out⟩
end Go.Proofs.Ytdhdjnpgebddmaa
