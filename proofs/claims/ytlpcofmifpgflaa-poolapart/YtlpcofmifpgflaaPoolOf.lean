/- Which segments a house has: ofHouses walked. -/
import Derived.Test.YtlpcofmifpgflaaPoolSet
namespace Go.Proofs.Ytlpcofmifpgflaa
open Go.RowKit Go.Maps Pool

/-- Of the first n, those that a house has. -/
def supL (l : List Ho) (n : Nat) : Int → Bool := fun s => tkn l s && decide (0 ≤ s ∧ s < n)
/-- .. and those of a house's first j. -/
def midL (l : List Ho) (p : List Int) (n : Nat) : Int → Bool := fun s => (tkn l s || inL p s) && decide (0 ≤ s ∧ s < n)

theorem mid_start (l : List Ho) (p : List Int) (n : Nat) (y : Int) : supL l n y = midL l (p.take 0) n y := by
  show _ = ((tkn l y || inL [] y) && _)
  simp [inL, supL]
theorem mid_in {l : List Ho} {p : List Int} {n j : Nat} (hj : j < p.length) (h0 : 0 ≤ p[j]) (h1 : p[j] < n) (y : Int) : (midL l (p.take j) n y || (y == p[j])) = midL l (p.take (j + 1)) n y := by
  unfold midL
  rw [inL_take p j hj]
  by_cases e : y = p[j]
  · rw [e, decide_eq_true ⟨h0, h1⟩]
    simp
  · rw [beq_eq_false_iff_ne.2 e, Bool.or_false, Bool.or_false]
theorem mid_out {l : List Ho} {p : List Int} {n j : Nat} (hj : j < p.length) (h : ¬ (0 ≤ p[j] ∧ p[j] < n)) (y : Int) : midL l (p.take j) n y = midL l (p.take (j + 1)) n y := by
  unfold midL
  rw [inL_take p j hj]
  by_cases e : y = p[j]
  · rw [e, decide_eq_false h]
    simp
  · rw [beq_eq_false_iff_ne.2 e, Bool.or_false]
theorem mid_end {l : List Ho} {n i : Nat} (hi : i < l.length) (y : Int) : midL (l.take i) (l[i].segs.take l[i].segs.length) n y = supL (l.take (i + 1)) n y := by
  unfold midL supL
  rw [List.take_length, tkn_take l i hi]

theorem wf_small {z : Int} (h0 : 0 ≤ z) (h1 : z < 65536) : (Lit.int .i64 z).wf = true := by
  simp only [Lit.wf, IntKind.min, IntKind.max, IntKind.signed, IntKind.bits, Bool.and_eq_true, decide_eq_true_eq, if_true]
  omega

set_option maxHeartbeats 4000000 in
theorem of_t12 (n : Nat) (l : List Ho) (v : Value) (w : World) (hH : Houses w v l) (hn : n ≤ 65536) (hl : l.length ≤ 9223372036854775807) (hs : ∀ x ∈ l, x.segs.length ≤ 9223372036854775807) :
    Calls Try.prog 15 #[.int .i64 n, v] w fun e w' => ∃ D, e = .returned (.map (some w.heap.size)) ∧ OSet w' w.heap.size D ∧ IsSet D n (supL l n) ∧ Below w.heap.size w w' := by
  have hmm := @run_makeMap Try.prog
  obtain ⟨ad, cap, rfl, -, hc⟩ := hH
  have HC := poolhid hc
  have HN := poolhid hn
  clear hc
  go_enter Try.func15, Try.ntmps15
  go_wp2
  go_loopw [13] (fun c wr => ∃ (i : Nat) (D : Dat), i ≤ l.length ∧ c = .int .i64 i ∧ Hid (OSet wr w.heap.size D) ∧ Hid (IsSet D n (supL (l.take i) n)) ∧ Hid (Below w.heap.size w wr)) (fun c _ => l.length - (intOf c).toNat)
  case atStart => exact ⟨0, .map [], by omega, rfl, OSet.of (World.ownsMap_made _ _ _ _), (IsSet.none n), (Below.refl _ _).alloc (Nat.le_refl _) _⟩
  case round =>
    obtain ⟨i, D, hi, rfl, HO, HS, HB⟩ := hrel
    by_cases hlt : i < l.length
    · obtain ⟨b, off, rfl, hb, hcell⟩ := HC.out (by omega)
      obtain ⟨sv, hh⟩ := hcell i hlt
      have hh2 := hh.on hb HB.out
      obtain ⟨-, -, -, -, -, -, -, -, -, -, hI⟩ := hh
      have HSL := hs l[i] (List.getElem_mem hlt)
      have HE := poolhid (fun y => mid_end (n := n) hlt y)
      have HS2 : Hid (IsSet D n (midL (l.take i) (l[i].segs.take 0) n)) := HS.out.same (mid_start _ _ n)
      clear hcell HC HS
      obtain ⟨c0, c1, c2, c3, c4, c5, c6, c7, c8, c9, -⟩ := hh2
      obtain ⟨sa, sc, rfl, -, -, hsc⟩ := hI
      have HSC := poolhid hsc
      clear hsc
      have hblt : b < wr.heap.size := Nat.lt_of_lt_of_le hb HB.out.size
      have HB0 : Hid (w.heap.size ≤ wr.heap.size) := HB.out.size
      generalize l[i] = x at *
      generalize l.take i = ps at *
      go_wp2
      go_loopw [20] (fun c wq => ∃ (j : Nat) (D : Dat), j ≤ x.segs.length ∧ c = .int .i64 j ∧ Hid (OSet wq w.heap.size D) ∧ Hid (IsSet D n (midL ps (x.segs.take j) n)) ∧ Hid (Below w.heap.size w wq)) (fun c _ => x.segs.length - (intOf c).toNat)
      case atStart => 
        refine ⟨0, D, by omega, rfl, HO.out.on ((Below.refl _ _).alloc (Nat.le_refl _) _), HS2, HB.out.alloc HB.out.size _⟩
      case round =>
        obtain ⟨j, D2, hj, rfl, HO2, HS3, HB2⟩ := hrel
        have HK : Hid (Maps.size D2 < maxLen) := by have := HS3.out.le; have := HN.out; unfold maxLen; show _ < _; omega
        by_cases hjl : j < x.segs.length
        · obtain ⟨sb, so, rfl, hsb, hsi⟩ := HSC.out (by omega)
          have hx := hsi j hjl
          rw [← HB2.out.cell hsb] at hx
          have HIN := poolhid (fun h0 h1 y => mid_in (l := ps) (n := n) hjl h0 h1 y)
          have HOUT := poolhid (fun h y => mid_out (l := ps) (n := n) hjl h y)
          clear hsi HSC HS2 HO HB HE
          generalize x.segs[j] = z at *
          by_cases h0 : 0 ≤ z
          · have d0 : decide (0 ≤ z) = true := decide_eq_true h0
            by_cases h1 : z < n
            · have d1 : decide (z < (n : Int)) = true := decide_eq_true h1
              have hkey : keyOf Try.prog 3 (.int .i64 z) = some (.int .i64 z) := keyOf_int_mk Try.underlying3 (wf_small h0 (by omega))
              go_wp2_with (first
                | (at_mapUpdate; refine wpList_mapUpdate_own _ rfl _ _ _ 40 rfl 3 42 setKeys Try.underlying40 (unitElem (H := Unit)) w.heap.size _ D2 rfl HO2.out HK.out _ _ _ rfl rfl hkey _ [] unitElem_mk ?_; intro w1 hown1 hgrow1)
                | fail)
              have HO3 : Hid (OSet w1 w.heap.size (D2.put (.int .i64 z) (.agg []))) := OSet.of hown1
              have HB3 : Hid (Below w.heap.size w w1) := HB2.out.grown hgrow1 (by have := HO2.out.lt; omega) (fun k hk => by cases hk; exact Nat.le_refl _)
              have HS4 : Hid (IsSet (D2.put (.int .i64 z) (.agg [])) n (midL ps (x.segs.take (j + 1)) n)) := (HS3.out.put h0 h1).same (HIN.out h0 h1)
              clear hown1 hgrow1 HIN HOUT HS3 HO2 HB2
              go_wp2_with fail
              exact ⟨⟨j + 1, _, by omega, by go_num, HO3, HS4, HB3⟩, by simp [intOf]; omega⟩
            · have d1 : decide (z < (n : Int)) = false := decide_eq_false h1
              have HS4 : Hid (IsSet D2 n (midL ps (x.segs.take (j + 1)) n)) := HS3.out.same (HOUT.out (fun h => h1 h.2))
              clear HIN HOUT HS3
              go_wp2_with fail
              exact ⟨⟨j + 1, _, by omega, by go_num, HO2, HS4, HB2⟩, by simp [intOf]; omega⟩
          · have d0 : decide (0 ≤ z) = false := decide_eq_false h0
            have HS4 : Hid (IsSet D2 n (midL ps (x.segs.take (j + 1)) n)) := HS3.out.same (HOUT.out (fun h => h0 h.1))
            clear HIN HOUT HS3
            go_wp2_with fail
            exact ⟨⟨j + 1, _, by omega, by go_num, HO2, HS4, HB2⟩, by simp [intOf]; omega⟩
        · have hjn : j = x.segs.length := by omega
          subst hjn
          have HS4 : Hid (IsSet D2 n (supL (l.take (i + 1)) n)) := HS3.out.same HE.out
          clear HS3 HE HS2 HO HB
          go_wp2_with fail
          exact ⟨⟨i + 1, _, by omega, by go_num, HO2, HS4, HB2⟩, by simp [intOf]; omega⟩
    · have hil : i = l.length := by omega
      have HS2 : Hid (IsSet D n (supL l n)) := by
        have := HS.out
        rw [hil, List.take_length] at this
        exact this
      clear HS HC
      go_wp2
      go_ret
      exact ⟨D, rfl, HO.out, HS2.out, HB.out⟩
end Go.Proofs.Ytlpcofmifpgflaa
