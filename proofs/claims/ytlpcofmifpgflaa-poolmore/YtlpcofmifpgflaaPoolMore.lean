/- PoolMore: with a house more there is as much less as it has; without it, again as much. -/
import Derived.Test.YtlpcofmifpgflaaPoolAwake
import Derived.Test.YtlpcofmifpgflaaPoolUp
import Derived.Test.YtlpcofmifpgflaaPlace
namespace Go.Proofs.Ytlpcofmifpgflaa
open Go.RowKit Pool

set_option maxRecDepth 20000 in
set_option maxHeartbeats 8000000 in
theorem poolMore_t (s : Int) (xs : List Int) (v : Value) (w : World) (hX : Ints w v xs) (hxl : xs.length ≤ 9223372036854775807) :
    Calls Try.prog 6 #[.int .i64 s, v] w fun e w' => e = .returned (.bool true) ∧ Below w.heap.size w w' := by
  obtain ⟨xa, xc, rfl, -, -, hx⟩ := hX
  have HX := poolhid hx
  have AW := poolhid awake_t12
  have PS := poolhid (fun W => gplace_t s 150 W (by decide) (by decide))
  have P12 := poolhid (fun x W => gplace_t x 12 W (by decide) (by decide))
  have FR := poolhid free_t12
  obtain ⟨k, hk⟩ : ∃ k : Nat, s % 150 = (k : Int) := ⟨(s % 150).toNat, by omega⟩
  have hk5 : k < 150 := by omega
  have hck : cutN (k : Int) = k := by unfold cutN; omega
  have FK := poolhid (fun l v W (h : Houses W v l) h1 h2 => free_t12 k l v W h h1 h2)
  rw [hk] at PS
  rw [hck] at FK
  clear hk hx hck FR
  go_enter Try.func6, Try.ntmps6
  go_wp2_with fail
  refine (PS.out _).mono ?_
  rintro _ w1 ⟨rfl, rfl⟩
  go_wp2_with fail
  clear PS
  go_loopw [6, 7, 8] (fun vl va vi wr => ∃ (i a : Nat) (L : List (Ho × Value)), vi = .int .i64 i ∧ i ≤ xs.length ∧ i ≤ 10 ∧ va = .int .i64 a ∧ a ≤ 12 * i ∧ Hid (L.length = i) ∧ Hid (HOwn wr w.heap.size vl L) ∧ Hid (∀ p ∈ L, p.1.segs.length ≤ 12) ∧ Hid (Upto (L.map (·.1)) a) ∧ Hid (Below w.heap.size w wr)) (fun _ _ vi _ => xs.length - (intOf vi).toNat)
  case atStart => exact ⟨0, 0, [], rfl, by omega, by omega, rfl, by omega, rfl, HOwn.nil _ _, (fun p hp => by cases hp), Upto.nil, Below.refl _ _⟩
  case round =>
    obtain ⟨i, a, L, rfl, hi, hi10, rfl, ha, HL, HO, HS, HU, HB⟩ := hrel
    obtain ⟨W0, rfl⟩ : ∃ W0, W0 = wr := ⟨wr, rfl⟩
    have hsz : w.heap.size ≤ W0.heap.size := HB.out.size
    by_cases hil : i < xs.length
    · by_cases h10 : i < 10
      · obtain ⟨xb, xo, rfl, hxb, hcell⟩ := HX.out (by omega)
        have cx : W0.cell? ⟨xb, xo + i, none⟩ = some (.int .i64 xs[i]) := by rw [HB.out.cell hxb]; exact hcell i hil
        have P2 := poolhid (fun W => P12.out xs[i] W)
        clear hcell HX
        obtain ⟨n, hn⟩ : ∃ n : Nat, xs[i] % 12 = (n : Int) := ⟨(xs[i] % 12).toNat, by omega⟩
        have hn12 : n < 12 := by omega
        rw [hn] at P2
        generalize xs[i] = x at *
        clear hn
        go_wp2_with fail
        refine (P2.out _).mono ?_
        rintro _ w1 ⟨rfl, rfl⟩
        go_wp2_with fail
        go_loopw [7, 10, 11] (fun va vs vj wq => ∃ (j q : Nat), vj = .int .i64 j ∧ j ≤ n ∧ va = .int .i64 q ∧ q ≤ 200 ∧ Hid (q = a + j) ∧ Hid (IOwn wq W0.heap.size vs (seq a j)) ∧ Hid (Below W0.heap.size W0 wq)) (fun _ _ vj _ => n - (intOf vj).toNat)
        case atStart => exact ⟨0, a, rfl, by omega, rfl, by omega, rfl, IOwn.nil _ _, Below.refl _ _⟩
        case round =>
          obtain ⟨j, q, rfl, hj, rfl, hq, HQ, HI, HB2⟩ := hrel
          have hsz2 : W0.heap.size ≤ wr.heap.size := HB2.out.size
          by_cases hjn : j < n
          · have HT := poolhid (seq_succ a j)
            have hsl := seq_length a j
            rw [← HQ.out] at HT
            have HQ2 : Hid (q + 1 = a + (j + 1)) := by show _ = _; rw [HQ.out]; omega
            have hq2 : q < 200 := by rw [HQ.out]; omega
            have hlen : (seq a j).length ≤ 200 := by rw [hsl]; omega
            clear HQ hsl
            generalize seq a j = sq at *
            go_wp2_with (first
              | (refine wpList_append_one rfl _ _ rfl W0.heap.size _ sq rfl (HI.out.on ((Below.refl _ _).alloc (Nat.le_refl _) _)) wr.heap.size 1 [(q : Int)] rfl 3 (0, 0) (heap_alloc_new _ _) (by simp) (by simp; omega) (by simp; omega) ?_)
              | fail)
            intro v' w' ho hb hle
            rw [← HT.out] at ho
            have HI2 := poolhid ho
            have HB3 : Hid (Below W0.heap.size W0 w') := (HB2.out.alloc hsz2 _).trans hb
            clear ho hb hle HI HB2 HT
            go_wp2_with fail
            exact ⟨⟨j + 1, q + 1, by go_num, by omega, by go_num, by omega, HQ2, HI2, HB3⟩, by simp [intOf]; omega⟩
          · have hjn2 : j = n := by omega
            subst hjn2
            have HO2 := poolhid (HO.out.on HB2.out)
            have HB3 : Hid (Below w.heap.size w wr) := HB.out.trans (HB2.out.mono hsz)
            obtain ⟨sad, sca, rfl⟩ := HI.out.slice
            rw [seq_length] at HI ⊢
            have HILT : Hid (∀ g, (Value.slice sad j sca).ownBlock = some g → g < wr.heap.size ∧ u6.ownBlock ≠ some g) := fun g hg => by
              have h1 := HI.out.lt g hg
              exact ⟨h1.2, fun e => by have := (HO.out.lt g e).2; omega⟩
            have HIN := poolhid HI.out.ints
            have HM1 : Hid ((L.map (·.1)).length ≤ 9223372036854775807) := by have := HL.out; show _ ≤ _; rw [List.length_map]; omega
            have HM2 : Hid (∀ x ∈ L.map (·.1), x.segs.length ≤ 9223372036854775807) := fun x hx => by
              obtain ⟨p, hp, rfl⟩ := List.mem_map.1 hx
              exact Nat.le_trans (HS.out p hp) (by decide)
            have FREE := poolhid (HU.out.free k)
            have hL10 : L.length ≤ 10 := by rw [HL.out]; exact hi10
            have HQ12 : Hid (q ≤ 12 * i + 12) := by show _ ≤ _; rw [HQ.out]; omega
            clear ha
            clear HO HB HI HB2
            go_wp2_with fail
            refine (FK.out _ u6 wr HO2.out.houses HM1.out HM2.out).mono ?_
            rintro _ w1 ⟨r0, rfl, hO0, hB1⟩
            obtain ⟨ad0, cap0, rfl⟩ := hO0.slice
            rw [FREE.out, seq_length]
            obtain ⟨lw, hlw⟩ : ∃ lw, k - a = lw := ⟨_, rfl⟩
            rw [hlw]
            have hlw5 : lw ≤ 150 := by omega
            have HLW := poolhid hlw
            have HO3 := poolhid (HO2.out.on hB1)
            have HB4 : Hid (Below w.heap.size w w1) := HB3.out.trans (hB1.mono HB3.out.size)
            have HIN2 := poolhid (HIN.out.on hB1)
            have HILT2 : Hid (∀ g, (Value.slice sad j sca).ownBlock = some g → g < w1.heap.size ∧ u6.ownBlock ≠ some g) := fun g hg => ⟨Nat.lt_of_lt_of_le (HILT.out g hg).1 hB1.size, (HILT.out g hg).2⟩
            have hsz4 : w.heap.size ≤ w1.heap.size := HB4.out.size
            clear hlw hO0 hB1 HO2 HB3 HIN HILT FREE
            go_wp2_with (first
              | (refine wpList_append_house rfl _ _ rfl w.heap.size u6 L rfl (HO3.out.on ((Below.refl _ _).alloc (Nat.le_refl _) _)) w1.heap.size 1 ⟨_, 0, Lm.z, seq a j⟩ (.slice sad j sca) rfl _ _ (heap_alloc_new _ _) (HIN2.out.on ((Below.refl _ _).alloc (Nat.le_refl _) _)) (fun g hg => ⟨by have := (HILT2.out g hg).1; simp; omega, (HILT2.out g hg).2⟩) (by omega) (by simp; omega) ?_)
              | fail)
            intro v' w2 hO4 hB5 hle
            generalize hh : (⟨1 + (i : Int) % 2, 0, Lm.z, seq a j⟩ : Ho) = h at hO4
            have hsg : h.segs = seq a j := by rw [← hh]
            obtain ⟨L2, hL2⟩ : ∃ L2, L2 = L ++ [(h, .slice sad j sca)] := ⟨_, rfl⟩
            rw [← hL2] at hO4
            have hLl := HL.out
            have HLL : Hid (L2.length = i + 1) := by show _ = _; rw [hL2, List.length_append, hLl]; rfl
            have hmap : L2.map (·.1) = L.map (·.1) ++ [h] := by rw [hL2]; simp
            have HT2 : Hid ((L2.map (·.1)).take i = L.map (·.1)) := by
              show _ = _
              rw [hmap, ← hLl, ← List.length_map (f := fun (p : Ho × Value) => p.1), List.take_left']
              rfl
            have HSS : Hid (∀ p ∈ L2, p.1.segs.length ≤ 12) := fun p hp => by
              rw [hL2] at hp
              rcases List.mem_append.1 hp with hp | hp
              · exact HS.out p hp
              · rw [List.mem_singleton] at hp
                rw [hp]
                show h.segs.length ≤ 12
                rw [hsg, seq_length]
                omega
            have HUU : Hid (Upto (L2.map (·.1)) q) := by
              show Upto _ _
              rw [hmap, HQ.out]
              exact HU.out.more h hsg
            have HN1 : Hid ((L2.map (·.1)).length ≤ 9223372036854775807) := by have := HLL.out; show _ ≤ _; rw [List.length_map]; omega
            have HN2 : Hid (∀ x ∈ L2.map (·.1), x.segs.length ≤ 9223372036854775807) := fun x hx => by
              obtain ⟨p, hp, rfl⟩ := List.mem_map.1 hx
              exact Nat.le_trans (HSS.out p hp) (by decide)
            have FREE0 := poolhid (HU.out.free k)
            have FREE2 := poolhid (HUU.out.free k)
            have HO4 := poolhid hO4
            have HB5 : Hid (Below w.heap.size w w2) := (HB4.out.alloc hsz4 _).trans hB5
            have hsz5 : w.heap.size ≤ w2.heap.size := HB5.out.size
            have hqa : q = a + j := HQ.out
            have HQA := poolhid hqa
            have HZ1 : Hid (max ((k : Int) - (q : Int) + (j : Int)) 0 = (lw : Int)) := by have := HLW.out; show _ = _; omega
            clear hh hL2 hLl hmap hO4 hB5 hle HL HS HU HO3 HIN2 HILT2 HB4 HQ hqa hsg hL10
            go_wp2_with fail
            refine (FK.out _ v' w2 HO4.out.houses HN1.out HN2.out).mono ?_
            rintro _ w3 ⟨r1, rfl, hO1, hB6⟩
            have HI1 := hO1.ints
            obtain ⟨ad1, cap1, rfl⟩ := hO1.slice
            rw [FREE2.out] at HI1
            rw [seq_length] at HI1
            rw [FREE2.out, seq_length]
            obtain ⟨lv, hlv⟩ : ∃ lv, k - q = lv := ⟨_, rfl⟩
            rw [hlv] at HI1 ⊢
            have hlv5 : lv ≤ 150 := by omega
            have hz2 : max ((k : Int) - (q : Int)) 0 = (lv : Int) := by omega
            have hz1 := HZ1.out
            have HO5 := poolhid (HO4.out.on hB6)
            have HB6 : Hid (Below w.heap.size w w3) := HB5.out.trans (hB6.mono HB5.out.size)
            obtain ⟨g, capv, rfl, hgc⟩ := HO5.out.there HLL.out (by omega)
            have HHT : Hid (Houses w3 (.slice (some ⟨g, 0, none⟩) i capv) (L.map (·.1))) := by
              have h1 := HO5.out.houses
              have h2 := h1.take i (by rw [List.length_map, HLL.out]; omega)
              rw [HT2.out] at h2
              exact h2
            have hic : i ≤ capv := by omega
            have H5 := poolhid HI1
            have HLV := poolhid hlv
            clear hO1 hB6 HI1 hlv HO4 HB5 FREE2 HZ1 hgc
            by_cases hlv0 : 0 < lv
            · obtain ⟨ad3, cap3, hv3, -, -, hc3⟩ := H5.out
              obtain ⟨b1, o1, rfl, hb1, hi1⟩ := hc3 (by rw [seq_length]; exact hlv0)
              have c1 := hi1 0 (by rw [seq_length]; exact hlv0)
              rw [show (seq q lv)[0]'(by rw [seq_length]; exact hlv0) = (q : Int) by simp [seq], Nat.add_zero] at c1
              injection hv3 with e1 e2 e3
              subst e1
              clear hi1 hc3 H5 e2 e3
              go_wp2_with fail
              refine (FK.out _ _ w3 HHT.out HM1.out HM2.out).mono ?_
              rintro _ w4 ⟨r2, rfl, hO2, hB7⟩
              obtain ⟨ad2, cap2, rfl⟩ := hO2.slice
              rw [FREE0.out, seq_length, HLW.out]
              have HO6 := poolhid (HO5.out.on hB7)
              have HB7 : Hid (Below w.heap.size w w4) := HB6.out.trans (hB7.mono HB6.out.size)
              clear hO2 hB7 HO5 HB6 HHT FREE0 hz1 hz2 hic
              go_wp2_with fail
              exact ⟨⟨i + 1, q, L2, by go_num, by omega, by omega, rfl, (by have := HQ12.out; omega), HLL, HO6, HSS, HUU, HB7⟩, by simp [intOf]; omega⟩
            · have hlv1 : lv = 0 := by omega
              subst hlv1
              clear H5
              go_wp2_with fail
              refine (FK.out _ _ w3 HHT.out HM1.out HM2.out).mono ?_
              rintro _ w4 ⟨r2, rfl, hO2, hB7⟩
              obtain ⟨ad2, cap2, rfl⟩ := hO2.slice
              rw [FREE0.out, seq_length, HLW.out]
              have HO6 := poolhid (HO5.out.on hB7)
              have HB7 : Hid (Below w.heap.size w w4) := HB6.out.trans (hB7.mono HB6.out.size)
              clear hO2 hB7 HO5 HB6 HHT FREE0 hz1 hz2 hic
              go_wp2_with fail
              exact ⟨⟨i + 1, q, L2, by go_num, by omega, by omega, rfl, (by have := HQ12.out; omega), HLL, HO6, HSS, HUU, HB7⟩, by simp [intOf]; omega⟩
      · have hi2 : i = 10 := by omega
        subst hi2
        go_wp2_with fail
        refine (AW.out _).mono ?_
        rintro _ w1 ⟨rfl, hB⟩
        have HB2 : Hid (Below w.heap.size w w1) := HB.out.trans (hB.mono hsz)
        clear hB HB
        go_wp2_with fail
        go_ret
        exact ⟨rfl, HB2.out⟩
    · go_wp2_with fail
      refine (AW.out _).mono ?_
      rintro _ w1 ⟨rfl, hB⟩
      have HB2 : Hid (Below w.heap.size w w1) := HB.out.trans (hB.mono hsz)
      clear hB HB
      go_wp2_with fail
      go_ret
      exact ⟨rfl, HB2.out⟩
end Go.Proofs.Ytlpcofmifpgflaa
