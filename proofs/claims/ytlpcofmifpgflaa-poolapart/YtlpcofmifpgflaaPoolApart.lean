/- PoolApart: taken by one house behind the other, no segment is two houses'. -/
import Derived.Test.YtlpcofmifpgflaaPoolAwake
import Derived.Test.YtlpcofmifpgflaaPoolSeen
import Derived.Test.YtlpcofmifpgflaaPlace
import Derived.BigRegion
import Derived.Deep.QuietTactic
import Derived.BigQuiet
namespace Go.Proofs.Ytlpcofmifpgflaa
open Go.RowKit Pool

theorem seenZero (W : World) : (zeroValue 32).run Try.prog W = .ok (.agg (seenC (fun _ => false))) W := by kernel_rfl

theorem tkn_zero {l : List Ho} (h : l = []) : ∀ s, false = tkn l s := fun s => by rw [h]; rfl

set_option maxRecDepth 20000 in
set_option maxHeartbeats 16000000 in
theorem poolApart_t (s : Int) (xs : List Int) (v : Value) (w : World) (hX : Ints w v xs) (hxl : xs.length ≤ 9223372036854775807) :
    Calls Try.prog 4 #[.int .i64 s, v] w fun e w' => e = .returned (.bool true) ∧ Below w.heap.size w w' := by
  obtain ⟨xa, xc, rfl, -, -, hx⟩ := hX
  have HX := poolhid hx
  have AW := poolhid awake_t12
  have PS := poolhid (fun W => gplace_t s 200 W (by decide) (by decide))
  have P30 := poolhid (fun x W => gplace_t x 30 W (by decide) (by decide))
  obtain ⟨n, hn⟩ : ∃ n : Nat, s % 200 = (n : Int) := ⟨(s % 200).toNat, by omega⟩
  have hn2 : n < 200 := by omega
  have hcn : cutN (n : Int) = n := by unfold cutN; omega
  have FK := poolhid (fun l v W (h : Houses W v l) h1 h2 => free_t12 n l v W h h1 h2)
  have TK := poolhid (fun k l v W (h : Houses W v l) h1 h2 => take_t12 n k l v W h h1 h2)
  rw [hn] at PS
  rw [hcn] at FK TK
  have hz0 := seenZero
  obtain ⟨Z, hZ⟩ : ∃ Z, Z = seenC (fun _ => false) := ⟨_, rfl⟩
  rw [← hZ] at hz0
  have HZ := poolhid hZ
  clear hn hx hcn hZ
  go_enter Try.func4, Try.ntmps4
  go_wp2_with fail
  refine (PS.out _).mono ?_
  rintro _ w1 ⟨rfl, rfl⟩
  go_wp2_with fail
  clear PS
  generalize hW : World.alloc w _ = W
  have HSE : Hid (Seen W w.heap.size (fun _ => false)) := by rw [← hW, HZ.out]; exact heap_alloc_new _ _
  have HB : Hid (Below w.heap.size w W) := by rw [← hW]; exact (Below.refl _ w).alloc (Nat.le_refl _) _
  have HW1 : Hid (w.heap.size + 1 ≤ W.heap.size) := by rw [← hW]; simp [Hid]
  clear hW
  go_loopw [6, 7, 9] (fun vl vu vi wr => ∃ (i u : Nat) (L : List (Ho × Value)), vi = .int .i64 i ∧ i ≤ xs.length ∧ i ≤ 16 ∧ vu = .int .i64 u ∧ u ≤ n ∧ Hid (L.length ≤ i) ∧ Hid (HOwn wr (w.heap.size + 1) vl L) ∧ Hid (∀ p ∈ L, p.1.segs.length ≤ 30) ∧ Hid (∀ p ∈ L, ∀ k, p.2.ownBlock = some k → w.heap.size < k) ∧
    Hid (Seen wr w.heap.size (tkn (L.map (·.1)))) ∧ Hid ((freeL (L.map (·.1)) n).length + u = n) ∧ Hid (Below w.heap.size w wr)) (fun _ _ vi _ => xs.length - (intOf vi).toNat)
  case atStart => exact ⟨0, 0, [], rfl, by omega, by omega, rfl, by omega, Nat.le_refl _, HOwn.nil _ _, (fun p hp => by cases hp), (fun p hp => by cases hp), HSE, by have := freeL_cnt [] n; rw [cnt_none (S := tkn []) (fun _ => rfl)] at this; exact this, HB⟩
  case round =>
    obtain ⟨i, u, L, rfl, hi, hi16, rfl, hu, HL, HO, HS, HA, HSN, HLEN, HB⟩ := hrel
    obtain ⟨W0, rfl⟩ : ∃ W0, W0 = wr := ⟨wr, rfl⟩
    have hsz : w.heap.size ≤ W0.heap.size := HB.out.size
    have HM1 : Hid ((L.map (·.1)).length ≤ 9223372036854775807) := by have := HL.out; show _ ≤ _; rw [List.length_map]; omega
    have HM2 : Hid (∀ x ∈ L.map (·.1), x.segs.length ≤ 9223372036854775807) := fun x hx => by
      obtain ⟨p, hp, rfl⟩ := List.mem_map.1 hx
      exact Nat.le_trans (HS.out p hp) (by decide)
    by_cases hil : i < xs.length
    · by_cases h16 : i < 16
      · obtain ⟨xb, xo, rfl, hxb, hcell⟩ := HX.out (by omega)
        have cx : W0.cell? ⟨xb, xo + i, none⟩ = some (.int .i64 xs[i]) := by rw [HB.out.cell hxb]; exact hcell i hil
        have P2 := poolhid (fun W => P30.out xs[i] W)
        clear hcell HX
        obtain ⟨k, hk⟩ : ∃ k : Nat, xs[i] % 30 = (k : Int) := ⟨(xs[i] % 30).toNat, by omega⟩
        have hk30 : k < 30 := by omega
        rw [hk] at P2
        generalize xs[i] = x at *
        clear hk
        go_wp2_with fail
        refine (P2.out _).mono ?_
        rintro _ w1 ⟨rfl, rfl⟩
        go_wp2_with fail
        refine (TK.out _ _ _ _ HO.out.houses HM1.out HM2.out).mono ?_
        rintro _ w1 ⟨r, ok, m, rfl, hT, hI, hR, hB1⟩
        have HT := poolhid hT
        have HI := poolhid hI
        have HR := poolhid hR
        have HO2 := poolhid (HO.out.on hB1)
        have HSN2 := poolhid (HSN.out.on hB1)
        have HB2 : Hid (Below w.heap.size w w1) := HB.out.trans (hB1.mono HB.out.size)
        have HSEP : Hid (∀ g, r.ownBlock = some g → g < w1.heap.size ∧ u6.ownBlock ≠ some g ∧ w.heap.size < g) := fun g hg => by
          have h1 := hR g hg
          have h3 := HSN.out.lt
          exact ⟨h1.2, fun e => by have := (HO.out.lt g e).2; omega, by omega⟩
        have hsz1 : w.heap.size < w1.heap.size := HSN2.out.lt
        clear hT hI hR hB1 HO HSN HB HR
        obtain ⟨ra, rc, hr, -, hrc, hrs⟩ := HI.out
        subst hr
        have HRS := poolhid hrs
        clear hrs
        rcases HT.out with ⟨rfl, -, hkF, hm⟩ | ⟨rfl, hkF, rfl⟩
        · rw [Int.toNat_natCast] at hm
          have hml : m.length = k := by rw [hm, List.length_take]; omega
          have hku : u + k ≤ n := by have := HLEN.out; omega
          have HMK := poolhid hm
          have HML := poolhid hml
          obtain ⟨kk, hkk⟩ : ∃ kk, kk = m.length := ⟨_, rfl⟩
          rw [← hkk]
          have hkk2 : kk = k := by rw [hkk, hml]
          subst hkk2
          clear hml hkk hm HT hkF
          have HTA := poolhid (fun j x (h : m[j]? = some x) => take_is (l := L.map (·.1)) (n := n) HMK.out h)
          go_wp2_with fail
          go_loopw [13] (fun vj wq => ∃ j : Nat, vj = .int .i64 j ∧ j ≤ kk ∧ Hid (Seen wq w.heap.size (fun s => tkn (L.map (·.1)) s || inL (m.take j) s)) ∧ Hid (w1.grownBy wq (some w.heap.size))) (fun vj _ => kk - (intOf vj).toNat)
          case atStart => exact ⟨0, rfl, by omega, HSN2.out.same (fun s => by simp [inL]), ⟨rfl, rfl, rfl, Nat.le_refl _, fun _ _ _ => rfl⟩⟩
          case round =>
            obtain ⟨j, rfl, hj, HSJ, HG⟩ := hrel
            by_cases hjk : j < kk
            · have hjm : j < m.length := by rw [HML.out]; exact hjk
              obtain ⟨bk, o, rfl, hbk, hcm⟩ := HRS.out (by omega)
              have hBk : w.heap.size < bk := (HSEP.out bk rfl).2.2
              have hcell : ∀ (t : Nat) (z : Int), m[t]? = some z → wr.cell? ⟨bk, o + t, none⟩ = some (.int .i64 z) := fun t z hz => by
                obtain ⟨ht, rfl⟩ := List.getElem?_eq_some_iff.1 hz
                rw [HG.out.cell_far _ hbk (by intro e; injection e with e; have e2 : bk = w.heap.size := e; omega)]
                exact hcm t ht
              obtain ⟨x2, hx2⟩ : ∃ x, m[j]? = some x := ⟨_, List.getElem?_eq_getElem hjm⟩
              have c1 := hcell j x2 hx2
              have HST := poolhid (inL_take? hx2)
              obtain ⟨y, rfl, hyn, hyt, hyi, hyz⟩ := HTA.out j x2 hx2
              have cs : wr.cell? ⟨w.heap.size, y, none⟩ = some (.bool false) := by rw [HSJ.out.cell y (by omega), hyt, hyi]; rfl
              have f0 := HSJ.out.frozen y
              have hy2 : y < 200 := by omega
              have r1 : decide ((y : Int) < 0) = false := decide_eq_false (by omega)
              have r2 : decide (n ≤ y) = false := decide_eq_false (by omega)
              have r2i : decide ((n : Int) ≤ (y : Int)) = false := decide_eq_false (by omega)
              have HSK : Hid (∀ nq, Seen ((wr.drewN nq).setCell ⟨w.heap.size, y, none⟩ (.bool true)) w.heap.size (fun s => tkn (L.map (·.1)) s || inL (m.take (j + 1)) s)) := fun nq =>
                ((show Seen (wr.drewN nq) w.heap.size _ from HSJ.out).set y hy2).same (fun s => by rw [Bool.or_assoc, HST.out])
              have HGK : Hid (∀ nq, w1.grownBy ((wr.drewN nq).setCell ⟨w.heap.size, y, none⟩ (.bool true)) (some w.heap.size)) := fun nq =>
                (show w1.grownBy (wr.drewN nq) (some w.heap.size) from ⟨HG.out.os, HG.out.tape, HG.out.output, HG.out.size, HG.out.block⟩).trans (grown_setCell _ _ _ _)
              have HCELL := poolhid hcell
              clear hcm hcell hx2 HST hyt hyi HSJ HG
              by_cases hj0 : 0 < j
              · obtain ⟨z, hz, hzy⟩ := hyz hj0
                have c2 := HCELL.out (j - 1) _ hz
                have r3 : decide (y ≤ z) = false := decide_eq_false (by omega)
                have r3i : decide ((y : Int) ≤ (z : Int)) = false := decide_eq_false (by omega)
                have r4 : decide (0 < j) = true := decide_eq_true hj0
                have r4i : decide ((0 : Int) < (j : Int)) = true := decide_eq_true (by omega)
                clear hz hyz HCELL
                go_wp2_with fail
                go_quiet (fail)
                go_wp2_with fail
                exact ⟨⟨j + 1, by go_num, by omega, HSK.out nq, HGK.out nq⟩, by simp [intOf]; omega⟩
              · have hj00 : j = 0 := by omega
                subst hj00
                rw [Nat.add_zero] at c1
                clear hyz HCELL
                go_wp2_with fail
                go_quiet (fail)
                go_wp2_with fail
                exact ⟨⟨1, by go_num, by omega, HSK.out nq, HGK.out nq⟩, by simp [intOf]; omega⟩
            · have hjk2 : j = kk := by omega
              subst hjk2
              have hLl : L.length ≤ 16 := by have := HL.out; omega
              have HSF : Hid (Seen wr w.heap.size (fun s => tkn (L.map (·.1)) s || inL m s)) := by
                have h1 := HSJ.out
                rw [← HML.out, List.take_length] at h1
                exact h1
              have HO3 := poolhid (HO2.out.kept (by omega) HA.out HG.out)
              have HI3 := poolhid (HI.out.kept HG.out (fun g hg e => by
                injection e with e
                have := (HSEP.out g hg).2.2
                omega))
              rw [HML.out] at HI3
              have HSEP3 : Hid (∀ g, (Value.slice ra j rc).ownBlock = some g → g < wr.heap.size ∧ u6.ownBlock ≠ some g ∧ w.heap.size < g) := fun g hg => by
                have hg2 : (Value.slice ra m.length rc).ownBlock = some g := by cases ra <;> exact hg
                exact ⟨Nat.lt_of_lt_of_le (HSEP.out g hg2).1 HG.out.size, (HSEP.out g hg2).2⟩
              have HB3 : Hid (Below w.heap.size w wr) := HB2.out.grown HG.out (by omega) (fun g hg => by injection hg with hg; omega)
              have hsz3 : w.heap.size < wr.heap.size := HSF.out.lt
              clear HSJ HG HO2 HSN2 HB2 HSEP HI HTA HRS
              go_wp2_with (first
                | (refine wpList_append_house rfl _ _ rfl (w.heap.size + 1) u6 L rfl (HO3.out.on ((Below.refl _ _).alloc (Nat.le_refl _) _)) wr.heap.size 1 ⟨_, 0, Lm.z, m⟩ (.slice ra j rc) rfl _ _ (heap_alloc_new _ _) (HI3.out.on ((Below.refl _ _).alloc (Nat.le_refl _) _)) (fun g hg => ⟨by have := (HSEP3.out g hg).1; simp; omega, (HSEP3.out g hg).2.1⟩) (by omega) (by simp; omega) ?_)
                | fail)
              intro v' w2 hO4 hB5 hle
              generalize hh : (⟨1, 0, Lm.z, m⟩ : Ho) = h at hO4
              have hsg : h.segs = m := by rw [← hh]
              obtain ⟨L2, hL2⟩ : ∃ L2, L2 = L ++ [(h, .slice ra j rc)] := ⟨_, rfl⟩
              rw [← hL2] at hO4
              have HO4 := poolhid hO4
              have hmap : L2.map (·.1) = L.map (·.1) ++ [h] := by rw [hL2]; simp
              have HLL : Hid (L2.length ≤ i + 1) := by show _ ≤ _; rw [hL2, List.length_append]; have := HL.out; simp; omega
              have HSS : Hid (∀ p ∈ L2, p.1.segs.length ≤ 30) := fun p hp => by
                rw [hL2] at hp
                rcases List.mem_append.1 hp with hp | hp
                · exact HS.out p hp
                · rw [List.mem_singleton] at hp
                  rw [hp]
                  show h.segs.length ≤ 30
                  rw [hsg, HML.out]
                  omega
              have HAA : Hid (∀ p ∈ L2, ∀ g, p.2.ownBlock = some g → w.heap.size < g) := fun p hp => by
                rw [hL2] at hp
                rcases List.mem_append.1 hp with hp | hp
                · exact HA.out p hp
                · rw [List.mem_singleton] at hp
                  rw [hp]
                  exact fun g hg => (HSEP3.out g hg).2.2
              have hal : Below (w.heap.size + 1) wr (wr.alloc (.cells #[.int .i64 1, .int .i64 0, .int .i64 0, .int .i64 0, .int .i64 0, .int .i64 0, .int .i64 0, .int .i64 0, .int .i64 0, .slice ra j rc] 36)) := (Below.refl _ _).alloc (by omega) _
              have HSF2 : Hid (Seen w2 w.heap.size (tkn (L2.map (·.1)))) := by
                have h1 := (HSF.out.keep (Nat.lt_succ_self _) hal).keep (Nat.lt_succ_self _) hB5
                rw [hmap]
                exact h1.same (fun s => by rw [tkn_app, tkn_one, hsg])
              have HLN2 : Hid ((freeL (L2.map (·.1)) n).length + (u + j) = n) := by
                show _ = _
                rw [hmap, freeL_take h (by rw [hsg]; exact HMK.out), List.length_drop]
                have := HLEN.out
                omega
              have HB5 : Hid (Below w.heap.size w w2) := (HB3.out.trans (hal.mono (by omega))).trans (hB5.mono (by omega))
              clear hO4 hB5 hle hh hL2 hmap hal hsg HO3 HI3 HSEP3 HB3 HSF HS HA HL HLEN HMK HML
              go_wp2_with fail
              exact ⟨⟨i + 1, u + j, L2, by go_num, by omega, by omega, by go_num, by omega, HLL, HO4, HSS, HAA, HSF2, HLN2, HB5⟩, by simp [intOf]; omega⟩
        · have hku : n < u + k := by have := HLEN.out; omega
          have d0 : decide (u + k ≤ n) = false := decide_eq_false (by omega)
          have d1 : decide ((u : Int) + (k : Int) ≤ (n : Int)) = false := decide_eq_false (by omega)
          clear HT hkF HI HRS HSEP hrc
          go_wp2_with fail
          go_loopw [13] (fun vj wq => vj = .int .i64 0 ∧ w1 = wq) (fun _ _ => 0)
          case atStart => exact ⟨rfl, rfl⟩
          case round =>
            obtain ⟨rfl, rfl⟩ := hrel
            go_wp2_with fail
            have HLL : Hid (L.length ≤ i + 1) := Nat.le_succ_of_le HL.out
            exact ⟨⟨i + 1, u, L, by go_num, by omega, by omega, rfl, by omega, HLL, HO2, HS, HA, HSN2, HLEN, HB2⟩, by simp [intOf]; omega⟩
      · have hi2 : i = 16 := by omega
        subst hi2
        go_wp2_with fail
        refine (FK.out _ _ _ HO.out.houses HM1.out HM2.out).mono ?_
        rintro _ w1 ⟨r, rfl, hO1, hB1⟩
        obtain ⟨ad, cap, rfl⟩ := hO1.slice
        have HB1 : Hid (Below w.heap.size w w1) := HB.out.trans (hB1.mono hsz)
        have hln := HLEN.out
        clear hO1 hB1 HO HSN HB HLEN
        generalize (freeL (L.map (·.1)) n).length = lf at *
        have hlf : ((lf : Int) == (n : Int) - (u : Int)) = true := by rw [beq_iff_eq]; omega
        clear hln
        go_wp2_with fail
        refine (AW.out _).mono ?_
        rintro _ w2 ⟨rfl, hB⟩
        have HB2 : Hid (Below w.heap.size w w2) := HB1.out.trans (hB.mono HB1.out.size)
        clear hB HB1
        go_wp2_with fail
        go_ret
        exact ⟨rfl, HB2.out⟩
    · go_wp2_with fail
      refine (FK.out _ _ _ HO.out.houses HM1.out HM2.out).mono ?_
      rintro _ w1 ⟨r, rfl, hO1, hB1⟩
      obtain ⟨ad, cap, rfl⟩ := hO1.slice
      have HB1 : Hid (Below w.heap.size w w1) := HB.out.trans (hB1.mono hsz)
      have hln := HLEN.out
      clear hO1 hB1 HO HSN HB HLEN
      generalize (freeL (L.map (·.1)) n).length = lf at *
      have hlf : ((lf : Int) == (n : Int) - (u : Int)) = true := by rw [beq_iff_eq]; omega
      clear hln
      go_wp2_with fail
      refine (AW.out _).mono ?_
      rintro _ w2 ⟨rfl, hB⟩
      have HB2 : Hid (Below w.heap.size w w2) := HB1.out.trans (hB.mono HB1.out.size)
      clear hB HB1
      go_wp2_with fail
      go_ret
      exact ⟨rfl, HB2.out⟩
end Go.Proofs.Ytlpcofmifpgflaa
