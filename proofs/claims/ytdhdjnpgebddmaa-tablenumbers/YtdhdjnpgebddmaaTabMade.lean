/- The laws' own made: houses by numbers, walked. -/
import Derived.Test.YtdhdjnpgebddmaaTabMadePlain
namespace Go.Proofs.Ytdhdjnpgebddmaa
open Go.RowKit Tab

theorem mh_zero {xs : List Int} {i : Nat} (h : mv xs i % 3 = 0) : mh xs i = ⟨0, mv xs i % 65536, Lm.z, []⟩ ∧ nx xs (i + 1) = nx xs i := by
  simp only [mh, mdHouse, nx, mdNext, if_pos h, and_self]
theorem mh_more {xs : List Int} {i : Nat} (h : ¬ mv xs i % 3 = 0) : mh xs i = ⟨1 + mv xs i % 2, 1 + mv xs i % 65535, limOf (mv xs i), mdSegs (nx xs i) (mdStep (mv xs i)) (8 + mv xs i % 4).toNat⟩ ∧ nx xs (i + 1) = nx xs i + (8 + mv xs i % 4) * mdStep (mv xs i) := by
  simp only [mh, mdHouse, nx, mdNext, if_neg h, and_self]
theorem mv_get {xs : List Int} {i : Nat} (h : i < xs.length) : mv xs i = xs[i] % 1048576 := by
  simp [mv, h]
theorem set_map_of {L : List (Ho × Value)} {xs : List Int} {i : Nat} {q : Ho × Value} (h : L.map (·.1) = mdL xs i) (hq : q.1 = mh xs i) : (L.set i q).map (·.1) = mdL xs (i + 1) := by
  rw [List.map_set, h, mdL_succ, hq]
theorem fresh_set {L : List (Ho × Value)} {i : Nat} {q : Ho × Value} (h : ∀ t (h : t < L.length), i ≤ t → L[t] = (Ho.z, .slice none 0 0)) : ∀ t (h : t < (L.set i q).length), i + 1 ≤ t → (L.set i q)[t] = (Ho.z, .slice none 0 0) := by
  intro t ht hle
  rw [List.getElem_set, if_neg (by omega)]
  exact h t (by simpa using ht) (by omega)

set_option maxRecDepth 4000 in
set_option maxHeartbeats 8000000 in
theorem made_t (xs : List Int) (v : Value) (w : World) (hI : Ints w v xs) (hl : xs.length ≤ 9223372036854775807) :
    Calls Try.prog 20 #[v] w fun e w' => e = .returned (.slice (some ⟨w.heap.size, 0, none⟩) 16 16) ∧ (∃ L : List (Ho × Value), L.length = 16 ∧ L.map (·.1) = mdL xs (min xs.length 16) ∧ MRow w' w.heap.size L) ∧ Below w.heap.size w w' := by
  obtain ⟨i0, hi0, hz0, hz1, hz2⟩ := info_parts Try.tabInfo3
  obtain ⟨ad, cap, rfl, _, hc⟩ := hI
  have HC := tabhid hc
  clear hc
  have hmk := make16 w
  obtain ⟨V0, hV⟩ : ∃ V, V = w.alloc (.cells none16c 42) := ⟨_, rfl⟩
  rw [← hV] at hmk
  have HR0 : Hid (MRow V0 w.heap.size none16) := by rw [hV]; exact MRow.new w
  have HB0 : Hid (Below w.heap.size w V0) := by rw [hV]; exact (Below.refl _ w).alloc (Nat.le_refl _) _
  clear hV
  go_enter Try.func20, Try.ntmps20
  go_wp2_with fail
  go_loopw [4, 5] (fun nn c wr => ∃ (i : Nat) (n0 : Int) (L : List (Ho × Value)), i ≤ 16 ∧ i ≤ xs.length ∧ c = .int .i64 i ∧ nn = .int .i64 n0 ∧ 0 ≤ n0 ∧ n0 ≤ 1000 ∧ Hid (n0 = nx xs i) ∧ L.length = 16 ∧ Hid (L.map (·.1) = mdL xs i) ∧ Hid (∀ t (h : t < L.length), i ≤ t → L[t] = (Ho.z, .slice none 0 0)) ∧ Hid (MRow wr w.heap.size L) ∧ Hid (Below w.heap.size w wr)) (fun _ c _ => 16 - (intOf c).toNat)
  case atStart => exact ⟨0, 0, none16, by omega, by omega, rfl, rfl, by omega, by omega, rfl, rfl, by show _ = _; rw [none16_map, mdL_zero], (fun t h _ => List.getElem_replicate ..), HR0, HB0⟩
  case round =>
    clear HR0 HB0 hmk
    obtain ⟨i, n0, L, hi16, hil, rfl, rfl, hn0, hn1, HN, hL, HM, HF, HR, HB⟩ := hrel
    have hBl := tabhid HR.out.row.lt
    by_cases hlt : i < 16 ∧ i < xs.length
    · obtain ⟨hlt1, hlt2⟩ := hlt
      obtain ⟨b, off, rfl, hb, hcell⟩ := HC.out (by omega)
      have c0 : wr.cell? ⟨b, off + i, none⟩ = some (.int .i64 xs[i]) := by rw [HB.out.cell hb]; exact hcell i hlt2
      have hiL : i < L.length := by omega
      have hLi := HF.out i hiL (Nat.le_refl _)
      have z1 : wr.cell? ⟨w.heap.size, i * 10 + 1, none⟩ = some (.int .i64 0) := by
        rw [HR.out.row.cell i 1 hiL (by decide), hLi]
        rfl
      have f1 : wr.frozen? ⟨w.heap.size, i * 10 + 1, none⟩ = false := HR.out.row.frozen _
      have PL := tabhid (fun w => gplace_t xs[i] 1048576 w (by decide) (by decide))
      have LI := tabhid (fun w => limit_t xs[i] w)
      have HV : Hid (mv xs i = xs[i] % 1048576) := mv_get hlt2
      have hv0 := Int.emod_nonneg xs[i] (show (1048576 : Int) ≠ 0 by decide)
      have hv1 := Int.emod_lt_of_pos xs[i] (show (0 : Int) < 1048576 by decide)
      have bne : ¬ b = w.heap.size := by omega
      generalize xs[i] = x at *
      generalize x % 1048576 = V at *
      clear hcell
      have HR1 : Hid (MRow (wr.setCell ⟨w.heap.size, i * 10 + 1, none⟩ (.int .i64 (V % 65536))) w.heap.size (L.set i (⟨0, V % 65536, Lm.z, []⟩, .slice none 0 0))) :=
        HR.out.field i 1 _ _ hiL (by decide) (by rw [hLi]; rfl) (by rw [hLi]; rfl) (by rw [hLi])
      have HB1 : Hid (Below w.heap.size w (wr.setCell ⟨w.heap.size, i * 10 + 1, none⟩ (.int .i64 (V % 65536)))) := HB.out.setCell (Nat.le_refl _) _
      have HLI := tabhid hLi
      clear hLi
      go_wp2_with fail
      refine (PL.out _).mono ?_
      rintro e w' ⟨rfl, rfl⟩
      clear PL
      by_cases h3 : V % 3 = 0
      · have h3b : (V % 3 == 0) = true := by rw [h3]; rfl
        have HZ := tabhid (mh_zero (xs := xs) (i := i) (by rw [HV.out]; exact h3))
        clear h3 LI
        go_wp2_with fail
        refine ⟨⟨i + 1, n0, _, by omega, by omega, by go_num, rfl, hn0, hn1, ?_, ?_, ?_, fresh_set HF.out, HR1, HB1⟩, by simp [intOf]; omega⟩
        · rw [HZ.out.2]
          exact HN
        · rw [List.length_set]
          exact hL
        · exact set_map_of HM.out (by rw [HZ.out.1, HV.out])
      · have h3b : (V % 3 == 0) = false := by rw [beq_eq_false_iff_ne]; exact h3
        have HZ := tabhid (mh_more (xs := xs) (i := i) (by rw [HV.out]; exact h3))
        rw [HV.out] at HZ
        clear h3
        obtain ⟨X, hX⟩ : ∃ X, X = limOf V := ⟨_, rfl⟩
        rw [← hX] at LI HZ
        have hXs : X.s = 8 + V % 4 := by rw [hX]; rfl
        have HXs := tabhid hXs
        have hxs0 : 8 ≤ X.s := by omega
        have hxs1 : X.s ≤ 11 := by omega
        clear hX hXs
        obtain ⟨W1, hW1⟩ : ∃ W, W = wr.setCell ⟨w.heap.size, i * 10 + 1, none⟩ (.int .i64 (V % 65536)) := ⟨_, rfl⟩
        rw [← hW1] at HR1 HB1
        have c1 : W1.cell? ⟨b, off + i, none⟩ = some (.int .i64 x) := by
          rw [HB1.out.cell hb, ← HB.out.cell hb]
          exact c0
        have HW1 := tabhid hW1
        clear hW1
        go_wp2_with fail
        rw [← HW1.out]
        refine (LI.out _).mono ?_
        rintro e w1 ⟨rfl, hb1⟩
        rw [show limV X = .agg #[.int .i64 X.s, .int .i64 X.hb, .int .i64 X.sb, .int .i64 X.hn, .int .i64 X.sn, .int .i64 X.gr, .int .i64 X.bu] from rfl]
        have HR2 : Hid (MRow w1 w.heap.size (L.set i (⟨0, V % 65536, Lm.z, []⟩, .slice none 0 0))) := HR1.out.on hb1
        have HB2 : Hid (Below w.heap.size w w1) := HB1.out.trans (hb1.mono HB1.out.size)
        have hiM : i < (L.set i (⟨0, V % 65536, Lm.z, []⟩, Value.slice none 0 0)).length := by rw [List.length_set]; exact hiL
        clear hb1 LI HR1 HB1 HW1 c1 z1 f1 c0
        have z0 : w1.cell? ⟨w.heap.size, i * 10, none⟩ = some (.int .i64 0) := by
          have := HR2.out.row.cell i 0 hiM (by decide)
          rw [List.getElem_set_self] at this
          exact this
        have z1 : w1.cell? ⟨w.heap.size, i * 10 + 1, none⟩ = some (.int .i64 (V % 65536)) := by
          have := HR2.out.row.cell i 1 hiM (by decide)
          rw [List.getElem_set_self] at this
          exact this
        have z2 : w1.cell? ⟨w.heap.size, i * 10 + 2, none⟩ = some (.int .i64 0) := by
          have := HR2.out.row.cell i 2 hiM (by decide)
          rw [List.getElem_set_self] at this
          exact this
        have z3 : w1.cell? ⟨w.heap.size, i * 10 + 3, none⟩ = some (.int .i64 0) := by
          have := HR2.out.row.cell i 3 hiM (by decide)
          rw [List.getElem_set_self] at this
          exact this
        have z4 : w1.cell? ⟨w.heap.size, i * 10 + 4, none⟩ = some (.int .i64 0) := by
          have := HR2.out.row.cell i 4 hiM (by decide)
          rw [List.getElem_set_self] at this
          exact this
        have z5 : w1.cell? ⟨w.heap.size, i * 10 + 5, none⟩ = some (.int .i64 0) := by
          have := HR2.out.row.cell i 5 hiM (by decide)
          rw [List.getElem_set_self] at this
          exact this
        have z6 : w1.cell? ⟨w.heap.size, i * 10 + 6, none⟩ = some (.int .i64 0) := by
          have := HR2.out.row.cell i 6 hiM (by decide)
          rw [List.getElem_set_self] at this
          exact this
        have z7 : w1.cell? ⟨w.heap.size, i * 10 + 7, none⟩ = some (.int .i64 0) := by
          have := HR2.out.row.cell i 7 hiM (by decide)
          rw [List.getElem_set_self] at this
          exact this
        have z8 : w1.cell? ⟨w.heap.size, i * 10 + 8, none⟩ = some (.int .i64 0) := by
          have := HR2.out.row.cell i 8 hiM (by decide)
          rw [List.getElem_set_self] at this
          exact this
        have z9 : w1.cell? ⟨w.heap.size, i * 10 + 9, none⟩ = some (.slice none 0 0) := by
          have := HR2.out.row.cell i 9 hiM (by decide)
          rw [List.getElem_set_self] at this
          exact this
        have fz : ∀ j, w1.frozen? ⟨w.heap.size, j, none⟩ = false := fun j => HR2.out.row.frozen j
        have HPUT := tabhid (HR2.out.row.put i ⟨1 + V % 2, 1 + V % 65535, X, []⟩ (.slice none 0 0) hiM)
        rw [List.set_set] at HPUT
        go_wp2_with fail
        obtain ⟨d, hd⟩ : ∃ d, d = mdStep V := ⟨_, rfl⟩
        have hd2 : d = 1 + V / 7 % 3 := hd
        have hd0 : 1 ≤ d := by omega
        have hd1 : d ≤ 3 := by omega
        have HD := tabhid hd2
        rw [← hd] at HZ
        clear hd hd2
        go_loopw [4, 7] (fun nn c w2 => ∃ (j : Nat) (P : Int) (sv : Value), (j : Int) ≤ X.s ∧ c = .int .i64 j ∧ nn = .int .i64 P ∧ 0 ≤ P ∧ P ≤ 1000 + 3 * (j : Int) ∧ Hid (P = n0 + (j : Int) * d) ∧ Hid (MRow w2 w.heap.size (L.set i (⟨1 + V % 2, 1 + V % 65535, X, mdSegs n0 d j⟩, sv))) ∧ Hid (Below w.heap.size w w2)) (fun _ c _ => (X.s - intOf c).toNat)
        case atStart =>
          refine ⟨0, n0, .slice none 0 0, by omega, rfl, rfl, hn0, by omega, by show _ = _; simp, ?_, ?_⟩
          · have hq := HR2.out.turn (w' := _) i hiM (⟨1 + V % 2, 1 + V % 65535, X, []⟩, .slice none 0 0) (by rw [List.set_set]; exact HPUT.out) ⟨rfl, .inl ⟨rfl, rfl⟩⟩ (fun t ht hne g hg => ⟨by
              have := (own_lt (HR2.out.own _ (List.getElem_mem ht)) hg).1
              repeat rw [Below.heap_setCell _ _ _ _ (by show g ≠ w.heap.size; omega)], by simp [Value.ownBlock]⟩)
            rw [List.set_set] at hq
            exact hq
          · iterate 10 refine Below.setCell ?_ (show w.heap.size ≤ w.heap.size from Nat.le_refl _) _
            exact HB2.out
        case round =>
          clear z0 z1 z2 z3 z4 z5 z6 z7 z8 z9 fz HPUT
          obtain ⟨j, P, sv, hj, rfl, rfl, hP0, hP1, HP, HM3, HB3⟩ := hrel
          rename World => w2
          have hiS : i < (L.set i (⟨1 + V % 2, 1 + V % 65535, X, mdSegs n0 d j⟩, sv)).length := by rw [List.length_set]; exact hiL
          have hgS : (L.set i (⟨1 + V % 2, 1 + V % 65535, X, mdSegs n0 d j⟩, sv))[i] = (⟨1 + V % 2, 1 + V % 65535, X, mdSegs n0 d j⟩, sv) := List.getElem_set_self ..
          have hB2l : w.heap.size < w2.heap.size := HM3.out.row.lt
          have c2 : w2.cell? ⟨w.heap.size, i * 10 + 2, none⟩ = some (.int .i64 X.s) := by
            rw [HM3.out.row.cell i 2 hiS (by decide), hgS]
            rfl
          have c9 : w2.cell? ⟨w.heap.size, i * 10 + 9, none⟩ = some sv := by
            rw [HM3.out.row.cell i 9 hiS (by decide), hgS]
            rfl
          have HGS := tabhid hgS
          clear hgS
          have HO := tabhid (HM3.out.own _ (List.getElem_mem hiS))
          rw [HGS.out] at HO
          have HO2 : Hid (w2.ownsRow (w.heap.size + 1) 3 1 sv j (icells (mdSegs n0 d j))) := by
            have := HO.out
            rw [mdSegs_length] at this
            exact this
          have hown : sv.ownBlock ≠ some w.heap.size := fun h => by have := (own_lt HO2.out h).1; omega
          clear HO
          by_cases hjs : (j : Int) < X.s
          · obtain ⟨y, hy⟩ : ∃ y, y = P + 1 + V / 7 % 3 := ⟨_, rfl⟩
            have hyd : y = P + d := by rw [hy, HD.out]; omega
            have hj11 : j ≤ 10 := by omega
            have HSN : Hid (mdSegs n0 d (j + 1) = mdSegs n0 d j ++ [y]) := by
              show _ = _
              rw [mdSegs_succ, hyd, HP.out, Int.add_mul]
              congr 2
              omega
            have HY : Hid (y = n0 + ((j + 1 : Nat) : Int) * d) := by
              show _ = _
              rw [hyd, HP.out]
              have : ((j + 1 : Nat) : Int) * d = (j : Int) * d + d := by rw [Int.natCast_add, Int.add_mul]; simp
              omega
            have hy0 : 0 ≤ y := by omega
            have hy1 : y ≤ 1000 + 3 * ((j + 1 : Nat) : Int) := by omega
            have HYE : Hid (P + 1 + V / 7 % 3 = y) := hy.symm
            clear hy hyd
            go_wp2_with (first | (rw [HYE.out]; refine wpList_append_lies _ rfl _ _ 36 rfl (w.heap.size + 1) 3 i0 _ 1 8 Try.underlying36 hi0 hz0 hz1 hz2 rfl (by decide) sv j (icells (mdSegs n0 d j)) rfl ?_ ⟨w2.heap.size, 0, none⟩ 1 1 [.int .i64 y] rfl rfl ?_ (by simp [Value.oneCell']) (by decide) (by unfold maxLen; omega) (by omega) ?_ (w2.heap.size + 1) (by simp) ?_) | fail)
            · exact ownsRow_on HO2.out ((Below.refl _ _).alloc (Nat.le_refl _) _)
            · exact World.news_of_block (cs := #[.int .i64 y]) (t := 3) (fr := (0, 0)) (heap_alloc_new w2 _)
            · simp; omega
            intro g cap7 w7 hown7 hgrow7 hat7 hlt7
            have c97 : w7.cell? ⟨w.heap.size, i * 10 + 9, none⟩ = some sv := by
              rw [hgrow7.cell_far _ (by simp; omega) (Ne.symm hown), ((Below.refl w2.heap.size w2).alloc (Nat.le_refl _) _).cell hB2l]
              exact c9
            have f97 : w7.frozen? ⟨w.heap.size, i * 10 + 9, none⟩ = false := by
              rw [hgrow7.frozen_far _ (by simp; omega) (Ne.symm hown), ((Below.refl w2.heap.size w2).alloc (Nat.le_refl _) _).frozen hB2l]
              exact HM3.out.row.frozen _
            have HM8 : Hid (MRow (w7.setCell ⟨w.heap.size, i * 10 + 9, none⟩ (.slice (some ⟨g, 0, none⟩) (j + 1) cap7)) w.heap.size (L.set i (⟨1 + V % 2, 1 + V % 65535, X, mdSegs n0 d (j + 1)⟩, .slice (some ⟨g, 0, none⟩) (j + 1) cap7))) := by
              have := HM3.out.step (w7 := w7) (g := g) (cap := cap7) (y := y) (q := ⟨1 + V % 2, 1 + V % 65535, X, mdSegs n0 d (j + 1)⟩) (n := j + 1) hiS (by rw [HGS.out]; exact hgrow7) (by show World.ownsRow _ _ _ _ _ _ _; rw [HSN.out, icells_append]; exact hown7) (by show _ = (mdSegs n0 d (j + 1)).length; rw [mdSegs_length]) (by rw [HGS.out]; exact hat7) (by rw [HGS.out]; rfl)
              rw [List.set_set] at this
              exact this
            have HW8 : Hid (Below w.heap.size w (w7.setCell ⟨w.heap.size, i * 10 + 9, none⟩ (.slice (some ⟨g, 0, none⟩) (j + 1) cap7))) := ((HB3.out.alloc HB3.out.size _).grown hgrow7 (by simp; omega) (fun q hq => by have := (own_lt HO2.out hq).1; omega)).setCell (Nat.le_refl _) _
            clear hown7 hgrow7 hat7 HM3 HB3 HO2 c9 c2 HSN hown HGS
            go_wp2_with fail
            exact ⟨⟨j + 1, y, _, by omega, by go_num, rfl, hy0, hy1, HY, HM8, HW8⟩, by simp [intOf]; omega⟩
          · have hjs2 : (j : Int) = X.s := by omega
            have hjn : (8 + V % 4).toNat = j := by have := HXs.out; omega
            have HQ : Hid ((⟨1 + V % 2, 1 + V % 65535, X, mdSegs n0 d j⟩ : Ho) = mh xs i) := by
              show _ = _
              rw [HZ.out.1, hjn, HN.out]
            have HNX : Hid (P = nx xs (i + 1)) := by
              show _ = _
              rw [HZ.out.2, HP.out, HN.out, ← HXs.out, hjs2]
            have hPle : P ≤ 1000 := by
              have := (nx_bounds xs (i + 1)).2
              have h2 := HNX.out
              omega
            clear hjs2 hjn HP
            go_wp2_with fail
            refine ⟨⟨i + 1, P, _, by omega, by omega, by go_num, rfl, hP0, hPle, HNX, ?_, ?_, fresh_set HF.out, HM3, HB3⟩, by simp [intOf]; omega⟩
            · rw [List.length_set]
              exact hL
            · exact set_map_of HM.out HQ.out
    · have hmin : min xs.length 16 = i := by omega
      have hne : ¬ ((i : Int) < (xs.length : Int) ∧ (i : Int) < 16) := by omega
      by_cases h16 : i < 16
      · have hx : ¬ (i : Int) < (xs.length : Int) := by omega
        clear hne hlt
        have HMIN := tabhid hmin
        clear hmin
        go_wp2_with fail
        go_ret
        exact ⟨rfl, ⟨L, hL, by rw [HMIN.out]; exact HM.out, HR.out⟩, HB.out⟩
      · have hi2 : i = 16 := by omega
        have HMIN := tabhid hmin
        clear hmin hne hlt
        subst hi2
        by_cases hx : (16 : Int) < (xs.length : Int)
        · go_wp2_with fail
          go_ret
          exact ⟨rfl, ⟨L, hL, by rw [HMIN.out]; exact HM.out, HR.out⟩, HB.out⟩
        · go_wp2_with fail
          go_ret
          exact ⟨rfl, ⟨L, hL, by first | exact HM.out | (rw [HMIN.out]; exact HM.out), HR.out⟩, HB.out⟩
end Go.Proofs.Ytdhdjnpgebddmaa
