/- The document's own Put of layer 11 walked. -/
import Derived.Test.YtpgbnfolekanmaaDoorLeafRefPad
import Derived.Test.YtpgbnfolekanmaaDoorLeafMay
import Derived.Test.YtpgbnfolekanmaaDoorLeafPut
import Derived.Deep.RegionHeld3
import Derived.Deep.RegionWith
import Derived.Deep.QuietTactic
import Derived.BigQuiet
namespace Go.Proofs.YtpgbnfolekanmaaDoor
open Go.RowKit Lf

theorem pb_em {p : Nm} (h : emB p = true) : pb p = List.replicate 32 0 := by
  rw [emB_z h]
  decide
theorem lowS_list1 (v : Int) : (⟨(Bin.low 1 v).toArray⟩ : ByteArray).data.toList = Bin.low 1 v := rfl
/-- No place ahead of k has i's name: it is the first. -/
theorem first_of {l : List Nm} {i : Nat} (hi : i < l.length) (h : ∀ j, (hj : j < l.length) → j < i → isB l[i].name l[j] = false) : fnd l l[i].name = i :=
  findIdx_is hi (isB_iff.2 rfl) (fun j hj => h j (by omega) hj)
theorem first_no {l : List Nm} {i j : Nat} (hi : i < l.length) (hj : j < i) (h : isB l[i].name (l[j]'(by omega)) = true) : fnd l l[i].name ≠ i := by
  intro e
  have h1 : j < fnd l l[i].name := by omega
  have := List.not_of_lt_findIdx (p := isB l[i].name) h1
  rw [h] at this
  cases this

set_option maxRecDepth 10000 in
set_option maxHeartbeats 8000000 in
theorem rput_t (v : Value) (l : List Nm) (w : World) (hE : Nams w v l) (hl : l.length ≤ 1000) (hz : ∀ p ∈ l, p.name.size ≤ 1000) : Calls Tryd.prog 10 #[v] w fun e w' => e = .returned (.tuple #[.string (putS l), .bool (okB l)]) ∧ Below w.heap.size w w' := by
  have HE0 := lfhid hE
  obtain ⟨ad, cap, rfl⟩ := hE.slice
  clear hE
  by_cases h8 : l.length = 8
  · have HZ : Hid (∀ k, (h : k < l.length) → l[k].name.size ≤ 1000) := fun k h => hz _ (List.getElem_mem h)
    have HALL : Hid (OkTo l l.length → okB l = true) := fun h => h.all h8
    have HNO : Hid (∀ k, (h : k < l.length) → okAt l k l[k] = false → okB l = false) := fun k h hn => okB_no_at h hn
    have HPN : Hid (okB l = false → putS l = ⟨#[]⟩) := fun h => putS_no h
    have HPY : Hid (okB l = true → (putS l).data.toList = bytesL (l.take l.length)) := fun h => by rw [putS_list h, List.take_length]
    have HBS : Hid (∀ k, (h : k < l.length) → bytesL (l.take (k + 1)) = bytesL (l.take k) ++ pb l[k]) := fun k h => bytesL_take_succ h
    have HF1 : Hid (∀ i, (hi : i < l.length) → (∀ j, (hj : j < l.length) → j < i → isB l[i].name l[j] = false) → fnd l l[i].name = i) := fun i hi h => first_of hi h
    have HF2 : Hid (∀ i j, (hi : i < l.length) → (hjl : j < l.length) → j < i → isB l[i].name l[j] = true → fnd l l[i].name ≠ i) := fun i j hi _ hj h => first_no hi hj h
    obtain ⟨F, hF⟩ : ∃ F : Nat → List UInt8, F = fun k => bytesL (l.take k) := ⟨_, rfl⟩
    have HF0 : Hid (F 0 = []) := by show _ = _; rw [hF]; rfl
    have HBS2 : Hid (∀ k, (h : k < l.length) → F (k + 1) = F k ++ pb l[k]) := fun k h => by rw [hF]; exact HBS.out k h
    have HPY2 : Hid (okB l = true → (putS l).data.toList = F l.length) := fun h => by rw [hF]; exact HPY.out h
    clear hF HBS HPY
    generalize putS l = PS at *
    generalize okB l = OK at *
    have CE := lfhid rempty_t
    have CC := lfhid (fun (s : ByteArray) (w1 : World) (h : s.size ≤ 1000) => rcheck_t s w1 (by omega))
    have CP := lfhid rpad_t
    have CU := lfhid (fun (nd : Int) (w1 : World) (h1 : 1 ≤ nd) (h2 : nd ≤ 255) => refPut_t nd 1 w1 (by decide) (by omega) (by omega))
    have hl8 : l.length ≤ 8 := by omega
    have h8b : ((l.length : Int) == 8) = true := by simp only [beq_iff_eq]; omega
    have h8c : ((l.length : Int) != 8) = false := by rw [bne, h8b]; rfl
    have hmk32 : ∀ W : World, (Instr.makeSlice 46 (.int .i64 32) (.int .i64 32)).run Tryd.prog W = .ok (.slice (some ⟨W.heap.size, 0, none⟩) 32 32) (W.alloc (.cells (zrow 32) 5)) := fun W => zmake 32 (by decide) W
    have hcv32 : ∀ W : World, (convert 46 9 (.slice (some ⟨W.heap.size, 0, none⟩) 32 32)).run Tryd.prog (W.alloc (.cells (zrow 32) 5)) = .ok (.string (zerosS 32)) (W.alloc (.cells (zrow 32) 5)) := fun W => zconv 32 W.heap.size _ (heap_alloc_new _ _)
    have hzs32 : (zerosS 32).size = 32 := zerosS_size 32
    have HZ32 : Hid ((zerosS 32).data.toList = List.replicate 32 0) := rfl
    generalize zerosS 32 = Z32 at *
    generalize zrow 32 = R32 at *
    clear h8 hz
    go_enter Tryd.func10, Tryd.ntmps10
    go_wp2_with fail
    go_loopw [4, 5] (fun sv c wr => ∃ (i : Nat) (S : ByteArray), c = .int .i64 i ∧ i ≤ l.length ∧ sv = .string S ∧ S.size ≤ 32 * i ∧ Hid (S.data.toList = F i) ∧ Hid (OkTo l i) ∧ Hid (Below w.heap.size w wr)) (fun _ c _ => l.length - (intOf c).toNat)
    case atStart => exact ⟨0, ⟨#[]⟩, rfl, Nat.zero_le _, rfl, Nat.le_refl _, HF0.out.symm, fun j _ h => absurd h (Nat.not_lt_zero _), Below.refl _ _⟩
    case round =>
      obtain ⟨i, S, rfl, hi, rfl, hSz, HS, HA, HB⟩ := hrel
      by_cases hlt : i < l.length
      · obtain ⟨b, off, rfl, hb, c0, c1⟩ := (HE0.out.on HB.out).at hlt
        have HN := lfhid (fun hy => HA.out.next hlt hy)
        have HNK := lfhid (HNO.out i hlt)
        have HSN := lfhid (HBS2.out i hlt)
        have hzn := HZ.out i hlt
        have HF1i := lfhid (HF1.out i hlt)
        have HF2i := lfhid (fun j hjl hj => HF2.out i j hlt hjl hj)
        have HC : Hid (∀ j, (h : j < l.length) → wr.cell? ⟨b, off + j * 2, none⟩ = some (.string l[j].name)) := fun j h => by
          obtain ⟨b', off', hbo, _, d0, _⟩ := (HE0.out.on HB.out).at h
          cases hbo
          exact d0
        generalize hy : l[i] = y at *
        have HYY := lfhid hy
        clear hy
        obtain ⟨n, nd⟩ := y
        have hzn' : n.size ≤ 1000 := hzn
        clear hzn
        go_wp2_with fail
        refine (CE.out ⟨n, nd⟩ _).mono ?_
        rintro e w1 ⟨rfl, hb1⟩
        have HB1 : Hid (Below w.heap.size w w1) := HB.out.trans (hb1.mono HB.out.size)
        have hbw1 : b < w1.heap.size := by have := hb1.size; omega
        have d0 : w1.cell? ⟨b, off + i * 2, none⟩ = some (.string n) := by rw [hb1.cell hb]; exact c0
        have d1 : w1.cell? ⟨b, off + i * 2 + 1, none⟩ = some (.int .i64 nd) := by rw [hb1.cell hb]; exact c1
        have HC1 : Hid (∀ j, (h : j < l.length) → w1.cell? ⟨b, off + j * 2, none⟩ = some (.string l[j].name)) := fun j h => by rw [hb1.cell hb]; exact HC.out j h
        clear hb1 c0 c1 HB HC hb
        cases he : emB ⟨n, nd⟩
        · go_wp2_with fail
          refine (CC.out n w1 hzn').mono ?_
          rintro e w2 ⟨rfl, rfl⟩
          by_cases hok : okP ⟨n, nd⟩ = true
          · obtain ⟨k1, k2, k3⟩ := okP_chk hok
            have k2' : 1 ≤ nd := k2
            have k3' : nd ≤ 255 := k3
            have k1' : Word.chk n.data.toList = true := k1
            have g1 : n.size ≤ 26 := by rw [Lib.size_eq]; exact (Word.chk_len k1').2
            have g2 := lfhid (chk_zero k1')
            have HD := lfhid (okAt_fnd (l := l) (i := i) he hok)
            rw [k1']
            clear k1 k2 k3 k1' hok he
            go_wp2_with fail
            have hil : i < 8 := by omega
            go_loopw [6] (fun c wr => ∃ k m : Nat, c = .int .i64 k ∧ k ≤ i ∧ Hid (∀ j, (h : j < l.length) → j < k → isB n l[j] = false) ∧ wr = w1.drewN m) (fun c _ => i - (intOf c).toNat)
            case atStart => exact ⟨0, 0, rfl, Nat.zero_le _, fun j _ h => absurd h (Nat.not_lt_zero _), rfl⟩
            case round =>
              obtain ⟨k, m, rfl, hk, HJ, rfl⟩ := hrel
              by_cases hki : k < i
              · have hkl : k < l.length := by omega
                have e0 := HC1.out k hkl
                have HX : Hid (isB n l[k] = (l[k].name.toList == n.toList)) := isB_toList n l[k]
                have HJY : Hid (isB n l[k] = false → ∀ j, (h : j < l.length) → j < k + 1 → isB n l[j] = false) := fun hn j h h2 => by
                  by_cases e : j = k
                  · subst e; exact hn
                  · exact HJ.out j h (by omega)
                have HJN : Hid (isB n l[k] = true → fnd l n ≠ i) := fun hy => HF2i.out k hkl hki hy
                generalize isB n l[k] = IB at *
                generalize l[k].name = nk at *
                have k0 : (0 : Int) ≤ (k : Int) := by omega
                have i0 : (0 : Int) ≤ (i : Int) := by omega
                have k1 : (k : Int) < (l.length : Int) := by omega
                have i1 : (i : Int) < (l.length : Int) := by omega
                cases heq : (nk.toList == n.toList)
                · have HJ2 := lfhid (HJY.out (HX.out.trans heq))
                  clear HJ HJY HJN HX hmk32 hcv32
                  go_wp2_with fail
                  go_quiet (fail)
                  go_wp2_with fail
                  exact ⟨⟨k + 1, _, by go_num, by omega, HJ2, rfl⟩, by simp [intOf]; omega⟩
                · have HR := lfhid (HNK.out (HD.out.trans (decide_eq_false (HJN.out (HX.out.trans heq)))))
                  have HP := lfhid (HPN.out HR.out)
                  clear HJ HJY HJN HX hmk32 hcv32
                  go_wp2_with fail
                  go_quiet (fail)
                  go_wp2_with fail
                  go_ret2
                  exact ⟨lfCut HP.out.symm HR.out.symm, ⟨HB1.out.os, HB1.out.tape, HB1.out.output, HB1.out.size, HB1.out.block⟩⟩
              · have hki2 : k = i := by omega
                subst hki2
                have HA2 := lfhid (HN.out (HD.out.trans (decide_eq_true (HF1i.out HJ.out))))
                have HPB := lfhid (pb_parts n nd)
                have hps := padN_size g1
                have i0 : (0 : Int) ≤ (k : Int) := by omega
                have i1 : (k : Int) < (l.length : Int) := by omega
                clear HJ HD HN HNK HF1i HF2i HC1 hki
                go_wp2_with fail
                refine (CP.out n _ g1 g2.out).mono ?_
                rintro e w2 ⟨rfl, hb2⟩
                have hb2' : Below w1.heap.size w1 w2 := ⟨hb2.os, hb2.tape, hb2.output, hb2.size, hb2.block⟩
                have HB2 : Hid (Below w.heap.size w w2) := HB1.out.trans (hb2'.mono HB1.out.size)
                have d2 : w2.cell? ⟨b, off + k * 2 + 1, none⟩ = some (.int .i64 nd) := by rw [hb2'.cell hbw1]; exact d1
                have hbw2 : b < w2.heap.size := by have := hb2'.size; omega
                clear hb2 hb2' d0 d1 HB1
                generalize padN n = P at *
                have hmk5 : ∀ W : World, (Instr.makeSlice 46 (.int .i64 5) (.int .i64 5)).run Tryd.prog W = .ok (.slice (some ⟨W.heap.size, 0, none⟩) 5 5) (W.alloc (.cells (zrow 5) 5)) := fun W => zmake 5 (by decide) W
                have hcv5 : ∀ W : World, (convert 46 9 (.slice (some ⟨W.heap.size, 0, none⟩) 5 5)).run Tryd.prog (W.alloc (.cells (zrow 5) 5)) = .ok (.string (zerosS 5)) (W.alloc (.cells (zrow 5) 5)) := fun W => zconv 5 W.heap.size _ (heap_alloc_new _ _)
                have hcv5d : ∀ W : World, (convert 46 9 (.slice (some ⟨W.heap.size, 0, none⟩) 5 5)).run Tryd.prog (W.alloc (.cells (zrow 5) 5)).drew = .ok (.string (zerosS 5)) (W.alloc (.cells (zrow 5) 5)).drew := fun W => zconv 5 W.heap.size _ (heap_alloc_new W _)
                have HCV5 : Hid (∀ (W : World) g, W.heap[g]? = some (.cells (zrow 5) 5 (0, 0)) → (convert 46 9 (.slice (some ⟨g, 0, none⟩) 5 5)).run Tryd.prog W = .ok (.string (zerosS 5)) W) := fun W g h => zconv 5 g W h
                have hzs5 : (zerosS 5).size = 5 := zerosS_size 5
                generalize zerosS 5 = Z5 at *
                generalize zrow 5 = R5 at *
                have hls := lowS_size 1 nd
                have hS7 : S.size ≤ 224 := by omega
                have p1 : ¬ 9223372036854775807 < S.size + P.size := by omega
                have p2 : ¬ 9223372036854775807 < S.size + P.size + (⟨(Bin.low 1 nd).toArray⟩ : ByteArray).size := by omega
                have p3 : ¬ 9223372036854775807 < S.size + P.size + (⟨(Bin.low 1 nd).toArray⟩ : ByteArray).size + Z5.size := by omega
                have HPS := lfhid hps
                have HLS := lfhid hls
                have HZ5 := lfhid hzs5
                clear hps hls hzs5
                generalize hlw : (⟨(Bin.low 1 nd).toArray⟩ : ByteArray) = L1 at *
                clear hmk32 hcv32
                go_wp2_with fail
                have HWA : Hid (∀ w3 o, Below w2.drew.heap.size w2.drew w3 → Below w.heap.size w (w3.alloc o)) := fun w3 o h => by
                  have h1 : Below w2.heap.size w2 w3 := ⟨h.os, h.tape, h.output, h.size, h.block⟩
                  have h2 := HB2.out.trans (h1.mono HB2.out.size)
                  exact h2.alloc h2.size _
                have HWB : Hid (∀ w3 o, Below (w2.alloc o).drew.heap.size (w2.alloc o).drew w3 → Below w.heap.size w w3) := fun w3 o h => by
                  have h1 : Below (w2.alloc o).heap.size (w2.alloc o) w3 := ⟨h.os, h.tape, h.output, h.size, h.block⟩
                  have h2 := HB2.out.alloc HB2.out.size o
                  exact h2.trans (h1.mono h2.size)
                have HFIN : Hid ((S ++ P ++ L1 ++ Z5).size ≤ 32 * (k + 1) ∧ (S ++ P ++ L1 ++ Z5).data.toList = F (k + 1)) := by
                  refine ⟨?_, ?_⟩
                  · rw [ByteArray.size_append, ByteArray.size_append, ByteArray.size_append, HPS.out, HLS.out, HZ5.out]
                    omega
                  · rw [HSN.out, HPB.out]
                    simp only [ByteArray.data_append, Array.toList_append, HS.out, List.append_assoc]
                    rw [← hlw]
                go_region_with (first
                    | (go_at_call 32; refine (CU.out nd _ k2' k3').mono ?_; rintro e w3 ⟨rfl, hb3⟩; (try have hcvx := HCV5.out w3 w2.heap.size (by rw [hb3.block w2.heap.size (by simp)]; exact heap_alloc_new w2 _))))
                all_goals
                  clear hmk5 hcv5 hcv5d HCV5
                  go_wp2_with fail
                  refine ⟨⟨k + 1, S ++ P ++ L1 ++ Z5, by go_num, by omega, rfl, HFIN.out.1, HFIN.out.2, HA2, ?_⟩, by simp [intOf]; omega⟩
                  first | exact HWA.out _ _ hb3 | exact HWB.out _ _ hb3
          · have HR := lfhid (HNK.out (okAt_no he (by simpa using hok)))
            have HP := lfhid (HPN.out HR.out)
            have hcs : Word.chk n.data.toList = false ∨ (Word.chk n.data.toList = true ∧ (nd < 1 ∨ (1 ≤ nd ∧ 255 < nd))) := by
              cases h1 : Word.chk n.data.toList
              · exact .inl rfl
              · refine .inr ⟨rfl, ?_⟩
                by_cases h2 : nd < 1
                · exact .inl h2
                · refine .inr ⟨by omega, ?_⟩
                  by_cases h3 : 255 < nd
                  · exact h3
                  · exfalso
                    apply hok
                    show (Word.chk n.data.toList && decide (1 ≤ nd ∧ nd ≤ 255)) = true
                    rw [h1, Bool.true_and]
                    exact decide_eq_true ⟨by omega, by omega⟩
            clear hok HN HNK HSN HF1i HF2i HC1 he hmk32 hcv32
            rcases hcs with hc | ⟨hc, h2 | ⟨h2, h3⟩⟩
            · rw [hc]
              go_wp2_with fail
              go_ret2
              exact ⟨lfCut HP.out.symm HR.out.symm, HB1.out⟩
            · rw [hc]
              go_wp2_with fail
              go_ret2
              exact ⟨lfCut HP.out.symm HR.out.symm, HB1.out⟩
            · rw [hc]
              go_wp2_with fail
              go_ret2
              exact ⟨lfCut HP.out.symm HR.out.symm, HB1.out⟩
        · have HA2 := lfhid (HN.out (okAt_em he))
          have HFIN : Hid ((S ++ Z32).size ≤ 32 * (i + 1) ∧ (S ++ Z32).data.toList = F (i + 1)) := by
            refine ⟨?_, ?_⟩
            · rw [ByteArray.size_append, hzs32]
              omega
            · rw [HSN.out, pb_em he, ByteArray.data_append, Array.toList_append, HS.out, HZ32.out]
          have p1 : ¬ 9223372036854775807 < S.size + Z32.size := by omega
          have HZS := lfhid hzs32
          clear HN HNK HSN HF1i HF2i HC1 he hzs32
          go_wp2_with fail
          exact ⟨⟨i + 1, S ++ Z32, by go_num, by omega, rfl, HFIN.out.1, HFIN.out.2, HA2, HB1.out.alloc HB1.out.size _⟩, by simp [intOf]; omega⟩
      · have hil : i = l.length := by omega
        subst hil
        have HR := lfhid (HALL.out HA.out)
        have HP : Hid (S = PS) := ba_eq (by rw [HPY2.out HR.out, HS.out])
        clear HA HNO HALL HS hmk32 hcv32
        go_wp2_with fail
        go_ret2
        exact ⟨lfCut HP.out HR.out.symm, HB.out⟩
  · have HR := lfhid (okB_no_len h8)
    have HP := lfhid (putS_no HR.out)
    have h8b : ((l.length : Int) == 8) = false := by rw [beq_eq_false_iff_ne]; omega
    have h8c : ((l.length : Int) != 8) = true := by rw [bne, h8b]; rfl
    clear h8
    go_enter Tryd.func10, Tryd.ntmps10
    go_wp2_with fail
    go_ret2
    exact ⟨lfCut HP.out.symm HR.out.symm, Below.refl _ _⟩
end Go.Proofs.YtpgbnfolekanmaaDoor
