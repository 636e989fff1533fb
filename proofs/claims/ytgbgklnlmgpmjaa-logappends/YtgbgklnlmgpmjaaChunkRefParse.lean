/- The document's own Parse walked. -/
import Derived.Test.YtgbgklnlmgpmjaaChunkOff
import Derived.Test.YtgbgklnlmgpmjaaHeadGot
namespace Go.Proofs.Ytgbgklnlmgpmjaa
open Go.RowKit Rec Hdp Chk

set_option maxRecDepth 10000 in
set_option maxHeartbeats 8000000 in
theorem rparse_t (s : ByteArray) (w : World) (hl : s.size ≤ 100000) :
    Calls Try.prog 15 #[.string s] w fun e w' => ∃ v bv, e = .returned (.tuple #[headV (parX s) v, bv, .bool (parB s)]) ∧ Ents w' v (parX s).list ∧ TOwn w' w.heap.size bv (parL s) ∧ Below w.heap.size w w' := by
  have GA := hdhid (fun w1 => rgetall_t s w1 hl)
  cases hg : getB s with
  | false =>
    have hp := parB_get hg
    rw [gotX_no hg, gotS_no hg, hg] at GA
    rw [parX_no hp, parL_no hp, hp]
    have hz0 : Hd.z.list.length = 0 := rfl
    rw [hz0] at GA
    clear hp hg hz0
    generalize hZ : Hd.z = Z at *
    go_enter Try.func15, Try.ntmps15
    go_wp2_with fail
    generalize hW : World.alloc w _ = w0
    have HX0 : Hid (w0.heap[w.heap.size]? = some (.cells (headC Z (.slice none 0 0)) 37 (0, 0))) := by rw [← hW, ← hZ]; exact heap_alloc_new _ _
    have HB0 : Hid (Below w.heap.size w w0) := by rw [← hW]; exact (Below.refl _ w).alloc (Nat.le_refl _) _
    have hw0 : w.heap.size < w0.heap.size := by rw [← hW]; simp
    clear hW
    refine (GA.out _).mono ?_
    rintro e w1 ⟨ad, cap, rfl, hE, hb⟩
    have HX1 : Hid (w1.heap[w.heap.size]? = some (.cells (headC Z (.slice none 0 0)) 37 (0, 0))) := (hb.block _ hw0).trans HX0.out
    have HB1 : Hid (Below w.heap.size w w1) := HB0.out.trans (hb.mono (by omega))
    have hw1 : w.heap.size < w1.heap.size := by have := hb.size; omega
    clear hE hb GA HX0 HB0 hw0
    have HX2 : Hid (∀ c, (w1.alloc c).heap[w.heap.size]? = some (.cells (headC Z (.slice none 0 0)) 37 (0, 0))) := fun c => (heap_alloc_old _ _ hw1).trans HX1.out
    have hc8 : ∀ V, V = w1.alloc (.cells (headC Z (.slice ad 0 cap)) 37) → V.cell? ⟨w1.heap.size, 8, none⟩ = some (.slice ad 0 cap) := fun V hV => by rw [cell_of_row V w1.heap.size _ _ 37 (0, 0) (by rw [hV]; exact heap_alloc_new _ _)]; rfl
    have hc9 := hc8 _ rfl
    clear hc8
    go_wp2_with (first
      | (refine wpList_store_row rfl 37 (.tmp 5) (.tmp 14) rfl w1.heap.size (headC Z (.slice ad 0 cap)) rfl rfl 37 _ (heap_alloc_new _ _) Try.headSize rfl (headC_one Z _ _ _) ?_; rw [World.setRow_alloc_new])
      | fail)
    generalize hV : World.alloc w1 _ = V
    have HXV : Hid (V.heap[w.heap.size]? = some (.cells (headC Z (.slice none 0 0)) 37 (0, 0))) := by rw [← hV]; exact HX2.out _
    have HBV : Hid (Below w.heap.size w V) := by rw [← hV]; exact HB1.out.alloc (by omega) _
    clear hV HX2 HB1 hc9 HX1
    go_quiet (fail)
    generalize hV2 : V.drewN _ = V2
    have HX3 : Hid (V2.heap[w.heap.size]? = some (.cells (headC Z (.slice none 0 0)) 37 (0, 0))) := by rw [← hV2]; exact HXV.out
    have HB2 : Hid (Below w.heap.size w V2) := by rw [← hV2]; exact ⟨HBV.out.os, HBV.out.tape, HBV.out.output, HBV.out.size, HBV.out.block⟩
    clear hV2 HXV HBV
    go_wp2_with (first
      | (refine wpList_store_row rfl 37 (.tmp 2) (.tmp 40) rfl w.heap.size (headC Hd.z (.slice none 0 0)) rfl rfl 37 _ HX3.out Try.headSize rfl (headC_one Hd.z _ _ _) ?_)
      | fail)
    refine bodyPost_ret (v := .tuple #[headV Z (.slice none 0 0), .slice none 0 0, .bool false]) (results_ctt_row Try.results15 _ _ w.heap.size 37 (headC Z (.slice none 0 0)) (0, 0) _ rfl (setRow_heap _ _ _ _ _ _ HX3.out) Try.underlying37 rfl Try.headSize) rfl ⟨_, _, rfl, (by rw [← hZ]; exact Ents.nil _), TOwn.nil _ _, ?_⟩
    exact below_setRow HB2.out (Nat.le_refl _) _
  | true =>
    have HSU : Hid (∀ w1 f b, f.size ≤ 1000 → b.size ≤ 100000 → Calls Try.prog 41 #[.string f, .string b] w1 fun e w' => e = .returned (.int .i64 (sumL f.data.toList b.data.toList : Nat)) ∧ w1 = w') := fun w1 f b hf hb => rsum_t f b w1 (by omega) (by omega)
    rw [gotX_yes hg, gotS_yes hg, hg] at GA
    have HPB : Hid (parB s = (decide (256 * (1 + (getX s.data.toList).list.length) ≤ s.size) && sumB s (getX s.data.toList).list.length)) := by show _ = _; rw [parB, hg, Bool.true_and]
    have HPY : Hid (parB s = true → parX s = getX s.data.toList ∧ parL s = cutL (bodyB s (getX s.data.toList).list.length) (getX s.data.toList).list.length) := fun h => ⟨parX_yes h, parL_yes h⟩
    have HPN : Hid (parB s = false → parX s = Hd.z ∧ parL s = []) := fun h => ⟨parX_no h, parL_no h⟩
    have h24 := getX_len s.data.toList
    have hs256 : 256 ≤ s.size := by
      unfold getB at hg
      rw [Bool.and_eq_true, decide_eq_true_eq] at hg
      exact hg.1
    have hok : okB (getX s.data.toList) = true := by
      unfold getB at hg
      rw [Bool.and_eq_true, Bool.and_eq_true] at hg
      exact hg.2.1
    clear hg
    have HSB : Hid (∀ n, sumB s n = decide ((sumL (frontB s).data.toList (bodyB s n).data.toList : Int) = getS s.data.toList)) := fun n => rfl
    generalize parB s = PB at *
    generalize parX s = PX at *
    generalize parL s = PL at *
    generalize getS s.data.toList = GS at *
    generalize getX s.data.toList = X at *
    generalize hZ : Hd.z = Z at *
    go_enter Try.func15, Try.ntmps15
    go_wp2_with fail
    generalize hW : World.alloc w _ = w0
    have HX0 : Hid (w0.heap[w.heap.size]? = some (.cells (headC Z (.slice none 0 0)) 37 (0, 0))) := by rw [← hW, ← hZ]; exact heap_alloc_new _ _
    have HB0 : Hid (Below w.heap.size w w0) := by rw [← hW]; exact (Below.refl _ w).alloc (Nat.le_refl _) _
    have hw0 : w.heap.size < w0.heap.size := by rw [← hW]; simp
    clear hW
    refine (GA.out _).mono ?_
    rintro e w1 ⟨ad, cap, rfl, hE, hb⟩
    have HE1 := hdhid hE
    have HX1 : Hid (w1.heap[w.heap.size]? = some (.cells (headC Z (.slice none 0 0)) 37 (0, 0))) := (hb.block _ hw0).trans HX0.out
    have HB1 : Hid (Below w.heap.size w w1) := HB0.out.trans (hb.mono (by omega))
    have hw1 : w.heap.size < w1.heap.size := by have := hb.size; omega
    clear hE hb GA HX0 HB0 hw0
    generalize hn : X.list.length = n at *
    have hc8 : ∀ V, V = w1.alloc (.cells (headC X (.slice ad n cap)) 37) → V.cell? ⟨w1.heap.size, 8, none⟩ = some (.slice ad n cap) := fun V hV => by rw [cell_of_row V w1.heap.size _ _ 37 (0, 0) (by rw [hV]; exact heap_alloc_new _ _)]; rfl
    have hc9 := hc8 _ rfl
    clear hc8
    have ee : (256 : Int) * (1 + (n : Int)) = ((256 * (1 + n) : Nat) : Int) := by omega
    by_cases hlt : 256 * (1 + n) ≤ s.size
    · have hfs : (s.extract 0 256).size ≤ 1000 := by rw [ByteArray.size_extract]; omega
      have hbs : (s.extract 256 (256 * (1 + n))).size = 256 * n := by rw [ByteArray.size_extract]; omega
      have SU := hdhid (fun w1 => HSU.out w1 (s.extract 0 256) (s.extract 256 (256 * (1 + n))) hfs (by omega))
      have HS := hdhid (HSB.out n)
      rw [decide_eq_true hlt, Bool.true_and] at HPB
      have eF : frontB s = s.extract 0 256 := rfl
      have eB : bodyB s n = s.extract 256 (256 * (1 + n)) := rfl
      rw [eF, eB] at HS
      rw [eB] at HPY
      have HPI := hdhid (fun i hi => piece_at s i n hi)
      generalize hE2 : 256 * (1 + n) = E at *
      clear hfs hbs HSU HSB eF eB
      generalize hFB : s.extract 0 256 = FB at *
      generalize hBB : s.extract 256 E = BB at *
      generalize sumL FB.data.toList BB.data.toList = sm at *
      generalize sumB s n = SB at *
      have HPBe := HPB.out
      subst HPBe
      have hd : decide ((s.size : Int) < (E : Int)) = false := decide_eq_false (by omega)
      have hd3 : decide (s.size < E) = false := decide_eq_false (by omega)
      have hk1 : 256 ≤ E := by omega
      have hk2 : (256 : Int) ≤ (E : Int) := by omega
      have hk3 : (E : Int) ≤ (s.size : Int) := by omega
      have hk4 : (256 : Int) ≤ (s.size : Int) := by omega
      have HE2 := hdhid hE2
      have HX2 : Hid (∀ c, (w1.alloc c).heap[w.heap.size]? = some (.cells (headC Z (.slice none 0 0)) 37 (0, 0))) := fun c => (heap_alloc_old _ _ hw1).trans HX1.out
      clear HPB HX1 hE2
      go_wp2_with (first
        | (refine wpList_store_row rfl 37 (.tmp 5) (.tmp 14) rfl w1.heap.size (headC X (.slice ad n cap)) rfl rfl 37 _ (heap_alloc_new _ _) Try.headSize rfl (headC_one X _ _ _) ?_; rw [World.setRow_alloc_new])
        | fail)
      generalize hV : World.alloc w1 _ = V
      have HHV : Hid (V.heap[w1.heap.size]? = some (.cells (headC X (.slice ad n cap)) 37 (0, 0))) := by rw [← hV]; exact heap_alloc_new _ _
      have HXV : Hid (V.heap[w.heap.size]? = some (.cells (headC Z (.slice none 0 0)) 37 (0, 0))) := by rw [← hV]; exact HX2.out _
      have HBV : Hid (Below w.heap.size w V) := by rw [← hV]; exact HB1.out.alloc (by omega) _
      have HBV1 : Hid (Below w1.heap.size w1 V) := by rw [← hV]; exact (Below.refl _ _).alloc (Nat.le_refl _) _
      have HEV := hdhid (HE1.out.on HBV1.out)
      have hV1 : w1.heap.size < V.heap.size := by rw [← hV]; simp
      clear hV HX2 HB1 HBV1 HE1 hc9
      by_cases heq : (sm : Int) = GS
      · have hPB : decide ((sm : Int) = GS) = true := decide_eq_true heq
        have hne : ((sm : Int) != GS) = false := by rw [heq]; simp
        have hPB2 := HS.out.trans hPB
        obtain ⟨hp1, hp2⟩ := HPY.out hPB2
        subst hPB2 hp1 hp2
        clear HPY HPN HS heq hPB
        go_quiet (first
          | (refine Calls.quiet_of_same ((SU.out _).mono fun _ _ h => ⟨h.1, h.2.symm⟩)))
        generalize hV2 : V.drewN _ = V2
        have HH2 : Hid (V2.heap[w1.heap.size]? = some (.cells (headC PX (.slice ad n cap)) 37 (0, 0))) := by rw [← hV2]; exact HHV.out
        have HX3 : Hid (V2.heap[w.heap.size]? = some (.cells (headC Z (.slice none 0 0)) 37 (0, 0))) := by rw [← hV2]; exact HXV.out
        have HB2 : Hid (Below w.heap.size w V2) := by rw [← hV2]; exact ⟨HBV.out.os, HBV.out.tape, HBV.out.output, HBV.out.size, HBV.out.block⟩
        have HE3 : Hid (EOff V2 w.heap.size (.slice ad n cap) PX.list) := by
          have : Ents V2 (.slice ad n cap) PX.list := by rw [← hV2]; exact HEV.out
          exact this.off (by rw [hZ]; exact HX3.out) hok
        have hv2 : w1.heap.size < V2.heap.size := by rw [← hV2]; exact hV1
        clear hV2 HHV HXV HBV HEV hV1 SU hFB hne
        go_wp2_with fail
        go_loopw [9, 10] (fun lv c wr => ∃ i A : Nat, i ≤ n ∧ A = 256 * (1 + i) ∧ c = .int .i64 A ∧ Hid (TOwn wr V2.heap.size lv (cutL BB i)) ∧ Hid (Below V2.heap.size V2 wr)) (fun _ c _ => E - (intOf c).toNat)
        case atStart => exact ⟨0, 256, by omega, rfl, rfl, TOwn.nil _ _, Below.refl _ _⟩
        case round =>
          obtain ⟨i, A, hi, hA, rfl, HR, HW⟩ := hrel
          have HAi := hdhid hA
          have hEn := HE2.out
          by_cases hin : i < n
          · have hP := HPI.out i hin
            rw [← hA] at hP
            have HP := hdhid hP
            have HS := hdhid (cutL_succ BB i)
            have hcl := cutL_length BB i
            have ha1 : A < E := by omega
            have ha2 : A + 256 ≤ s.size := by omega
            have ha3 : (A : Int) < (E : Int) := by omega
            have ha4 : (A : Int) + 256 ≤ (s.size : Int) := by omega
            have hle := HW.out.size
            clear hA hEn hP HPI
            generalize cutL BB i = C at *
            go_wp2_with (first
              | (refine wpList_append_txt rfl _ _ rfl V2.heap.size _ C rfl (HR.out.on ((Below.refl _ _).alloc (by simp) _)) wr.heap.size 1 [s.extract A (A + 256)] rfl 9 (0, 0) (heap_alloc_new _ _) (by simp) ?c3 ?c4 ?_)
              | fail)
            case c3 => rw [hcl]; simp; omega
            case c4 => simp; omega
            intro v' w' ho hb hle2 _
            have e : C ++ [s.extract A (A + 256)] = cutL BB (i + 1) := by rw [HS.out, HP.out]
            rw [e] at ho
            have HR2 := hdhid ho
            have HW2 : Hid (Below V2.heap.size V2 w') := (HW.out.alloc hle _).trans hb
            clear ho hb hle2 HR HW HS HP e
            go_wp2_with fail
            refine ⟨⟨i + 1, A + 256, by omega, by have := HAi.out; omega, by go_num, HR2, HW2⟩, by simp [intOf]; omega⟩
          · have hin2 : i = n := by omega
            subst hin2
            have hAE : A = E := by omega
            subst hAE
            have HH4 : Hid (wr.heap[w1.heap.size]? = some (.cells (headC PX (.slice ad i cap)) 37 (0, 0))) := (HW.out.block _ hv2).trans HH2.out
            have HX4 : Hid (wr.heap[w.heap.size]? = some (.cells (headC Z (.slice none 0 0)) 37 (0, 0))) := (HW.out.block _ (by omega)).trans HX3.out
            have HB4 : Hid (Below w.heap.size w wr) := HB2.out.trans (HW.out.mono HB2.out.size)
            have HE4 := hdhid (HE3.out.on HW.out)
            clear HH2 HX3 HB2 HE3 hEn hA HPI
            go_wp2_with (first
              | (refine wpList_load_row rfl 37 (.tmp 5) rfl w1.heap.size rfl 37 _ (0, 0) _ HH4.out Try.underlying37 rfl Try.headSize ?_)
              | (refine wpList_store_row rfl 37 (.tmp 2) (.tmp 54) rfl w.heap.size (headC PX (.slice ad i cap)) rfl rfl 37 _ HX4.out Try.headSize rfl (headC_one _ _ _ _) ?_)
              | fail)
            refine bodyPost_ret (v := .tuple #[headV PX (.slice ad i cap), u9, .bool true]) (results_ctt_row Try.results15 _ _ w.heap.size 37 (headC PX (.slice ad i cap)) (0, 0) _ rfl (setRow_heap _ _ _ _ _ _ HX4.out) Try.underlying37 rfl Try.headSize) rfl ⟨_, _, rfl, ?_, ?_, ?_⟩
            · exact HE4.out.keep (grown_setRow wr w.heap.size (headC PX (.slice ad i cap)))
            · exact TOwn.low (base := V2.heap.size) (World.ownsRow.kept HR.out (grown_setRow wr w.heap.size (headC PX (.slice ad i cap))) (.inr (fun e => by have := (HR.out.lt _ e).1; omega))) (by omega)
            · exact below_setRow HB4.out (Nat.le_refl _) _
      · have hPB : decide ((sm : Int) = GS) = false := decide_eq_false heq
        have hne : ((sm : Int) != GS) = true := bne_iff_ne.2 heq
        have hPB2 := HS.out.trans hPB
        obtain ⟨hp1, hp2⟩ := HPN.out hPB2
        have hp3 := hp1.symm
        subst hPB2 hp3 hp2
        clear HPY HPN HS heq hPB hp1
        go_quiet (first
          | (refine Calls.quiet_of_same ((SU.out _).mono fun _ _ h => ⟨h.1, h.2.symm⟩)))
        generalize hV2 : V.drewN _ = V2
        have HX3 : Hid (V2.heap[w.heap.size]? = some (.cells (headC Z (.slice none 0 0)) 37 (0, 0))) := by rw [← hV2]; exact HXV.out
        have HB2 : Hid (Below w.heap.size w V2) := by rw [← hV2]; exact ⟨HBV.out.os, HBV.out.tape, HBV.out.output, HBV.out.size, HBV.out.block⟩
        clear hV2 HXV HBV HHV HEV
        go_wp2_with (first
          | (refine wpList_store_row rfl 37 (.tmp 2) (.tmp 40) rfl w.heap.size (headC Hd.z (.slice none 0 0)) rfl rfl 37 _ HX3.out Try.headSize rfl (headC_one Hd.z _ _ _) ?_)
          | fail)
        refine bodyPost_ret (v := .tuple #[headV Z (.slice none 0 0), .slice none 0 0, .bool false]) (results_ctt_row Try.results15 _ _ w.heap.size 37 (headC Z (.slice none 0 0)) (0, 0) _ rfl (setRow_heap _ _ _ _ _ _ HX3.out) Try.underlying37 rfl Try.headSize) rfl ⟨_, _, rfl, (by rw [← hZ]; exact Ents.nil _), TOwn.nil _ _, ?_⟩
        exact below_setRow HB2.out (Nat.le_refl _) _
    · have hPB : PB = false := by rw [HPB.out, decide_eq_false hlt, Bool.false_and]
      obtain ⟨hp1, hp2⟩ := HPN.out hPB
      have hp3 := hp1.symm
      subst hPB hp3 hp2
      have hd : decide ((s.size : Int) < 256 * (1 + (n : Int))) = true := decide_eq_true (by omega)
      have HX2 : Hid (∀ c, (w1.alloc c).heap[w.heap.size]? = some (.cells (headC Z (.slice none 0 0)) 37 (0, 0))) := fun c => (heap_alloc_old _ _ hw1).trans HX1.out
      clear HPB HPY HPN HSB HSU HE1 HX1 hlt ee hp1
      go_wp2_with (first
        | (refine wpList_store_row rfl 37 (.tmp 5) (.tmp 14) rfl w1.heap.size (headC X (.slice ad n cap)) rfl rfl 37 _ (heap_alloc_new _ _) Try.headSize rfl (headC_one X _ _ _) ?_; rw [World.setRow_alloc_new])
        | fail)
      generalize hV : World.alloc w1 _ = V
      have HXV : Hid (V.heap[w.heap.size]? = some (.cells (headC Z (.slice none 0 0)) 37 (0, 0))) := by rw [← hV]; exact HX2.out _
      have HBV : Hid (Below w.heap.size w V) := by rw [← hV]; exact HB1.out.alloc (by omega) _
      clear hV HX2 HB1 hc9
      go_quiet (fail)
      generalize hV2 : V.drewN _ = V2
      have HX3 : Hid (V2.heap[w.heap.size]? = some (.cells (headC Z (.slice none 0 0)) 37 (0, 0))) := by rw [← hV2]; exact HXV.out
      have HB2 : Hid (Below w.heap.size w V2) := by rw [← hV2]; exact ⟨HBV.out.os, HBV.out.tape, HBV.out.output, HBV.out.size, HBV.out.block⟩
      clear hV2 HXV HBV
      go_wp2_with (first
        | (refine wpList_store_row rfl 37 (.tmp 2) (.tmp 40) rfl w.heap.size (headC Hd.z (.slice none 0 0)) rfl rfl 37 _ HX3.out Try.headSize rfl (headC_one Hd.z _ _ _) ?_)
        | fail)
      refine bodyPost_ret (v := .tuple #[headV Z (.slice none 0 0), .slice none 0 0, .bool false]) (results_ctt_row Try.results15 _ _ w.heap.size 37 (headC Z (.slice none 0 0)) (0, 0) _ rfl (setRow_heap _ _ _ _ _ _ HX3.out) Try.underlying37 rfl Try.headSize) rfl ⟨_, _, rfl, (by rw [← hZ]; exact Ents.nil _), TOwn.nil _ _, ?_⟩
      exact below_setRow HB2.out (Nat.le_refl _) _
end Go.Proofs.Ytgbgklnlmgpmjaa
