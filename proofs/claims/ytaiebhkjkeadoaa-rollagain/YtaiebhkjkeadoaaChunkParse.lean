/- Parse walked: the chunk of bytes, or none. -/
import Derived.Test.YtaiebhkjkeadoaaChunkOff
import Derived.Test.YtaiebhkjkeadoaaChunkSplit
import Derived.Test.YtaiebhkjkeadoaaChunkRes
import Derived.Test.YtaiebhkjkeadoaaHeadHad
import Derived.Deep.RegionWith
namespace Go.Proofs.Ytaiebhkjkeadoaa
open Go.RowKit Rec Hdp Chk

set_option maxRecDepth 10000 in
set_option maxHeartbeats 8000000 in
theorem parse_far (s : ByteArray) (w : World) (hl : s.size ≤ 100000) :
    Calls Try.prog 52 #[.string s] w fun e w' => ∃ v bv, e = .returned (.tuple #[headV (parX s) v, bv, .bool (parB s)]) ∧ Ents w' v (parX s).list ∧ VFar w.heap.size v ∧ TOwn w' w.heap.size bv (parL s) ∧ Below w.heap.size w w' := by
  have GA := hdhid (fun w1 => hgetall_far s w1 hl)
  cases hg : getB s with
  | false =>
    have hp := parB_get hg
    rw [gotX_no hg, gotS_no hg, hg] at GA
    rw [parX_no hp, parL_no hp, hp]
    clear hp hg
    generalize hZ : Hd.z = Z at *
    go_enter Try.func52, Try.ntmps52
    go_wp2_with fail
    generalize hW : World.alloc w _ = w0
    have HX0 : Hid (w0.heap[w.heap.size]? = some (.cells (headC Z (.slice none 0 0)) 43 (0, 0))) := by rw [← hW, ← hZ]; exact heap_alloc_new _ _
    have HB0 : Hid (Below w.heap.size w w0) := by rw [← hW]; exact (Below.refl _ w).alloc (Nat.le_refl _) _
    have hw0 : w.heap.size < w0.heap.size := by rw [← hW]; simp
    clear hW
    refine (GA.out _).mono ?_
    rintro e w1 ⟨ad, cap, rfl, hE, -, hb⟩
    have HX1 : Hid (w1.heap[w.heap.size]? = some (.cells (headC Z (.slice none 0 0)) 43 (0, 0))) := (hb.block _ hw0).trans HX0.out
    have HB1 : Hid (Below w.heap.size w w1) := HB0.out.trans (hb.mono (by omega))
    have hw1 : w.heap.size < w1.heap.size := by have := hb.size; omega
    clear hE hb GA HX0 HB0 hw0
    have HX2 : Hid (∀ c, (w1.alloc c).heap[w.heap.size]? = some (.cells (headC Z (.slice none 0 0)) 43 (0, 0))) := fun c => (heap_alloc_old _ _ hw1).trans HX1.out
    go_wp2_with (first
      | (refine wpList_store_row rfl 43 (.tmp 5) (.tmp 14) rfl w1.heap.size (headC Z (.slice ad Z.list.length cap)) rfl rfl 43 _ (heap_alloc_new _ _) Try.headSize rfl (headC_one Z _ _ _) ?_; rw [World.setRow_alloc_new])
      | (refine wpList_store_row rfl 43 (.tmp 2) (.tmp 19) rfl w.heap.size (headC Hd.z (.slice none 0 0)) rfl rfl 43 _ (HX2.out _) Try.headSize rfl (headC_one Hd.z _ _ _) ?_)
      | fail)
    refine bodyPost_ret (v := .tuple #[headV Z (.slice none 0 0), .slice none 0 0, .bool false]) (results_ctt_row Try.results52 _ _ w.heap.size 43 (headC Z (.slice none 0 0)) (0, 0) _ rfl (setRow_heap _ _ _ _ _ _ (HX2.out _)) Try.underlying43 rfl Try.headSize) rfl ⟨_, _, rfl, (by rw [← hZ]; exact Ents.nil _), VFar.nil _ _ _, TOwn.nil _ _, ?_⟩
    exact below_setRow (HB1.out.alloc (by omega) _) (Nat.le_refl _) _
  | true =>
    have HSU : Hid (∀ w1 f b, f.size ≤ 1000 → b.size ≤ 100000 → Calls Try.prog 50 #[.string f, .string b] w1 fun e w' => e = .returned (.int .i64 (sumL f.data.toList b.data.toList : Nat)) ∧ w1 = w') := fun w1 f b hf hb => hsum_t f b w1 (by omega) (by omega)
    have HSP : Hid (∀ w1 b n, b.size = 256 * n → n ≤ 1000 → Calls Try.prog 70 #[.string b] w1 fun e w' => ∃ v, e = .returned v ∧ TOwn w' w1.heap.size v (cutL b n) ∧ Below w1.heap.size w1 w') := fun w1 b n h1 h2 => split_t b n w1 h1 h2
    rw [gotX_yes hg, gotS_yes hg, hg] at GA
    have HPB : Hid (parB s = (decide (256 * (1 + (getX s.data.toList).list.length) ≤ s.size) && sumB s (getX s.data.toList).list.length)) := by show _ = _; rw [parB, hg, Bool.true_and]
    have HPY : Hid (parB s = true → parX s = getX s.data.toList ∧ parL s = cutL (bodyB s (getX s.data.toList).list.length) (getX s.data.toList).list.length) := fun h => ⟨parX_yes h, parL_yes h⟩
    have HPN : Hid (parB s = false → parX s = Hd.z ∧ parL s = []) := fun h => ⟨parX_no h, parL_no h⟩
    have h24 := getX_len s.data.toList
    have hs256 : 256 ≤ s.size := by
      unfold getB at hg
      rw [Bool.and_eq_true, decide_eq_true_eq] at hg
      exact hg.1
    have hok : okB (getX s.data.toList) = true := by
      unfold getB at hg
      rw [Bool.and_eq_true, Bool.and_eq_true] at hg
      exact hg.2.1
    clear hg
    have HSB : Hid (∀ n, sumB s n = decide ((sumL (frontB s).data.toList (bodyB s n).data.toList : Int) = getS s.data.toList)) := fun n => rfl
    generalize parB s = PB at *
    generalize parX s = PX at *
    generalize parL s = PL at *
    generalize getS s.data.toList = GS at *
    generalize getX s.data.toList = X at *
    generalize hZ : Hd.z = Z at *
    go_enter Try.func52, Try.ntmps52
    go_wp2_with fail
    generalize hW : World.alloc w _ = w0
    have HX0 : Hid (w0.heap[w.heap.size]? = some (.cells (headC Z (.slice none 0 0)) 43 (0, 0))) := by rw [← hW, ← hZ]; exact heap_alloc_new _ _
    have HB0 : Hid (Below w.heap.size w w0) := by rw [← hW]; exact (Below.refl _ w).alloc (Nat.le_refl _) _
    have hw0 : w.heap.size < w0.heap.size := by rw [← hW]; simp
    clear hW
    refine (GA.out _).mono ?_
    rintro e w1 ⟨ad, cap, rfl, hE, hfar, hb⟩
    have HFA := hdhid (hfar.low (Nat.le_of_lt hw0))
    clear hfar
    have HE1 := hdhid hE
    have HX1 : Hid (w1.heap[w.heap.size]? = some (.cells (headC Z (.slice none 0 0)) 43 (0, 0))) := (hb.block _ hw0).trans HX0.out
    have HB1 : Hid (Below w.heap.size w w1) := HB0.out.trans (hb.mono (by omega))
    have hw1 : w.heap.size < w1.heap.size := by have := hb.size; omega
    clear hE hb GA HX0 HB0 hw0
    generalize hn : X.list.length = n at *
    have hc8 : ∀ V, V = w1.alloc (.cells (headC X (.slice ad n cap)) 43) → V.cell? ⟨w1.heap.size, 8, none⟩ = some (.slice ad n cap) := fun V hV => by rw [cell_of_row V w1.heap.size _ _ 43 (0, 0) (by rw [hV]; exact heap_alloc_new _ _)]; rfl
    have hc9 := hc8 _ rfl
    clear hc8
    have ee : (256 : Int) * (1 + (n : Int)) = ((256 * (1 + n) : Nat) : Int) := by omega
    by_cases hlt : 256 * (1 + n) ≤ s.size
    · have hfs : (s.extract 0 256).size ≤ 1000 := by rw [ByteArray.size_extract]; omega
      have hbs : (s.extract 256 (256 * (1 + n))).size = 256 * n := by rw [ByteArray.size_extract]; omega
      have SU := hdhid (fun w1 => HSU.out w1 (s.extract 0 256) (s.extract 256 (256 * (1 + n))) hfs (by omega))
      have SP := hdhid (fun w1 => HSP.out w1 (s.extract 256 (256 * (1 + n))) n hbs (by omega))
      have HS := hdhid (HSB.out n)
      rw [decide_eq_true hlt, Bool.true_and] at HPB
      have eF : frontB s = s.extract 0 256 := rfl
      have eB : bodyB s n = s.extract 256 (256 * (1 + n)) := rfl
      rw [eF, eB] at HS
      rw [eB] at HPY
      generalize hE2 : 256 * (1 + n) = E at *
      clear hfs hbs HSU HSP HSB eF eB
      generalize hFB : s.extract 0 256 = FB at *
      generalize hBB : s.extract 256 E = BB at *
      generalize sumL FB.data.toList BB.data.toList = sm at *
      generalize sumB s n = SB at *
      have HPBe := HPB.out
      subst HPBe
      have hd : decide ((s.size : Int) < (E : Int)) = false := decide_eq_false (by omega)
      have hd2 : ¬ ((s.size : Int) < (E : Int)) := by omega
      have hk1 : 256 ≤ E := by omega
      have hk2 : (256 : Int) ≤ (E : Int) := by omega
      have hk3 : (E : Int) ≤ (s.size : Int) := by omega
      have hk4 : (256 : Int) ≤ (s.size : Int) := by omega
      have HE2 := hdhid hE2
      have HX2 : Hid (∀ c, (w1.alloc c).heap[w.heap.size]? = some (.cells (headC Z (.slice none 0 0)) 43 (0, 0))) := fun c => (heap_alloc_old _ _ hw1).trans HX1.out
      clear HPB HX1 hE2
      go_wp2_with (first
        | (refine wpList_store_row rfl 43 (.tmp 5) (.tmp 14) rfl w1.heap.size (headC X (.slice ad n cap)) rfl rfl 43 _ (heap_alloc_new _ _) Try.headSize rfl (headC_one X _ _ _) ?_; rw [World.setRow_alloc_new])
        | fail)
      generalize hV : World.alloc w1 _ = V
      have HHV : Hid (V.heap[w1.heap.size]? = some (.cells (headC X (.slice ad n cap)) 43 (0, 0))) := by rw [← hV]; exact heap_alloc_new _ _
      have HXV : Hid (V.heap[w.heap.size]? = some (.cells (headC Z (.slice none 0 0)) 43 (0, 0))) := by rw [← hV]; exact HX2.out _
      have HBV : Hid (Below w.heap.size w V) := by rw [← hV]; exact HB1.out.alloc (by omega) _
      have HBV1 : Hid (Below w1.heap.size w1 V) := by rw [← hV]; exact (Below.refl _ _).alloc (Nat.le_refl _) _
      have HEV := hdhid (HE1.out.on HBV1.out)
      have hV1 : w1.heap.size < V.heap.size := by rw [← hV]; simp
      clear hV HX2 HB1 HBV1 HE1 hc9
      go_quiet (fail)
      generalize hV2 : V.drewN nq = V2
      have HH2 : Hid (V2.heap[w1.heap.size]? = some (.cells (headC X (.slice ad n cap)) 43 (0, 0))) := by rw [← hV2]; exact HHV.out
      have HX3 : Hid (V2.heap[w.heap.size]? = some (.cells (headC Z (.slice none 0 0)) 43 (0, 0))) := by rw [← hV2]; exact HXV.out
      have HB2 : Hid (Below w.heap.size w V2) := by rw [← hV2]; exact ⟨HBV.out.os, HBV.out.tape, HBV.out.output, HBV.out.size, HBV.out.block⟩
      have HE3 : Hid (Ents V2 (.slice ad n cap) X.list) := by rw [← hV2]; exact HEV.out
      have hv2 : w1.heap.size < V2.heap.size := by rw [← hV2]; exact hV1
      clear hV2 HHV HXV HBV HEV hV1 hFB hBB
      go_wp2_with fail
      refine (SU.out _).mono ?_
      rintro e y ⟨rfl, rfl⟩
      clear SU
      by_cases heq : (sm : Int) = GS
      · have hPB : decide ((sm : Int) = GS) = true := decide_eq_true heq
        have hne : ((sm : Int) != GS) = false := by rw [heq]; simp
        have hPB2 := HS.out.trans hPB
        obtain ⟨hp1, hp2⟩ := HPY.out hPB2
        subst hPB2 hp1 hp2
        clear HPY HPN HS heq hPB
        have HO3 : Hid (EOff V2 w.heap.size (.slice ad PX.list.length cap) PX.list) := by
          rw [hn]
          exact HE3.out.off (by rw [hZ]; exact HX3.out) hok
        have HX4 : Hid (V2.heap[w.heap.size]? = some (.cells (headC ⟨0, 0, 0, 0, 0, 0, 0, 0, []⟩ (.slice none 0 0)) 43 (0, 0))) := by
          have := HX3.out
          rw [← hZ] at this
          exact this
        clear HE3 HX3 hZ
        obtain ⟨house, gen, life, seq, next, clock, sb, sn, l⟩ := PX
        have hn2 : l.length = n := hn
        subst hn2
        clear hn hok
        obtain ⟨x0, x1, x2, x3, x4, x5, x6, x7, x8⟩ := cells9 HH2.out
        go_wp2_with fail
        have hp : Below V2.heap.size V2 V2 := Below.refl _ _
        go_region_with ((go_at_call 70; refine (SP.out _).mono ?_; rintro e y1 ⟨bv, rfl, qt, qb⟩; have hp := hp.trans (Below.mono (show Below _ _ y1 from ⟨qb.os, qb.tape, qb.output, qb.size, qb.block⟩) hp.size); obtain ⟨x0, x1, x2, x3, x4, x5, x6, x7, x8⟩ := cells9 ((hp.block _ (by omega)).trans HH2.out); obtain ⟨a0, a1, a2, a3, a4, a5, a6, a7, a8⟩ := cells9 ((hp.block _ (by omega)).trans HX4.out); have f0 := frozen_of_row y1 w.heap.size 0 _ _ ((hp.block _ (by omega)).trans HX4.out); have f1 := frozen_of_row y1 w.heap.size 1 _ _ ((hp.block _ (by omega)).trans HX4.out); have f2 := frozen_of_row y1 w.heap.size 2 _ _ ((hp.block _ (by omega)).trans HX4.out); have f3 := frozen_of_row y1 w.heap.size 3 _ _ ((hp.block _ (by omega)).trans HX4.out); have f4 := frozen_of_row y1 w.heap.size 4 _ _ ((hp.block _ (by omega)).trans HX4.out); have f5 := frozen_of_row y1 w.heap.size 5 _ _ ((hp.block _ (by omega)).trans HX4.out); have f6 := frozen_of_row y1 w.heap.size 6 _ _ ((hp.block _ (by omega)).trans HX4.out); have f7 := frozen_of_row y1 w.heap.size 7 _ _ ((hp.block _ (by omega)).trans HX4.out); have f8 := frozen_of_row y1 w.heap.size 8 _ _ ((hp.block _ (by omega)).trans HX4.out)))
        all_goals
          clear HH2 HX4 SP
          go_wp2_with fail
          refine bodyPost_ret (v := .tuple #[headV ⟨house, gen, life, seq, next, clock, sb, sn, l⟩ (.slice ad l.length cap), bv, .bool true]) (by simp [results, Try.results52, go_sem, a0, a1, a2, a3, a4, a5, a6, a7, a8]) rfl ⟨_, _, rfl, ?_, HFA.out, ?_, ?_⟩
          · refine EOff.ents (g := w.heap.size) ?_
            iterate 9 refine EOff.turned ?_ rfl _
            exact HO3.out.on hp
          · refine TOwn.low (base := V2.drew.heap.size) ?_ (by show _ ≤ V2.heap.size; omega)
            iterate 9 refine TOwn.other ?_ (by show w.heap.size < V2.heap.size; omega) _
            exact qt
          · iterate 9 refine Below.setCell ?_ (by dsimp only; omega) _
            exact HB2.out.trans (hp.mono (by omega))
      · have hPB : decide ((sm : Int) = GS) = false := decide_eq_false heq
        have hne : ((sm : Int) != GS) = true := bne_iff_ne.2 heq
        have hPB2 := HS.out.trans hPB
        obtain ⟨hp1, hp2⟩ := HPN.out hPB2
        have hp3 := hp1.symm
        subst hPB2 hp3 hp2
        clear HPY HPN HS heq hPB hp1
        go_wp2_with (first
          | (refine wpList_store_row rfl 43 (.tmp 2) (.tmp 40) rfl w.heap.size (headC Hd.z (.slice none 0 0)) rfl rfl 43 _ HX3.out Try.headSize rfl (headC_one Hd.z _ _ _) ?_)
          | fail)
        refine bodyPost_ret (v := .tuple #[headV Z (.slice none 0 0), .slice none 0 0, .bool false]) (results_ctt_row Try.results52 _ _ w.heap.size 43 (headC Z (.slice none 0 0)) (0, 0) _ rfl (setRow_heap _ _ _ _ _ _ HX3.out) Try.underlying43 rfl Try.headSize) rfl ⟨_, _, rfl, (by rw [← hZ]; exact Ents.nil _), VFar.nil _ _ _, TOwn.nil _ _, ?_⟩
        exact below_setRow HB2.out (Nat.le_refl _) _
    · have hPB : PB = false := by rw [HPB.out, decide_eq_false hlt, Bool.false_and]
      obtain ⟨hp1, hp2⟩ := HPN.out hPB
      have hp3 := hp1.symm
      subst hPB hp3 hp2
      have hd : decide ((s.size : Int) < 256 * (1 + (n : Int))) = true := decide_eq_true (by omega)
      have HX2 : Hid (∀ c, (w1.alloc c).heap[w.heap.size]? = some (.cells (headC Z (.slice none 0 0)) 43 (0, 0))) := fun c => (heap_alloc_old _ _ hw1).trans HX1.out
      clear HPB HPY HPN HSB HSU HSP HE1 HX1 hlt ee hp1
      go_wp2_with (first
        | (refine wpList_store_row rfl 43 (.tmp 5) (.tmp 14) rfl w1.heap.size (headC X (.slice ad n cap)) rfl rfl 43 _ (heap_alloc_new _ _) Try.headSize rfl (headC_one X _ _ _) ?_; rw [World.setRow_alloc_new])
        | (refine wpList_store_row rfl 43 (.tmp 2) (.tmp 29) rfl w.heap.size (headC Hd.z (.slice none 0 0)) rfl rfl 43 _ (HX2.out _) Try.headSize rfl (headC_one Hd.z _ _ _) ?_)
        | fail)
      refine bodyPost_ret (v := .tuple #[headV Z (.slice none 0 0), .slice none 0 0, .bool false]) (results_ctt_row Try.results52 _ _ w.heap.size 43 (headC Z (.slice none 0 0)) (0, 0) _ rfl (setRow_heap _ _ _ _ _ _ (HX2.out _)) Try.underlying43 rfl Try.headSize) rfl ⟨_, _, rfl, (by rw [← hZ]; exact Ents.nil _), VFar.nil _ _ _, TOwn.nil _ _, ?_⟩
      exact below_setRow (HB1.out.alloc (by omega) _) (Nat.le_refl _) _
theorem parse_t (s : ByteArray) (w : World) (hl : s.size ≤ 100000) :
    Calls Try.prog 52 #[.string s] w fun e w' => ∃ v bv, e = .returned (.tuple #[headV (parX s) v, bv, .bool (parB s)]) ∧ Ents w' v (parX s).list ∧ TOwn w' w.heap.size bv (parL s) ∧ Below w.heap.size w w' :=
  (parse_far s w hl).mono fun _ _ ⟨v, bv, h1, h2, _, h4, h5⟩ => ⟨v, bv, h1, h2, h4, h5⟩
end Go.Proofs.Ytaiebhkjkeadoaa
