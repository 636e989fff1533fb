/- The laws' own few and copied walked. -/
import Derived.Test.YtdhdjnpgebddmaaTabGetAll
namespace Go.Proofs.Ytdhdjnpgebddmaa
open Go.RowKit Tab

/-- Not too much? -/
def fewB (l : List Ho) : Bool := (l.take 20).all (fun h => decide (h.segs.length ≤ 60)) && decide (l.length ≤ 20)

set_option maxHeartbeats 1000000 in
theorem few_t (l : List Ho) (v : Value) (w : World) (hH : Houses w v l) (hl : l.length ≤ 9223372036854775807) (hs : ∀ x ∈ l, x.segs.length ≤ 9223372036854775807) :
    Calls Try.prog 8 #[v] w fun e w' => e = .returned (.bool (fewB l)) ∧ w = w' := by
  obtain ⟨ad, cap, rfl, hc⟩ := hH
  have HC := tabhid hc
  have HS := tabhid hs
  clear hc hs
  go_enter Try.func8, Try.ntmps8
  go_wp2_with fail
  go_loopw [3] (fun c wr => ∃ (i : Nat), i ≤ 20 ∧ i ≤ l.length ∧ c = .int .i64 i ∧ Hid ((l.take i).all (fun h => decide (h.segs.length ≤ 60)) = true) ∧ w = wr) (fun c _ => 20 - (intOf c).toNat)
  case atStart => exact ⟨0, by omega, by omega, rfl, rfl, rfl⟩
  case round =>
    obtain ⟨i, hi, hil, rfl, HA, rfl⟩ := hrel
    by_cases hlt : i < l.length ∧ i < 20
    · obtain ⟨h1, h2⟩ := hlt
      obtain ⟨b, off, rfl, hb, hcell⟩ := HC.out (by omega)
      obtain ⟨sv, hh⟩ := hcell i h1
      have hsl := HS.out l[i] (List.getElem_mem h1)
      have c9 := hh.2.2.2.2.2.2.2.2.2.1
      obtain ⟨sa, sc, rfl, -, -⟩ := hh.2.2.2.2.2.2.2.2.2.2
      have HT : Hid ((l.take (i + 1)).all (fun h => decide (h.segs.length ≤ 60)) = decide (l[i].segs.length ≤ 60)) := by
        show _ = _
        rw [List.take_succ_eq_append_getElem h1, List.all_append, HA.out]
        simp
      have HF : Hid (¬ l[i].segs.length ≤ 60 → fewB l = false) := by
        intro hf
        unfold fewB
        have : (l.take 20).all (fun h => decide (h.segs.length ≤ 60)) = false := by
          rw [List.all_eq_false]
          refine ⟨l[i], ?_, by simpa using hf⟩
          rw [List.mem_iff_getElem]
          exact ⟨i, by rw [List.length_take]; omega, by simp⟩
        rw [this]
        rfl
      clear hh hcell HC
      generalize l[i].segs.length = n at *
      by_cases hn : n ≤ 60
      · have HT2 : Hid ((l.take (i + 1)).all (fun h => decide (h.segs.length ≤ 60)) = true) := by rw [HT.out]; exact decide_eq_true hn
        go_wp2_with fail
        exact ⟨⟨i + 1, by omega, by omega, by go_num, HT2, trivial⟩, by simp [intOf]; omega⟩
      · have HF2 := tabhid (HF.out hn)
        have hn2 : 60 < n := by omega
        go_wp2_with fail
        go_ret
        exact ⟨tabBool HF2.out.symm, rfl⟩
    · have HE : Hid (fewB l = decide (l.length ≤ 20)) := by
        show _ = _
        unfold fewB
        have e : l.take 20 = l.take i := by
          rcases Nat.lt_or_ge i l.length with h | h
          · have : i = 20 := by omega
            rw [this]
          · rw [List.take_of_length_le (by omega), List.take_of_length_le (by omega)]
        rw [e, HA.out]
        rfl
      by_cases h1 : i < l.length
      · have h2 : ¬ i < 20 := by omega
        have h3 : ¬ l.length ≤ 20 := by omega
        have HE2 : Hid (false = fewB l) := by rw [HE.out]; exact (decide_eq_false h3).symm
        have h4 : decide ((l.length : Int) ≤ 20) = false := by simp; omega
        clear hlt
        go_wp2_with fail
        go_ret
        exact ⟨tabBool HE2.out, rfl⟩
      · have h3 : l.length ≤ 20 := by omega
        have HE2 : Hid (decide ((l.length : Int) ≤ 20) = fewB l) := by rw [HE.out]; exact decide_eq_decide.2 (by omega)
        clear hlt
        go_wp2_with fail
        go_ret
        exact ⟨tabBool HE2.out, rfl⟩

/-- Numbers that a row of one's own holds; such a row. -/
theorem intsOwned {w : World} {base : Nat} {v : Value} {l : List Int} (h : w.ownsRow base 3 1 v l.length (icells l)) : Ints w v l := by
  rcases h.2 with ⟨rfl, h0⟩ | ⟨g, cap, cur, rfl, hbg, hg, hle, hmx, hcs, htk⟩
  · exact ⟨none, 0, by rw [h0], fun _ => rfl, fun h => by omega⟩
  · refine ⟨some ⟨g, 0, none⟩, cap, rfl, (fun h => by cases h), fun _ => ⟨g, 0, rfl, (Array.getElem?_eq_some_iff.1 hg).1, fun j hj => ?_⟩⟩
    rw [cell_of_row w g _ cur 3 _ hg, Nat.zero_add, ← icells_get l j hj, ← htk, Nat.mul_one, List.getElem?_take_of_lt hj, Array.getElem?_toList]
theorem rowOwned {w : World} {base n : Nat} {v : Value} {xs : List Value} (h : w.ownsRow base 3 1 v n xs) : IntRow w v := by
  intro g hg
  rcases h.2 with ⟨rfl, h0⟩ | ⟨g', cap, cur, rfl, hbg, hh, _⟩
  · simp [Value.ownBlock] at hg
  · simp only [Value.ownBlock, Option.some.injEq] at hg
    subst hg
    exact ⟨cur, hh⟩

set_option maxRecDepth 10000 in
set_option maxHeartbeats 4000000 in
theorem copied_t (l : List Ho) (v : Value) (w : World) (hH : Houses w v l) (hl : l.length ≤ 20) (hs : ∀ x ∈ l, x.segs.length ≤ 60) :
    Calls Try.prog 11 #[v] w fun e w' => (∃ v', e = .returned v' ∧ Houses w' v' l) ∧ Below w.heap.size w w' := by
  obtain ⟨i0, hi0, hz0, hz1, hz2⟩ := info_parts Try.tabInfoH
  obtain ⟨j0, hj0, hy0, hy1, hy2⟩ := info_parts Try.tabInfo3
  obtain ⟨ad, cap, rfl, hc⟩ := hH
  have HC := tabhid hc
  have HS := tabhid hs
  clear hc hs
  go_enter Try.func11, Try.ntmps11
  go_wp2_with fail
  go_loopw [3, 4] (fun mv c wr => ∃ (i : Nat) (L : List (Ho × Value)), i ≤ l.length ∧ L.length = i ∧ c = .int .i64 i ∧ Hid (L.map (·.1) = l.take i) ∧ Hid (∀ q ∈ L, Ints wr q.2 q.1.segs ∧ IntRow wr q.2) ∧ Hid (wr.ownsRow w.heap.size 42 10 mv L.length (hcells L)) ∧ Hid (Below w.heap.size w wr)) (fun _ c _ => l.length - (intOf c).toNat)
  case atStart => exact ⟨0, [], by omega, rfl, rfl, by show _ = _; simp, (fun q hq => by cases hq), ⟨rfl, .inl ⟨rfl, rfl⟩⟩, Below.refl _ _⟩
  case round =>
    obtain ⟨i, L, hi, hLl, rfl, HL, HI, HO, HW⟩ := hrel
    have hws := HW.out.size
    by_cases hlt : i < l.length
    · obtain ⟨b, off, rfl, hb, hcell⟩ := HC.out (by omega)
      obtain ⟨sv, hh⟩ := hcell i hlt
      have hh2 := hh.on hb HW.out
      have hsl := HS.out l[i] (List.getElem_mem hlt)
      have HSN : Hid (l.take (i + 1) = l.take i ++ [l[i]]) := List.take_succ_eq_append_getElem hlt
      have hblt : b < wr.heap.size := Nat.lt_of_lt_of_le hb HW.out.size
      clear hh hcell HC
      obtain ⟨c0, c1, c2, c3, c4, c5, c6, c7, c8, c9, hI⟩ := hh2
      obtain ⟨sa, sc, rfl, hsn, hsc⟩ := hI
      generalize l[i] = x at *
      obtain ⟨W, hW⟩ : ∃ W, W = wr.alloc (.cells #[.int .i64 x.st, .int .i64 x.gen, .int .i64 x.lim.s, .int .i64 x.lim.hb, .int .i64 x.lim.sb, .int .i64 x.lim.hn, .int .i64 x.lim.sn, .int .i64 x.lim.gr, .int .i64 x.lim.bu, .slice sa x.segs.length sc] 42) := ⟨_, rfl⟩
      have HWB : Hid (Below wr.heap.size wr W) := by rw [hW]; exact (Below.refl _ wr).alloc (Nat.le_refl _) _
      have HWN : Hid (W.heap[wr.heap.size]? = some (.cells (houseCells x (.slice sa x.segs.length sc)) 42 (0, 0))) := by rw [hW]; exact heap_alloc_new _ _
      have hWs : wr.heap.size < W.heap.size := by rw [hW]; simp
      have HWE := tabhid hW
      clear hW
      by_cases hsl0 : x.segs.length = 0
      · have hnil := List.length_eq_zero_iff.1 hsl0
        rw [hsl0] at c9
        clear hsc
        cases sa with
        | none =>
          have : sc = 0 := hsn rfl
          subst this
          clear hsn
          rw [hsl0] at HWE HWN
          go_wp2_with (first | (rw [← HWE.out]; refine wpList_append_own_none rfl _ _ 36 rfl W.heap.size 3 j0 1 Try.underlying36 hj0 _ 0 [] rfl ⟨rfl, .inl ⟨rfl, rfl⟩⟩ rfl ((?_ : Hid (0 = 0) → _) rfl)) | fail)
          intro _
          have hs1 : W.heap.size ≤ W.heap.size := Nat.le_refl _
          have HZ := HWN
          have BW := HWB
          have HI1 : Hid (Ints W (.slice none 0 0) x.segs) := by rw [hnil]; exact Ints.nil _
          have HR1 : Hid (IntRow W (.slice none 0 0)) := fun g hg => by simp [Value.ownBlock] at hg
          clear c0 c1 c2 c3 c4 c5 c6 c7 c8 c9
          have hbs : wr.heap.size < W.heap.size := Nat.lt_of_lt_of_le hWs hs1
          have r0 : W.cell? ⟨wr.heap.size, 0, none⟩ = some (.int .i64 x.st) := by rw [cell_of_row W _ _ _ _ _ HZ.out]; rfl
          have r1 : W.cell? ⟨wr.heap.size, 1, none⟩ = some (.int .i64 x.gen) := by rw [cell_of_row W _ _ _ _ _ HZ.out]; rfl
          have r2 : W.cell? ⟨wr.heap.size, 2, none⟩ = some (.int .i64 x.lim.s) := by rw [cell_of_row W _ _ _ _ _ HZ.out]; rfl
          have r3 : W.cell? ⟨wr.heap.size, 3, none⟩ = some (.int .i64 x.lim.hb) := by rw [cell_of_row W _ _ _ _ _ HZ.out]; rfl
          have r4 : W.cell? ⟨wr.heap.size, 4, none⟩ = some (.int .i64 x.lim.sb) := by rw [cell_of_row W _ _ _ _ _ HZ.out]; rfl
          have r5 : W.cell? ⟨wr.heap.size, 5, none⟩ = some (.int .i64 x.lim.hn) := by rw [cell_of_row W _ _ _ _ _ HZ.out]; rfl
          have r6 : W.cell? ⟨wr.heap.size, 6, none⟩ = some (.int .i64 x.lim.sn) := by rw [cell_of_row W _ _ _ _ _ HZ.out]; rfl
          have r7 : W.cell? ⟨wr.heap.size, 7, none⟩ = some (.int .i64 x.lim.gr) := by rw [cell_of_row W _ _ _ _ _ HZ.out]; rfl
          have r8 : W.cell? ⟨wr.heap.size, 8, none⟩ = some (.int .i64 x.lim.bu) := by rw [cell_of_row W _ _ _ _ _ HZ.out]; rfl
          have r9 : W.cell? ⟨wr.heap.size, 9, none⟩ = some (.slice none 0 0) := by rw [cell_of_row W _ _ _ _ _ HZ.out]; rfl
          have fz : W.frozen? ⟨wr.heap.size, 9, none⟩ = false := frozen_of_row W _ _ _ _ HZ.out
          obtain ⟨V, hV⟩ : ∃ V, V = W.setCell ⟨wr.heap.size, 9, none⟩ (Value.slice none 0 0) := ⟨_, rfl⟩
          have HVE := tabhid hV
          have HVN : Hid (V.heap[wr.heap.size]? = some (.cells (houseCells x (Value.slice none 0 0)) 42 (0, 0))) := by rw [hV]; exact heap_setCell_same W wr.heap.size 9 _ _ _ HZ.out
          have hVs : V.heap.size = W.heap.size := by rw [hV]; simp [World.setCell]
          have HVS := tabhid hVs
          have hVo : ∀ g, g ≠ wr.heap.size → V.heap[g]? = W.heap[g]? := fun g hg => by rw [hV]; exact Below.heap_setCell _ _ _ _ hg
          have HVO := tabhid hVo
          have BV : Hid (Below wr.heap.size wr V) := by rw [hV]; exact BW.out.setCell (Nat.le_refl _) _
          clear hV hVs hVo
          have hVl : wr.heap.size < V.heap.size := by rw [HVS.out]; exact hbs
          go_wp2_with (first | (rw [← HVE.out]; refine wpList_append_lies _ rfl _ _ 22 rfl w.heap.size 42 i0 _ 10 96 Try.underlying22 hi0 hz0 hz1 hz2 rfl (by decide) _ L.length (hcells L) rfl ?_ ⟨W.heap.size, 0, none⟩ 1 1 (houseCells x (Value.slice none 0 0)).toList rfl rfl ?_ ?_ (by decide) (by unfold maxLen; omega) (by omega) ?_ (V.heap.size + 1) (by simp) ?_) | fail)
          · exact ownsRow_on HO.out (BV.out.alloc (by omega) _)
          · exact World.news_of_block (cs := houseCells x (Value.slice none 0 0)) (alloc_at HVS.out)
          · intro u hu
            simp only [houseCells, List.mem_cons, List.not_mem_nil, or_false] at hu
            rcases hu with rfl | rfl | rfl | rfl | rfl | rfl | rfl | rfl | rfl | rfl <;> first | rfl | exact HI1.out.one
          · simp
            omega
          intro g cap7 w7 hown7 hgrow7 hat7 hlt7
          have hrow : ∀ (g : Nat) (c : Array Value), V.heap[g]? = some (.cells c 3 (0, 0)) → u3.ownBlock ≠ some g := by
            intro g c hg h
            rcases HO.out.2 with ⟨rfl, _⟩ | ⟨g2, cap2, cur2, rfl, _, hg2, _⟩
            · simp [Value.ownBlock] at h
            · simp only [Value.ownBlock, Option.some.injEq] at h
              subst h
              rw [BV.out.block _ (Array.getElem?_eq_some_iff.1 hg2).1, hg2] at hg
              cases hg
          have K : ∀ (g : Nat) (c : Array Value), V.heap[g]? = some (.cells c 3 (0, 0)) → w7.heap[g]? = some (.cells c 3 (0, 0)) := by
            intro g c hg
            have hlt : g < V.heap.size := (Array.getElem?_eq_some_iff.1 hg).1
            rw [hgrow7.block g (by simp; omega) (Ne.symm (hrow g c hg)), Below.heap_alloc _ _ _ hlt]
            exact hg
          have K1 : ∀ (g : Nat) (c : Array Value), W.heap[g]? = some (.cells c 3 (0, 0)) → w7.heap[g]? = some (.cells c 3 (0, 0)) := by
            intro g c hg
            refine K g c ?_
            rw [HVO.out g (fun e => by rw [e, HZ.out] at hg; cases hg)]
            exact hg
          have hs7 : W.heap.size ≤ w7.heap.size := by
            have := hgrow7.size
            have h2 := HVS.out
            simp at this
            omega
          have HI7 : Hid (∀ q ∈ L ++ [(x, (Value.slice none 0 0))], Ints w7 q.2 q.1.segs ∧ IntRow w7 q.2) := by
            intro q hq
            rcases List.mem_append.1 hq with hq | hq
            · have h := HI.out q hq
              exact ints_far h.1 h.2 (fun g c hg => K1 g c (by rw [BW.out.block _ (Array.getElem?_eq_some_iff.1 hg).1]; exact hg)) (by omega)
            · rw [List.mem_singleton.1 hq]
              exact ints_far HI1.out HR1.out K1 hs7
          have HO7 : Hid (w7.ownsRow w.heap.size 42 10 (.slice (some ⟨g, 0, none⟩) (i + 1) cap7) (L ++ [(x, (Value.slice none 0 0))]).length (hcells (L ++ [(x, (Value.slice none 0 0))]))) := by
            show World.ownsRow _ _ _ _ _ _ _
            rw [hcells_append, hcells_one, List.length_append, hLl]
            exact hown7
          have HL7 : Hid ((L ++ [(x, (Value.slice none 0 0))]).map (·.1) = l.take (i + 1)) := by
            show _ = _
            rw [List.map_append, HL.out, HSN.out]
            rfl
          have HW7 : Hid (Below w.heap.size w w7) := by
            have h1 : Below w.heap.size w V := HW.out.trans (BV.out.mono hws)
            exact (h1.alloc h1.size _).grown hgrow7 (by simp; have := h1.size; omega) (fun q hq => (HO.out.lt q hq).1)
          clear hown7 hgrow7 hat7 hrow K K1 HO HI HL HW BW BV HZ r0 r1 r2 r3 r4 r5 r6 r7 r8 r9
          go_wp2_with fail
          exact ⟨⟨i + 1, L ++ [(x, (Value.slice none 0 0))], by omega, by simp [hLl], by go_num, HL7, HI7, HO7, HW7⟩, by simp [intOf]; omega⟩
        | some sad =>
          clear hsn
          rw [hsl0] at HWE HWN
          go_wp2_with (first | (rw [← HWE.out]; refine wpList_append_own _ rfl _ _ 36 rfl W.heap.size 3 j0 _ 1 8 Try.underlying36 hj0 hy0 hy1 hy2 rfl (by decide) _ 0 [] rfl ⟨rfl, .inl ⟨rfl, rfl⟩⟩ sad 0 sc [] rfl rfl (fun j u hj => by cases hj) (fun u hu => by cases hu) (by unfold maxLen; omega) (by omega) (Nat.le_refl _) ?_) | fail)
          intro v1 w1 hown hgr hnil1
          have hs1 : W.heap.size ≤ w1.heap.size := hgr.size
          have HZ : Hid (w1.heap[wr.heap.size]? = some (.cells (houseCells x (.slice (some sad) 0 sc)) 42 (0, 0))) := by
            show _ = _
            rw [hgr.block _ hWs (by simp [Value.ownBlock])]
            exact HWN.out
          have BW : Hid (Below wr.heap.size wr w1) := HWB.out.grown hgr (by omega) (fun k hk => by simp [Value.ownBlock] at hk)
          have HI1 : Hid (Ints w1 v1 x.segs) := intsOwned (by rw [hnil]; exact hown)
          have HR1 : Hid (IntRow w1 v1) := rowOwned hown
          clear hown hgr hnil1 c0 c1 c2 c3 c4 c5 c6 c7 c8 c9
          obtain ⟨va, vc, hv1, -, -⟩ := HI1.out
          rw [hsl0] at hv1
          subst hv1
          have hbs : wr.heap.size < w1.heap.size := Nat.lt_of_lt_of_le hWs hs1
          have r0 : w1.cell? ⟨wr.heap.size, 0, none⟩ = some (.int .i64 x.st) := by rw [cell_of_row w1 _ _ _ _ _ HZ.out]; rfl
          have r1 : w1.cell? ⟨wr.heap.size, 1, none⟩ = some (.int .i64 x.gen) := by rw [cell_of_row w1 _ _ _ _ _ HZ.out]; rfl
          have r2 : w1.cell? ⟨wr.heap.size, 2, none⟩ = some (.int .i64 x.lim.s) := by rw [cell_of_row w1 _ _ _ _ _ HZ.out]; rfl
          have r3 : w1.cell? ⟨wr.heap.size, 3, none⟩ = some (.int .i64 x.lim.hb) := by rw [cell_of_row w1 _ _ _ _ _ HZ.out]; rfl
          have r4 : w1.cell? ⟨wr.heap.size, 4, none⟩ = some (.int .i64 x.lim.sb) := by rw [cell_of_row w1 _ _ _ _ _ HZ.out]; rfl
          have r5 : w1.cell? ⟨wr.heap.size, 5, none⟩ = some (.int .i64 x.lim.hn) := by rw [cell_of_row w1 _ _ _ _ _ HZ.out]; rfl
          have r6 : w1.cell? ⟨wr.heap.size, 6, none⟩ = some (.int .i64 x.lim.sn) := by rw [cell_of_row w1 _ _ _ _ _ HZ.out]; rfl
          have r7 : w1.cell? ⟨wr.heap.size, 7, none⟩ = some (.int .i64 x.lim.gr) := by rw [cell_of_row w1 _ _ _ _ _ HZ.out]; rfl
          have r8 : w1.cell? ⟨wr.heap.size, 8, none⟩ = some (.int .i64 x.lim.bu) := by rw [cell_of_row w1 _ _ _ _ _ HZ.out]; rfl
          have r9 : w1.cell? ⟨wr.heap.size, 9, none⟩ = some (.slice (some sad) 0 sc) := by rw [cell_of_row w1 _ _ _ _ _ HZ.out]; rfl
          have fz : w1.frozen? ⟨wr.heap.size, 9, none⟩ = false := frozen_of_row w1 _ _ _ _ HZ.out
          obtain ⟨V, hV⟩ : ∃ V, V = w1.setCell ⟨wr.heap.size, 9, none⟩ (Value.slice va 0 vc) := ⟨_, rfl⟩
          have HVE := tabhid hV
          have HVN : Hid (V.heap[wr.heap.size]? = some (.cells (houseCells x (Value.slice va 0 vc)) 42 (0, 0))) := by rw [hV]; exact heap_setCell_same w1 wr.heap.size 9 _ _ _ HZ.out
          have hVs : V.heap.size = w1.heap.size := by rw [hV]; simp [World.setCell]
          have HVS := tabhid hVs
          have hVo : ∀ g, g ≠ wr.heap.size → V.heap[g]? = w1.heap[g]? := fun g hg => by rw [hV]; exact Below.heap_setCell _ _ _ _ hg
          have HVO := tabhid hVo
          have BV : Hid (Below wr.heap.size wr V) := by rw [hV]; exact BW.out.setCell (Nat.le_refl _) _
          clear hV hVs hVo
          have hVl : wr.heap.size < V.heap.size := by rw [HVS.out]; exact hbs
          go_wp2_with (first | (rw [← HVE.out]; refine wpList_append_lies _ rfl _ _ 22 rfl w.heap.size 42 i0 _ 10 96 Try.underlying22 hi0 hz0 hz1 hz2 rfl (by decide) _ L.length (hcells L) rfl ?_ ⟨w1.heap.size, 0, none⟩ 1 1 (houseCells x (Value.slice va 0 vc)).toList rfl rfl ?_ ?_ (by decide) (by unfold maxLen; omega) (by omega) ?_ (V.heap.size + 1) (by simp) ?_) | fail)
          · exact ownsRow_on HO.out (BV.out.alloc (by omega) _)
          · exact World.news_of_block (cs := houseCells x (Value.slice va 0 vc)) (alloc_at HVS.out)
          · intro u hu
            simp only [houseCells, List.mem_cons, List.not_mem_nil, or_false] at hu
            rcases hu with rfl | rfl | rfl | rfl | rfl | rfl | rfl | rfl | rfl | rfl <;> first | rfl | exact HI1.out.one
          · simp
            omega
          intro g cap7 w7 hown7 hgrow7 hat7 hlt7
          have hrow : ∀ (g : Nat) (c : Array Value), V.heap[g]? = some (.cells c 3 (0, 0)) → u3.ownBlock ≠ some g := by
            intro g c hg h
            rcases HO.out.2 with ⟨rfl, _⟩ | ⟨g2, cap2, cur2, rfl, _, hg2, _⟩
            · simp [Value.ownBlock] at h
            · simp only [Value.ownBlock, Option.some.injEq] at h
              subst h
              rw [BV.out.block _ (Array.getElem?_eq_some_iff.1 hg2).1, hg2] at hg
              cases hg
          have K : ∀ (g : Nat) (c : Array Value), V.heap[g]? = some (.cells c 3 (0, 0)) → w7.heap[g]? = some (.cells c 3 (0, 0)) := by
            intro g c hg
            have hlt : g < V.heap.size := (Array.getElem?_eq_some_iff.1 hg).1
            rw [hgrow7.block g (by simp; omega) (Ne.symm (hrow g c hg)), Below.heap_alloc _ _ _ hlt]
            exact hg
          have K1 : ∀ (g : Nat) (c : Array Value), w1.heap[g]? = some (.cells c 3 (0, 0)) → w7.heap[g]? = some (.cells c 3 (0, 0)) := by
            intro g c hg
            refine K g c ?_
            rw [HVO.out g (fun e => by rw [e, HZ.out] at hg; cases hg)]
            exact hg
          have hs7 : w1.heap.size ≤ w7.heap.size := by
            have := hgrow7.size
            have h2 := HVS.out
            simp at this
            omega
          have HI7 : Hid (∀ q ∈ L ++ [(x, (Value.slice va 0 vc))], Ints w7 q.2 q.1.segs ∧ IntRow w7 q.2) := by
            intro q hq
            rcases List.mem_append.1 hq with hq | hq
            · have h := HI.out q hq
              exact ints_far h.1 h.2 (fun g c hg => K1 g c (by rw [BW.out.block _ (Array.getElem?_eq_some_iff.1 hg).1]; exact hg)) (by omega)
            · rw [List.mem_singleton.1 hq]
              exact ints_far HI1.out HR1.out K1 hs7
          have HO7 : Hid (w7.ownsRow w.heap.size 42 10 (.slice (some ⟨g, 0, none⟩) (i + 1) cap7) (L ++ [(x, (Value.slice va 0 vc))]).length (hcells (L ++ [(x, (Value.slice va 0 vc))]))) := by
            show World.ownsRow _ _ _ _ _ _ _
            rw [hcells_append, hcells_one, List.length_append, hLl]
            exact hown7
          have HL7 : Hid ((L ++ [(x, (Value.slice va 0 vc))]).map (·.1) = l.take (i + 1)) := by
            show _ = _
            rw [List.map_append, HL.out, HSN.out]
            rfl
          have HW7 : Hid (Below w.heap.size w w7) := by
            have h1 : Below w.heap.size w V := HW.out.trans (BV.out.mono hws)
            exact (h1.alloc h1.size _).grown hgrow7 (by simp; have := h1.size; omega) (fun q hq => (HO.out.lt q hq).1)
          clear hown7 hgrow7 hat7 hrow K K1 HO HI HL HW BW BV HZ r0 r1 r2 r3 r4 r5 r6 r7 r8 r9
          go_wp2_with fail
          exact ⟨⟨i + 1, L ++ [(x, (Value.slice va 0 vc))], by omega, by simp [hLl], by go_num, HL7, HI7, HO7, HW7⟩, by simp [intOf]; omega⟩
      · obtain ⟨sb, so, rfl, hsb, hsi⟩ := hsc (by omega)
        have HSI := tabhid hsi
        clear hsi hsc hsn
        go_wp2_with (first | (rw [← HWE.out]; refine wpList_append_own _ rfl _ _ 36 rfl W.heap.size 3 j0 _ 1 8 Try.underlying36 hj0 hy0 hy1 hy2 rfl (by decide) _ 0 [] rfl ⟨rfl, .inl ⟨rfl, rfl⟩⟩ ⟨sb, so, none⟩ x.segs.length sc (icells x.segs) rfl (by rw [icells_length]; omega) ?_ (icells_one _) (by unfold maxLen; omega) (by omega) (Nat.le_refl _) ?_) | fail)
        · intro j u hj
          have hjl : j < x.segs.length := by
            rcases Nat.lt_or_ge j x.segs.length with h | h
            · exact h
            · rw [List.getElem?_eq_none (by rw [icells_length]; exact h)] at hj; cases hj
          rw [icells_get x.segs j hjl] at hj
          rw [← hj, addr_plain, HWB.out.cell hsb]
          exact HSI.out j hjl
        intro v1 w1 hown hgr hnil1
        have hs1 : W.heap.size ≤ w1.heap.size := hgr.size
        have HZ : Hid (w1.heap[wr.heap.size]? = some (.cells (houseCells x (.slice (some ⟨sb, so, none⟩) x.segs.length sc)) 42 (0, 0))) := by
          show _ = _
          rw [hgr.block _ hWs (by simp [Value.ownBlock])]
          exact HWN.out
        have BW : Hid (Below wr.heap.size wr w1) := HWB.out.grown hgr (by omega) (fun k hk => by simp [Value.ownBlock] at hk)
        have HI1 : Hid (Ints w1 v1 x.segs) := intsOwned hown
        have HR1 : Hid (IntRow w1 v1) := rowOwned hown
        clear hown hgr hnil1 c0 c1 c2 c3 c4 c5 c6 c7 c8 c9
        obtain ⟨va, vc, hv1, -, -⟩ := HI1.out
        subst hv1
        have hbs : wr.heap.size < w1.heap.size := Nat.lt_of_lt_of_le hWs hs1
        have r0 : w1.cell? ⟨wr.heap.size, 0, none⟩ = some (.int .i64 x.st) := by rw [cell_of_row w1 _ _ _ _ _ HZ.out]; rfl
        have r1 : w1.cell? ⟨wr.heap.size, 1, none⟩ = some (.int .i64 x.gen) := by rw [cell_of_row w1 _ _ _ _ _ HZ.out]; rfl
        have r2 : w1.cell? ⟨wr.heap.size, 2, none⟩ = some (.int .i64 x.lim.s) := by rw [cell_of_row w1 _ _ _ _ _ HZ.out]; rfl
        have r3 : w1.cell? ⟨wr.heap.size, 3, none⟩ = some (.int .i64 x.lim.hb) := by rw [cell_of_row w1 _ _ _ _ _ HZ.out]; rfl
        have r4 : w1.cell? ⟨wr.heap.size, 4, none⟩ = some (.int .i64 x.lim.sb) := by rw [cell_of_row w1 _ _ _ _ _ HZ.out]; rfl
        have r5 : w1.cell? ⟨wr.heap.size, 5, none⟩ = some (.int .i64 x.lim.hn) := by rw [cell_of_row w1 _ _ _ _ _ HZ.out]; rfl
        have r6 : w1.cell? ⟨wr.heap.size, 6, none⟩ = some (.int .i64 x.lim.sn) := by rw [cell_of_row w1 _ _ _ _ _ HZ.out]; rfl
        have r7 : w1.cell? ⟨wr.heap.size, 7, none⟩ = some (.int .i64 x.lim.gr) := by rw [cell_of_row w1 _ _ _ _ _ HZ.out]; rfl
        have r8 : w1.cell? ⟨wr.heap.size, 8, none⟩ = some (.int .i64 x.lim.bu) := by rw [cell_of_row w1 _ _ _ _ _ HZ.out]; rfl
        have r9 : w1.cell? ⟨wr.heap.size, 9, none⟩ = some (.slice (some ⟨sb, so, none⟩) x.segs.length sc) := by rw [cell_of_row w1 _ _ _ _ _ HZ.out]; rfl
        have fz : w1.frozen? ⟨wr.heap.size, 9, none⟩ = false := frozen_of_row w1 _ _ _ _ HZ.out
        obtain ⟨V, hV⟩ : ∃ V, V = w1.setCell ⟨wr.heap.size, 9, none⟩ (Value.slice va x.segs.length vc) := ⟨_, rfl⟩
        have HVE := tabhid hV
        have HVN : Hid (V.heap[wr.heap.size]? = some (.cells (houseCells x (Value.slice va x.segs.length vc)) 42 (0, 0))) := by rw [hV]; exact heap_setCell_same w1 wr.heap.size 9 _ _ _ HZ.out
        have hVs : V.heap.size = w1.heap.size := by rw [hV]; simp [World.setCell]
        have HVS := tabhid hVs
        have hVo : ∀ g, g ≠ wr.heap.size → V.heap[g]? = w1.heap[g]? := fun g hg => by rw [hV]; exact Below.heap_setCell _ _ _ _ hg
        have HVO := tabhid hVo
        have BV : Hid (Below wr.heap.size wr V) := by rw [hV]; exact BW.out.setCell (Nat.le_refl _) _
        clear hV hVs hVo
        have hVl : wr.heap.size < V.heap.size := by rw [HVS.out]; exact hbs
        go_wp2_with (first | (rw [← HVE.out]; refine wpList_append_lies _ rfl _ _ 22 rfl w.heap.size 42 i0 _ 10 96 Try.underlying22 hi0 hz0 hz1 hz2 rfl (by decide) _ L.length (hcells L) rfl ?_ ⟨w1.heap.size, 0, none⟩ 1 1 (houseCells x (Value.slice va x.segs.length vc)).toList rfl rfl ?_ ?_ (by decide) (by unfold maxLen; omega) (by omega) ?_ (V.heap.size + 1) (by simp) ?_) | fail)
        · exact ownsRow_on HO.out (BV.out.alloc (by omega) _)
        · exact World.news_of_block (cs := houseCells x (Value.slice va x.segs.length vc)) (alloc_at HVS.out)
        · intro u hu
          simp only [houseCells, List.mem_cons, List.not_mem_nil, or_false] at hu
          rcases hu with rfl | rfl | rfl | rfl | rfl | rfl | rfl | rfl | rfl | rfl <;> first | rfl | exact HI1.out.one
        · simp
          omega
        intro g cap7 w7 hown7 hgrow7 hat7 hlt7
        have hrow : ∀ (g : Nat) (c : Array Value), V.heap[g]? = some (.cells c 3 (0, 0)) → u3.ownBlock ≠ some g := by
          intro g c hg h
          rcases HO.out.2 with ⟨rfl, _⟩ | ⟨g2, cap2, cur2, rfl, _, hg2, _⟩
          · simp [Value.ownBlock] at h
          · simp only [Value.ownBlock, Option.some.injEq] at h
            subst h
            rw [BV.out.block _ (Array.getElem?_eq_some_iff.1 hg2).1, hg2] at hg
            cases hg
        have K : ∀ (g : Nat) (c : Array Value), V.heap[g]? = some (.cells c 3 (0, 0)) → w7.heap[g]? = some (.cells c 3 (0, 0)) := by
          intro g c hg
          have hlt : g < V.heap.size := (Array.getElem?_eq_some_iff.1 hg).1
          rw [hgrow7.block g (by simp; omega) (Ne.symm (hrow g c hg)), Below.heap_alloc _ _ _ hlt]
          exact hg
        have K1 : ∀ (g : Nat) (c : Array Value), w1.heap[g]? = some (.cells c 3 (0, 0)) → w7.heap[g]? = some (.cells c 3 (0, 0)) := by
          intro g c hg
          refine K g c ?_
          rw [HVO.out g (fun e => by rw [e, HZ.out] at hg; cases hg)]
          exact hg
        have hs7 : w1.heap.size ≤ w7.heap.size := by
          have := hgrow7.size
          have h2 := HVS.out
          simp at this
          omega
        have HI7 : Hid (∀ q ∈ L ++ [(x, (Value.slice va x.segs.length vc))], Ints w7 q.2 q.1.segs ∧ IntRow w7 q.2) := by
          intro q hq
          rcases List.mem_append.1 hq with hq | hq
          · have h := HI.out q hq
            exact ints_far h.1 h.2 (fun g c hg => K1 g c (by rw [BW.out.block _ (Array.getElem?_eq_some_iff.1 hg).1]; exact hg)) (by omega)
          · rw [List.mem_singleton.1 hq]
            exact ints_far HI1.out HR1.out K1 hs7
        have HO7 : Hid (w7.ownsRow w.heap.size 42 10 (.slice (some ⟨g, 0, none⟩) (i + 1) cap7) (L ++ [(x, (Value.slice va x.segs.length vc))]).length (hcells (L ++ [(x, (Value.slice va x.segs.length vc))]))) := by
          show World.ownsRow _ _ _ _ _ _ _
          rw [hcells_append, hcells_one, List.length_append, hLl]
          exact hown7
        have HL7 : Hid ((L ++ [(x, (Value.slice va x.segs.length vc))]).map (·.1) = l.take (i + 1)) := by
          show _ = _
          rw [List.map_append, HL.out, HSN.out]
          rfl
        have HW7 : Hid (Below w.heap.size w w7) := by
          have h1 : Below w.heap.size w V := HW.out.trans (BV.out.mono hws)
          exact (h1.alloc h1.size _).grown hgrow7 (by simp; have := h1.size; omega) (fun q hq => (HO.out.lt q hq).1)
        clear hown7 hgrow7 hat7 hrow K K1 HO HI HL HW BW BV HZ r0 r1 r2 r3 r4 r5 r6 r7 r8 r9
        go_wp2_with fail
        exact ⟨⟨i + 1, L ++ [(x, (Value.slice va x.segs.length vc))], by omega, by simp [hLl], by go_num, HL7, HI7, HO7, HW7⟩, by simp [intOf]; omega⟩
    · have hil : i = l.length := by omega
      have HH : Hid (Houses wr u3 l) := by
        have := houses_of_owns HO.out (fun p hp => (HI.out p hp).1)
        rw [HL.out, hil, List.take_length] at this
        exact this
      go_wp2_with fail
      go_ret
      exact ⟨⟨u3, rfl, HH.out⟩, HW.out⟩
end Go.Proofs.Ytdhdjnpgebddmaa
