/- The document's own Get walked. -/
import Derived.Test.YtgbgklnlmgpmjaaHeadRefFront
import Derived.Test.YtgbgklnlmgpmjaaHeadFar
import Derived.Deep.RegionWith
namespace Go.Proofs.Ytgbgklnlmgpmjaa
open Go.RowKit Rec Hdp

set_option maxRecDepth 10000 in
set_option maxHeartbeats 2000000 in
theorem rget_short (s : ByteArray) (w : World) (h : s.size < 256) :
    Calls Try.prog 40 #[.string s] w fun e w' => e = .returned noneV ∧ Below w.heap.size w w' := by
  go_enter Try.func40, Try.ntmps40
  go_wp2_with fail
  refine bodyPost_ret (v := noneV) (by simp [results, Try.results40, go_sem]) rfl ⟨rfl, ?_⟩
  exact (Below.refl _ _).alloc (Nat.le_refl _) _

theorem EFar.on {w w' : World} {m : Nat} {v : Value} {l : List En} (h : EFar w m v l) (k : Below w.heap.size w w') : EFar w' m v l := by
  obtain ⟨ad, cap, hv, hn, hc⟩ := h
  refine ⟨ad, cap, hv, hn, fun hl => ?_⟩
  obtain ⟨b, off, ha, hm, hb, hi⟩ := hc hl
  refine ⟨b, off, ha, hm, Nat.lt_of_lt_of_le hb k.size, fun i h => ?_⟩
  obtain ⟨h0, h1, h2⟩ := hi i h
  exact ⟨by rw [k.cell hb]; exact h0, by rw [k.cell hb]; exact h1, by rw [k.cell hb]; exact h2⟩
theorem EFar.drewn {w : World} {m : Nat} {v : Value} {l : List En} (h : EFar w m v l) : EFar w.drew m v l := h
theorem getL_succ (s : List UInt8) (k : Nat) : getL s (k + 1) = getL s k ++ [getE s k] := by simp [getL, List.range_succ]
theorem rnumI_t (s : ByteArray) (a n : Int) (w : World) (h0 : 0 ≤ a) (hn : 0 ≤ n) (hn7 : n ≤ 7) (ha : a + n ≤ s.size) (hl : s.size ≤ 100000) :
    Calls Try.prog 56 #[.string s, .int .i64 a, .int .i64 n] w fun e w' => e = .returned (.int .i64 (numAt s.data.toList a.toNat n.toNat)) ∧ w = w' := by
  have := rnum_t s a.toNat n.toNat w (by omega) (by omega) (by omega)
  rw [show ((a.toNat : Nat) : Int) = a by omega, show ((n.toNat : Nat) : Int) = n by omega] at this
  exact this

/-- What lies there when k entries are read. -/
def RGot (s : List UInt8) (B k : Nat) (X : Hd) (w wr : World) : Prop :=
  ∃ v, wr.heap[B]? = some (.cells (headC Hd.z (.slice none 0 0)) 37 (0, 0)) ∧ wr.heap[B + 1]? = some (.cells (headC X v) 37 (0, 0)) ∧ EOwn wr (B + 2) v (getL s k) ∧ Below B w wr

set_option maxRecDepth 10000 in
set_option maxHeartbeats 8000000 in
theorem rget_full (s : ByteArray) (w : World) (hs : 256 ≤ s.size) (hl : s.size ≤ 100000) :
    Calls Try.prog 40 #[.string s] w fun e w' => ((getB s = true ∧ ∃ ad cap, e = .returned (.tuple #[headV (getX s.data.toList) (.slice ad (getX s.data.toList).list.length cap), .int .i64 (getS s.data.toList), .bool true]) ∧ Ents w' (.slice ad (getX s.data.toList).list.length cap) (getX s.data.toList).list) ∨ (getB s = false ∧ e = .returned noneV)) ∧ Below w.heap.size w w' := by
  obtain ⟨i0, hi0, hz0, hz1, hz2⟩ := info_parts Try.infoE
  have HGB : Hid (getB s = (okB (getX s.data.toList) && decide (front (getX s.data.toList) = s.data.toList.take 252))) := by
    show _ = _
    unfold getB
    rw [decide_eq_true hs, Bool.true_and]
  have EQ : Hid (((⟨(front (getX s.data.toList)).toArray⟩ : ByteArray).toList == (s.extract 0 252).toList) = decide (front (getX s.data.toList) = s.data.toList.take 252)) := by
    show _ = _
    rw [eq_bytes, take_extract]
  have SG : Hid (∀ w1, Calls Try.prog 56 #[.string s, .int .i64 252, .int .i64 4] w1 fun e w' => e = .returned (.int .i64 (getS s.data.toList)) ∧ w1 = w') := fun w1 => rnum_t s 252 4 w1 (by decide) (by omega) (by omega)
  have N36 : Hid (∀ w1, Calls Try.prog 56 #[.string s, .int .i64 36, .int .i64 1] w1 fun e w' => e = .returned (.int .i64 (numAt s.data.toList 36 1)) ∧ w1 = w') := fun w1 => rnum_t s 36 1 w1 (by decide) (by omega) (by omega)
  have N0 : Hid (∀ w1, Calls Try.prog 56 #[.string s, .int .i64 4, .int .i64 1] w1 fun e w' => e = .returned (.int .i64 (getX s.data.toList).house) ∧ w1 = w') := fun w1 => rnum_t s 4 1 w1 (by decide) (by omega) (by omega)
  have N1 : Hid (∀ w1, Calls Try.prog 56 #[.string s, .int .i64 5, .int .i64 2] w1 fun e w' => e = .returned (.int .i64 (getX s.data.toList).gen) ∧ w1 = w') := fun w1 => rnum_t s 5 2 w1 (by decide) (by omega) (by omega)
  have N2 : Hid (∀ w1, Calls Try.prog 56 #[.string s, .int .i64 7, .int .i64 3] w1 fun e w' => e = .returned (.int .i64 (getX s.data.toList).life) ∧ w1 = w') := fun w1 => rnum_t s 7 3 w1 (by decide) (by omega) (by omega)
  have N3 : Hid (∀ w1, Calls Try.prog 56 #[.string s, .int .i64 10, .int .i64 6] w1 fun e w' => e = .returned (.int .i64 (getX s.data.toList).seq) ∧ w1 = w') := fun w1 => rnum_t s 10 6 w1 (by decide) (by omega) (by omega)
  have N4 : Hid (∀ w1, Calls Try.prog 56 #[.string s, .int .i64 16, .int .i64 2] w1 fun e w' => e = .returned (.int .i64 (getX s.data.toList).next) ∧ w1 = w') := fun w1 => rnum_t s 16 2 w1 (by decide) (by omega) (by omega)
  have N5 : Hid (∀ w1, Calls Try.prog 56 #[.string s, .int .i64 18, .int .i64 6] w1 fun e w' => e = .returned (.int .i64 (getX s.data.toList).clock) ∧ w1 = w') := fun w1 => rnum_t s 18 6 w1 (by decide) (by omega) (by omega)
  have N6 : Hid (∀ w1, Calls Try.prog 56 #[.string s, .int .i64 24, .int .i64 6] w1 fun e w' => e = .returned (.int .i64 (getX s.data.toList).sb) ∧ w1 = w') := fun w1 => rnum_t s 24 6 w1 (by decide) (by omega) (by omega)
  have N7 : Hid (∀ w1, Calls Try.prog 56 #[.string s, .int .i64 30, .int .i64 6] w1 fun e w' => e = .returned (.int .i64 (getX s.data.toList).sn) ∧ w1 = w') := fun w1 => rnum_t s 30 6 w1 (by decide) (by omega) (by omega)
  have hm := numAt_lt s.data.toList 36 1
  have hXl : (getX s.data.toList).list.length = getN s.data.toList := getL_length _ _
  have HXL : Hid ((getX s.data.toList).list = getL s.data.toList (getN s.data.toList)) := rfl
  have hn24 := getN_le s.data.toList
  have hnm : (getN s.data.toList : Int) = min (numAt s.data.toList 36 1) 24 := by unfold getN; omega
  have HLN := hdhid (getL_length s.data.toList)
  have HLS := hdhid (getL_succ s.data.toList)
  have HGE : Hid (∀ k, getE s.data.toList k = ⟨numAt s.data.toList (37 + 4 * k) 1, numAt s.data.toList (38 + 4 * k) 1, numAt s.data.toList (39 + 4 * k) 2⟩) := fun k => rfl
  obtain ⟨VV, hVV⟩ : ∃ VV : Int → Int → Int, VV = fun a n => numAt s.data.toList a.toNat n.toNat := ⟨_, rfl⟩
  have NV : Hid (∀ (a n : Int) (w1 : World), 0 ≤ a → 0 ≤ n → n ≤ 7 → a + n ≤ 256 → Calls Try.prog 56 #[.string s, .int .i64 a, .int .i64 n] w1 fun e w' => e = .returned (.int .i64 (VV a n)) ∧ w1 = w') := fun a n w1 h0 h1 h2 h3 => by
    rw [hVV]
    exact rnumI_t s a n w1 h0 h1 h2 (by omega) hl
  have HVV : Hid (∀ k : Nat, getE s.data.toList k = ⟨VV (37 + 4 * (k : Int)) 1, VV (38 + 4 * (k : Int)) 1, VV (39 + 4 * (k : Int)) 2⟩) := fun k => by
    rw [HGE.out, hVV]
    have e1 : ((37 : Int) + 4 * (k : Int)).toNat = 37 + 4 * k := by omega
    have e2 : ((38 : Int) + 4 * (k : Int)).toNat = 38 + 4 * k := by omega
    have e3 : ((39 : Int) + 4 * (k : Int)).toNat = 39 + 4 * k := by omega
    simp only [e1, e2, e3]
    rfl
  clear hVV HGE
  generalize getS s.data.toList = gs at *
  obtain ⟨X, hX⟩ : ∃ X, X = getX s.data.toList := ⟨_, rfl⟩
  rw [← hX] at HGB EQ HXL hXl N0 N1 N2 N3 N4 N5 N6 N7 ⊢
  clear hX
  generalize decide (front X = s.data.toList.take 252) = D at *
  have CK := hdhid (fun v w1 (h : Ents w1 v X.list) => rcheck_t X v w1 h)
  have WR := hdhid (fun v w1 (h : Ents w1 v X.list) (hok : okB X = true) => rfront_t X v w1 h hok)
  generalize front X = F at *
  generalize okB X = OK at *
  generalize numAt s.data.toList 36 1 = m at *
  generalize getN s.data.toList = n at *
  rw [hXl]
  obtain ⟨house, gen, life, seq, next, clock, sb, sn, l⟩ := X
  simp only at N0 N1 N2 N3 N4 N5 N6 N7 hXl HXL
  have hs2 : ¬ ((s.size : Int) < 256) := by omega
  have hs3 : (252 : Int) ≤ (s.size : Int) := by omega
  go_enter Try.func40, Try.ntmps40
  go_wp2_with fail
  refine (N0.out _).mono ?_
  rintro e w' ⟨rfl, rfl⟩
  clear N0
  go_wp2_with fail
  refine (N1.out _).mono ?_
  rintro e w' ⟨rfl, rfl⟩
  clear N1
  go_wp2_with fail
  refine (N2.out _).mono ?_
  rintro e w' ⟨rfl, rfl⟩
  clear N2
  go_wp2_with fail
  refine (N3.out _).mono ?_
  rintro e w' ⟨rfl, rfl⟩
  clear N3
  go_wp2_with fail
  refine (N4.out _).mono ?_
  rintro e w' ⟨rfl, rfl⟩
  clear N4
  go_wp2_with fail
  refine (N5.out _).mono ?_
  rintro e w' ⟨rfl, rfl⟩
  clear N5
  go_wp2_with fail
  refine (N6.out _).mono ?_
  rintro e w' ⟨rfl, rfl⟩
  clear N6
  go_wp2_with fail
  refine (N7.out _).mono ?_
  rintro e w' ⟨rfl, rfl⟩
  clear N7
  go_wp2_with fail
  go_loopw [6] (fun c wr => ∃ k : Nat, k ≤ n ∧ c = .int .i64 k ∧ Hid (RGot s.data.toList w.heap.size k ⟨house, gen, life, seq, next, clock, sb, sn, l⟩ w wr)) (fun c _ => n - (intOf c).toNat)
  case atStart =>
    refine ⟨0, by omega, rfl, .slice none 0 0, ?_, ?_, EOwn.nil _ _, ((Below.refl _ w).alloc (Nat.le_refl _) _).alloc (by simp) _⟩
    · rw [Below.heap_alloc _ _ _ (by simp)]
      exact heap_alloc_new _ _
    · have e : ∀ o, w.heap.size + 1 = (w.alloc o).heap.size := fun o => by simp
      rw [e]
      exact heap_alloc_new _ _
  case round =>
    obtain ⟨k, hk, rfl, HG⟩ := hrel
    obtain ⟨lv, hA, hX, hO, hB⟩ := HG.out
    have HA := hdhid hA
    have HXh := hdhid hX
    have HO := hdhid hO
    have HB := hdhid hB
    have hlt1 : w.heap.size + 1 < wr.heap.size := (Array.getElem?_eq_some_iff.1 hX).1
    clear hX hA hO hB HG
    by_cases hlt : k < n
    · have hkm : (k : Int) < m := by omega
      have hk24 : (k : Int) < 24 := by omega
      have hLk : (getL s.data.toList k).length = k := HLN.out k
      have dV : wr.cell? ⟨w.heap.size + 1, 8, none⟩ = some lv := (cells9 HXh.out).2.2.2.2.2.2.2.2
      have eV : wr.frozen? ⟨w.heap.size + 1, 8, none⟩ = false := frozen_of_row wr _ _ _ _ HXh.out
      have hvb : lv.ownBlock ≠ some (w.heap.size + 1) := HO.out.block _ (by omega)
      have hvb0 : lv.ownBlock ≠ some w.heap.size := HO.out.block _ (by omega)
      have eV' : ∀ o1, (wr.alloc o1).frozen? ⟨w.heap.size + 1, 8, none⟩ = false := fun o1 => by rw [World.frozen?_alloc_past _ _ _ (by show w.heap.size + 1 < wr.heap.size; omega)]; exact eV
      have dV' : ∀ o1, (wr.alloc o1).cell? ⟨w.heap.size + 1, 8, none⟩ = some lv := fun o1 => by rw [World.cell?_alloc_lt _ _ _ (by show w.heap.size + 1 < wr.heap.size; omega)]; exact dV
      have hown : Hid (wr.ownsRow (w.heap.size + 2) 52 3 lv k (ecells (getL s.data.toList k))) := by
        have := HO.out
        unfold EOwn at this
        rw [hLk] at this
        exact this
      have HSN : Hid (getL s.data.toList (k + 1) = getL s.data.toList k ++ [⟨VV (37 + 4 * (k : Int)) 1, VV (38 + 4 * (k : Int)) 1, VV (39 + 4 * (k : Int)) 2⟩]) := by show _ = _; rw [HLS.out, HVV.out]
      generalize getL s.data.toList k = Lk at *
      go_wp2_with fail
      refine (N36.out _).mono ?_
      rintro e w' ⟨rfl, rfl⟩
      go_wp2_with fail
      have hW1 : IntKind.i64.wrap (4 * (k : Int)) = 4 * (k : Int) := by rw [IntKind.wrap_i64]; omega
      have hW2 : IntKind.i64.wrap (37 + 4 * (k : Int)) = 37 + 4 * (k : Int) := by rw [IntKind.wrap_i64]; omega
      have hW3 : IntKind.i64.wrap (38 + 4 * (k : Int)) = 38 + 4 * (k : Int) := by rw [IntKind.wrap_i64]; omega
      have hW4 : IntKind.i64.wrap (39 + 4 * (k : Int)) = 39 + 4 * (k : Int) := by rw [IntKind.wrap_i64]; omega
      go_region_law
        ((first
          | (go_simp; refine (NV.out _ _ _ (by omega) (by omega) (by omega) (by omega)).mono ?_; rintro e w6 ⟨rfl, rfl⟩; dsimp only)
          | (refine step_append_lies _ (by rfl) _ _ _ (by rfl) (w.heap.size + 2) 52 i0 _ 3 24 Try.underlying29 hi0 hz0 hz1 hz2 rfl (by omega) lv k (ecells Lk) (by rfl) ((hown.out.alloc _).drew)
              ⟨wr.heap.size, 0, none⟩ 1 1 [.int .i64 (VV (37 + 4 * (k : Int)) 1), .int .i64 (VV (38 + 4 * (k : Int)) 1), .int .i64 (VV (39 + 4 * (k : Int)) 2)] (by rfl) (by rfl) (World.news_of_block (cs := #[.int .i64 (VV (37 + 4 * (k : Int)) 1), .int .i64 (VV (38 + 4 * (k : Int)) 1), .int .i64 (VV (39 + 4 * (k : Int)) 2)]) (t := 52) (fr := (0, 0)) (heap_alloc_new wr _)) (by simp [Value.oneCell'])
              (by omega) (by unfold maxLen; omega) (by omega) (by simp; omega) (wr.heap.size + 1) (by simp) ?_; intro g cap7 w1 hown1 hgrow hat hlt2; have aV : w1.cell? ⟨w.heap.size + 1, 8, none⟩ = some lv := (by rw [hgrow.cell_far _ (by simp; omega) (Ne.symm hvb)]; simp [*]); have bV : w1.frozen? ⟨w.heap.size + 1, 8, none⟩ = false := (by rw [hgrow.frozen_far _ (by simp; omega) (Ne.symm hvb)]; simp [*]))))
      all_goals
        have hBs := HB.out.size
        have hXg : w1.heap[w.heap.size + 1]? = some (.cells (headC ⟨house, gen, life, seq, next, clock, sb, sn, l⟩ (lv)) 37 (0, 0)) := (hgrow.block _ (by simp; omega) (Ne.symm hvb)).trans ((Below.heap_alloc _ _ _ hlt1).trans HXh.out)
        have hAg : w1.heap[w.heap.size]? = some (.cells (headC Hd.z (.slice none 0 0)) 37 (0, 0)) := (hgrow.block _ (by simp; omega) (Ne.symm hvb0)).trans ((Below.heap_alloc _ _ _ (by omega)).trans HA.out)
        have HRG : Hid (RGot s.data.toList w.heap.size (k + 1) ⟨house, gen, life, seq, next, clock, sb, sn, l⟩ w (w1.setCell ⟨w.heap.size + 1, 8, none⟩ (.slice (some ⟨g, 0, none⟩) (k + 1) cap7))) := by
          refine ⟨.slice (some ⟨g, 0, none⟩) (k + 1) cap7, (heap_setCell_other _ _ _ _ (by simp)).trans hAg, heap_setCell_same _ _ 8 _ _ _ hXg, ?_, ?_⟩
          · refine EOwn.other ?_ (by dsimp only; omega) _
            unfold EOwn
            rw [HSN.out, List.length_append, hLk, ecells_append, ecells_one]
            exact hown1
          · exact (((HB.out.alloc hBs _).drew).grown hgrow (by simp; omega) (fun q hq => by have := (HO.out.lt q hq).1; omega)).setCell (p := ⟨w.heap.size + 1, 8, none⟩) (by dsimp only; omega) _
        clear hown1 hgrow hat hlt2 aV bV dV eV eV' dV' hown HXh HA HO HB HSN hXg hAg hW1 hW2 hW3 hW4
        go_wp2_with fail
        exact ⟨⟨k + 1, by omega, by go_num, HRG⟩, by simp [intOf]; omega⟩
    · have hkn : k = n := by omega
      subst hkn
      have hLk : (getL s.data.toList k).length = k := HLN.out k
      obtain ⟨ad, cap, hlv⟩ := HO.out.slice
      rw [hLk] at hlv
      subst hlv
      have HEV : Hid (Ents wr (.slice ad k cap) l) := by
        have := HO.out.ents
        rw [← HXL.out] at this
        exact this
      have HFV : Hid (EFar wr (w.heap.size + 2) (.slice ad k cap) l) := by
        have := HO.out.far
        rw [← HXL.out] at this
        exact this
      obtain ⟨wv, hwv⟩ : ∃ wv, wv = wr := ⟨_, rfl⟩
      subst hwv
      have HXV := HXh
      have HAV := HA
      have HBV := HB
      have hwV := hlt1
      obtain ⟨x0, x1, x2, x3, x4, x5, x6, x7, x8⟩ := cells9 HXV.out
      clear HXh HA HB HO hlt HLN HLS HVV NV
      have hp : Below wv.heap.size wv wv := Below.refl _ _
      have hce : ((k : Int) < m ∧ decide ((k : Int) < 24) = false) ∨ m ≤ (k : Int) := by
        by_cases h : (k : Int) < m
        · exact .inl ⟨h, decide_eq_false (by omega)⟩
        · exact .inr (by omega)
      rcases hce with ⟨hq1, hq2⟩ | hq1
      · go_wp2_with fail
        refine (N36.out _).mono ?_
        rintro e w' ⟨rfl, rfl⟩
        go_wp2_with fail
        cases OK
        · have HG0 : Hid (getB s = false) := by show _ = _; rw [HGB.out]; rfl
          clear HGB EQ WR SG N36
          first
          | (go_region_with ((go_at_call 57; refine (CK.out _ _ (by exact HEV.out.on ⟨hp.os, hp.tape, hp.output, hp.size, hp.block⟩)).mono ?_; rintro e y1 ⟨rfl, qb⟩; have hp := hp.trans (Below.mono (show Below _ _ y1 from ⟨qb.os, qb.tape, qb.output, qb.size, qb.block⟩) hp.size); obtain ⟨x0, x1, x2, x3, x4, x5, x6, x7, x8⟩ := cells9 (show y1.heap[w.heap.size + 1]? = some (.cells (headC ⟨house, gen, life, seq, next, clock, sb, sn, l⟩ (.slice ad k cap)) 37 (0, 0)) from (hp.block _ hwV).trans HXV.out))))
          | fail
          all_goals
            have HB3 : Hid (Below w.heap.size w y1) := HBV.out.trans (hp.mono (by omega))
            have HA3 : Hid (y1.heap[w.heap.size]? = some (.cells (headC Hd.z (.slice none 0 0)) 37 (0, 0))) := (hp.block _ (by omega)).trans HAV.out
            have HFK : Hid (EFar y1 (w.heap.size + 2) (.slice ad k cap) l) := HFV.out.on hp
            have HX3 : Hid (y1.heap[w.heap.size + 1]? = some (.cells (headC ⟨house, gen, life, seq, next, clock, sb, sn, l⟩ (.slice ad k cap)) 37 (0, 0))) := (hp.block _ hwV).trans HXV.out
            obtain ⟨a0, a1, a2, a3, a4, a5, a6, a7, a8⟩ := cells9 HA3.out
            have f0 := frozen_of_row y1 w.heap.size 0 _ _ HA3.out
            have f1 := frozen_of_row y1 w.heap.size 1 _ _ HA3.out
            have f2 := frozen_of_row y1 w.heap.size 2 _ _ HA3.out
            have f3 := frozen_of_row y1 w.heap.size 3 _ _ HA3.out
            have f4 := frozen_of_row y1 w.heap.size 4 _ _ HA3.out
            have f5 := frozen_of_row y1 w.heap.size 5 _ _ HA3.out
            have f6 := frozen_of_row y1 w.heap.size 6 _ _ HA3.out
            have f7 := frozen_of_row y1 w.heap.size 7 _ _ HA3.out
            have f8 := frozen_of_row y1 w.heap.size 8 _ _ HA3.out
            clear hp HA3 HAV HBV
            go_wp2_with fail
            refine bodyPost_ret (v := noneV) (by simp [results, Try.results40, go_sem, a0, a1, a2, a3, a4, a5, a6, a7, a8]) rfl ⟨.inr ⟨HG0.out, rfl⟩, ?_⟩
            iterate 9 refine Below.setCell ?_ (by dsimp only; omega) _
            exact HB3.out
        have WR2 := hdhid (fun v w1 h => WR.out v w1 h rfl)
        clear WR
        cases D
        · have HG0 : Hid (getB s = false) := by show _ = _; rw [HGB.out]; rfl
          have q1 := EQ.out
          have q2 : ((⟨F.toArray⟩ : ByteArray).toList != (s.extract 0 252).toList) = true := by rw [bne, q1]; rfl
          clear HGB SG EQ N36
          generalize (⟨F.toArray⟩ : ByteArray) = FS at *
          go_region_held3 (fun w' => w'.cell? ⟨w.heap.size + 1, 0, none⟩ = some (.int .i64 house) ∧ w'.cell? ⟨w.heap.size + 1, 1, none⟩ = some (.int .i64 gen) ∧ w'.cell? ⟨w.heap.size + 1, 2, none⟩ = some (.int .i64 life) ∧ w'.cell? ⟨w.heap.size + 1, 3, none⟩ = some (.int .i64 seq) ∧ w'.cell? ⟨w.heap.size + 1, 4, none⟩ = some (.int .i64 next) ∧ w'.cell? ⟨w.heap.size + 1, 5, none⟩ = some (.int .i64 clock) ∧ w'.cell? ⟨w.heap.size + 1, 6, none⟩ = some (.int .i64 sb) ∧ w'.cell? ⟨w.heap.size + 1, 7, none⟩ = some (.int .i64 sn) ∧ w'.cell? ⟨w.heap.size + 1, 8, none⟩ = some (.slice ad k cap)) (first | go_keep)
            (first
              | (go_at_call 57; refine (CK.out _ _ (by exact HEV.out.on ⟨hp.os, hp.tape, hp.output, hp.size, hp.block⟩)).mono ?_; rintro e y1 ⟨rfl, qb⟩; have hp := hp.trans (Below.mono (show Below _ _ y1 from ⟨qb.os, qb.tape, qb.output, qb.size, qb.block⟩) hp.size); obtain ⟨x0, x1, x2, x3, x4, x5, x6, x7, x8⟩ := cells9 (show y1.heap[w.heap.size + 1]? = some (.cells (headC ⟨house, gen, life, seq, next, clock, sb, sn, l⟩ (.slice ad k cap)) 37 (0, 0)) from (hp.block _ hwV).trans HXV.out))
              | (go_at_call 58; refine (WR2.out _ _ (by exact HEV.out.on ⟨hp.os, hp.tape, hp.output, hp.size, hp.block⟩)).mono ?_; rintro e y1 ⟨rfl, qb⟩; have hp := hp.trans (Below.mono (show Below _ _ y1 from ⟨qb.os, qb.tape, qb.output, qb.size, qb.block⟩) hp.size); obtain ⟨x0, x1, x2, x3, x4, x5, x6, x7, x8⟩ := cells9 (show y1.heap[w.heap.size + 1]? = some (.cells (headC ⟨house, gen, life, seq, next, clock, sb, sn, l⟩ (.slice ad k cap)) 37 (0, 0)) from (hp.block _ hwV).trans HXV.out)))
          have HB3 : Hid (Below w.heap.size w y1) := HBV.out.trans (hp.mono (by omega))
          have HA3 : Hid (y1.heap[w.heap.size]? = some (.cells (headC Hd.z (.slice none 0 0)) 37 (0, 0))) := (hp.block _ (by omega)).trans HAV.out
          have HFK : Hid (EFar y1 (w.heap.size + 2) (.slice ad k cap) l) := HFV.out.on hp
          have HX3 : Hid (y1.heap[w.heap.size + 1]? = some (.cells (headC ⟨house, gen, life, seq, next, clock, sb, sn, l⟩ (.slice ad k cap)) 37 (0, 0))) := (hp.block _ hwV).trans HXV.out
          obtain ⟨a0, a1, a2, a3, a4, a5, a6, a7, a8⟩ := cells9 HA3.out
          have f0 := frozen_of_row y1 w.heap.size 0 _ _ HA3.out
          have f1 := frozen_of_row y1 w.heap.size 1 _ _ HA3.out
          have f2 := frozen_of_row y1 w.heap.size 2 _ _ HA3.out
          have f3 := frozen_of_row y1 w.heap.size 3 _ _ HA3.out
          have f4 := frozen_of_row y1 w.heap.size 4 _ _ HA3.out
          have f5 := frozen_of_row y1 w.heap.size 5 _ _ HA3.out
          have f6 := frozen_of_row y1 w.heap.size 6 _ _ HA3.out
          have f7 := frozen_of_row y1 w.heap.size 7 _ _ HA3.out
          have f8 := frozen_of_row y1 w.heap.size 8 _ _ HA3.out
          clear hp HA3 HAV HBV
          go_wp2_with fail
          refine bodyPost_ret (v := noneV) (by simp [results, Try.results40, go_sem, a0, a1, a2, a3, a4, a5, a6, a7, a8]) rfl ⟨.inr ⟨HG0.out, rfl⟩, ?_⟩
          iterate 9 refine Below.setCell ?_ (by dsimp only; omega) _
          exact HB3.out
        · have HG0 : Hid (getB s = true) := by show _ = _; rw [HGB.out]; rfl
          have q1 := EQ.out
          have q2 : ((⟨F.toArray⟩ : ByteArray).toList != (s.extract 0 252).toList) = false := by rw [bne, q1]; rfl
          clear HGB EQ N36
          generalize (⟨F.toArray⟩ : ByteArray) = FS at *
          go_region_held3 (fun w' => w'.cell? ⟨w.heap.size + 1, 0, none⟩ = some (.int .i64 house) ∧ w'.cell? ⟨w.heap.size + 1, 1, none⟩ = some (.int .i64 gen) ∧ w'.cell? ⟨w.heap.size + 1, 2, none⟩ = some (.int .i64 life) ∧ w'.cell? ⟨w.heap.size + 1, 3, none⟩ = some (.int .i64 seq) ∧ w'.cell? ⟨w.heap.size + 1, 4, none⟩ = some (.int .i64 next) ∧ w'.cell? ⟨w.heap.size + 1, 5, none⟩ = some (.int .i64 clock) ∧ w'.cell? ⟨w.heap.size + 1, 6, none⟩ = some (.int .i64 sb) ∧ w'.cell? ⟨w.heap.size + 1, 7, none⟩ = some (.int .i64 sn) ∧ w'.cell? ⟨w.heap.size + 1, 8, none⟩ = some (.slice ad k cap)) (first | go_keep)
            (first
              | (go_at_call 57; refine (CK.out _ _ (by exact HEV.out.on ⟨hp.os, hp.tape, hp.output, hp.size, hp.block⟩)).mono ?_; rintro e y1 ⟨rfl, qb⟩; have hp := hp.trans (Below.mono (show Below _ _ y1 from ⟨qb.os, qb.tape, qb.output, qb.size, qb.block⟩) hp.size); obtain ⟨x0, x1, x2, x3, x4, x5, x6, x7, x8⟩ := cells9 (show y1.heap[w.heap.size + 1]? = some (.cells (headC ⟨house, gen, life, seq, next, clock, sb, sn, l⟩ (.slice ad k cap)) 37 (0, 0)) from (hp.block _ hwV).trans HXV.out))
              | (go_at_call 58; refine (WR2.out _ _ (by exact HEV.out.on ⟨hp.os, hp.tape, hp.output, hp.size, hp.block⟩)).mono ?_; rintro e y1 ⟨rfl, qb⟩; have hp := hp.trans (Below.mono (show Below _ _ y1 from ⟨qb.os, qb.tape, qb.output, qb.size, qb.block⟩) hp.size); obtain ⟨x0, x1, x2, x3, x4, x5, x6, x7, x8⟩ := cells9 (show y1.heap[w.heap.size + 1]? = some (.cells (headC ⟨house, gen, life, seq, next, clock, sb, sn, l⟩ (.slice ad k cap)) 37 (0, 0)) from (hp.block _ hwV).trans HXV.out)))
          have HB3 : Hid (Below w.heap.size w y1) := HBV.out.trans (hp.mono (by omega))
          have HA3 : Hid (y1.heap[w.heap.size]? = some (.cells (headC Hd.z (.slice none 0 0)) 37 (0, 0))) := (hp.block _ (by omega)).trans HAV.out
          have HFK : Hid (EFar y1 (w.heap.size + 2) (.slice ad k cap) l) := HFV.out.on hp
          have HX3 : Hid (y1.heap[w.heap.size + 1]? = some (.cells (headC ⟨house, gen, life, seq, next, clock, sb, sn, l⟩ (.slice ad k cap)) 37 (0, 0))) := (hp.block _ hwV).trans HXV.out
          obtain ⟨a0, a1, a2, a3, a4, a5, a6, a7, a8⟩ := cells9 HA3.out
          have f0 := frozen_of_row y1 w.heap.size 0 _ _ HA3.out
          have f1 := frozen_of_row y1 w.heap.size 1 _ _ HA3.out
          have f2 := frozen_of_row y1 w.heap.size 2 _ _ HA3.out
          have f3 := frozen_of_row y1 w.heap.size 3 _ _ HA3.out
          have f4 := frozen_of_row y1 w.heap.size 4 _ _ HA3.out
          have f5 := frozen_of_row y1 w.heap.size 5 _ _ HA3.out
          have f6 := frozen_of_row y1 w.heap.size 6 _ _ HA3.out
          have f7 := frozen_of_row y1 w.heap.size 7 _ _ HA3.out
          have f8 := frozen_of_row y1 w.heap.size 8 _ _ HA3.out
          clear hp HA3 HAV HBV
          have HFy : Hid (EFar y1 (w.heap.size + 2) (.slice ad k cap) l) := HFK.out
          obtain ⟨x0, x1, x2, x3, x4, x5, x6, x7, x8⟩ := cells9 HX3.out
          go_wp2_with fail
          have Y8 := hdhid x8
          first
          | (go_region_held3 (fun w' => w'.cell? ⟨w.heap.size + 1, 0, none⟩ = some (.int .i64 house) ∧ w'.cell? ⟨w.heap.size + 1, 1, none⟩ = some (.int .i64 gen) ∧ w'.cell? ⟨w.heap.size + 1, 2, none⟩ = some (.int .i64 life) ∧ w'.cell? ⟨w.heap.size + 1, 3, none⟩ = some (.int .i64 seq) ∧ w'.cell? ⟨w.heap.size + 1, 4, none⟩ = some (.int .i64 next) ∧ w'.cell? ⟨w.heap.size + 1, 5, none⟩ = some (.int .i64 clock) ∧ w'.cell? ⟨w.heap.size + 1, 6, none⟩ = some (.int .i64 sb) ∧ w'.cell? ⟨w.heap.size + 1, 7, none⟩ = some (.int .i64 sn) ∧ w'.cell? ⟨w.heap.size + 1, 8, none⟩ = some (.slice ad k cap)) (first | go_keep)
              (first
                | (go_at_call 56; refine (SG.out _).mono ?_; rintro e y3 ⟨rfl, rfl⟩)))
          | fail
          all_goals
            go_wp2_with fail
            refine bodyPost_ret (v := .tuple #[headV ⟨house, gen, life, seq, next, clock, sb, sn, l⟩ (.slice ad k cap), .int .i64 gs, .bool true]) (by simp [results, Try.results40, go_sem, a0, a1, a2, a3, a4, a5, a6, a7, a8]) rfl ⟨.inl ⟨HG0.out, ad, cap, rfl, ?_⟩, ?_⟩
            · refine EFar.ents (m := w.heap.size + 2) ?_
              refine EFar.drewn ?_
              iterate 9 refine EFar.turned ?_ (by dsimp only; omega) _
              exact HFy.out
            · refine Below.drew ?_
              iterate 9 refine Below.setCell ?_ (by dsimp only; omega) _
              exact HB3.out
      · go_wp2_with fail
        refine (N36.out _).mono ?_
        rintro e w' ⟨rfl, rfl⟩
        go_wp2_with fail
        cases OK
        · have HG0 : Hid (getB s = false) := by show _ = _; rw [HGB.out]; rfl
          clear HGB EQ WR SG N36
          first
          | (go_region_with ((go_at_call 57; refine (CK.out _ _ (by exact HEV.out.on ⟨hp.os, hp.tape, hp.output, hp.size, hp.block⟩)).mono ?_; rintro e y1 ⟨rfl, qb⟩; have hp := hp.trans (Below.mono (show Below _ _ y1 from ⟨qb.os, qb.tape, qb.output, qb.size, qb.block⟩) hp.size); obtain ⟨x0, x1, x2, x3, x4, x5, x6, x7, x8⟩ := cells9 (show y1.heap[w.heap.size + 1]? = some (.cells (headC ⟨house, gen, life, seq, next, clock, sb, sn, l⟩ (.slice ad k cap)) 37 (0, 0)) from (hp.block _ hwV).trans HXV.out))))
          | fail
          all_goals
            have HB3 : Hid (Below w.heap.size w y1) := HBV.out.trans (hp.mono (by omega))
            have HA3 : Hid (y1.heap[w.heap.size]? = some (.cells (headC Hd.z (.slice none 0 0)) 37 (0, 0))) := (hp.block _ (by omega)).trans HAV.out
            have HFK : Hid (EFar y1 (w.heap.size + 2) (.slice ad k cap) l) := HFV.out.on hp
            have HX3 : Hid (y1.heap[w.heap.size + 1]? = some (.cells (headC ⟨house, gen, life, seq, next, clock, sb, sn, l⟩ (.slice ad k cap)) 37 (0, 0))) := (hp.block _ hwV).trans HXV.out
            obtain ⟨a0, a1, a2, a3, a4, a5, a6, a7, a8⟩ := cells9 HA3.out
            have f0 := frozen_of_row y1 w.heap.size 0 _ _ HA3.out
            have f1 := frozen_of_row y1 w.heap.size 1 _ _ HA3.out
            have f2 := frozen_of_row y1 w.heap.size 2 _ _ HA3.out
            have f3 := frozen_of_row y1 w.heap.size 3 _ _ HA3.out
            have f4 := frozen_of_row y1 w.heap.size 4 _ _ HA3.out
            have f5 := frozen_of_row y1 w.heap.size 5 _ _ HA3.out
            have f6 := frozen_of_row y1 w.heap.size 6 _ _ HA3.out
            have f7 := frozen_of_row y1 w.heap.size 7 _ _ HA3.out
            have f8 := frozen_of_row y1 w.heap.size 8 _ _ HA3.out
            clear hp HA3 HAV HBV
            go_wp2_with fail
            refine bodyPost_ret (v := noneV) (by simp [results, Try.results40, go_sem, a0, a1, a2, a3, a4, a5, a6, a7, a8]) rfl ⟨.inr ⟨HG0.out, rfl⟩, ?_⟩
            iterate 9 refine Below.setCell ?_ (by dsimp only; omega) _
            exact HB3.out
        have WR2 := hdhid (fun v w1 h => WR.out v w1 h rfl)
        clear WR
        cases D
        · have HG0 : Hid (getB s = false) := by show _ = _; rw [HGB.out]; rfl
          have q1 := EQ.out
          have q2 : ((⟨F.toArray⟩ : ByteArray).toList != (s.extract 0 252).toList) = true := by rw [bne, q1]; rfl
          clear HGB SG EQ N36
          generalize (⟨F.toArray⟩ : ByteArray) = FS at *
          go_region_held3 (fun w' => w'.cell? ⟨w.heap.size + 1, 0, none⟩ = some (.int .i64 house) ∧ w'.cell? ⟨w.heap.size + 1, 1, none⟩ = some (.int .i64 gen) ∧ w'.cell? ⟨w.heap.size + 1, 2, none⟩ = some (.int .i64 life) ∧ w'.cell? ⟨w.heap.size + 1, 3, none⟩ = some (.int .i64 seq) ∧ w'.cell? ⟨w.heap.size + 1, 4, none⟩ = some (.int .i64 next) ∧ w'.cell? ⟨w.heap.size + 1, 5, none⟩ = some (.int .i64 clock) ∧ w'.cell? ⟨w.heap.size + 1, 6, none⟩ = some (.int .i64 sb) ∧ w'.cell? ⟨w.heap.size + 1, 7, none⟩ = some (.int .i64 sn) ∧ w'.cell? ⟨w.heap.size + 1, 8, none⟩ = some (.slice ad k cap)) (first | go_keep)
            (first
              | (go_at_call 57; refine (CK.out _ _ (by exact HEV.out.on ⟨hp.os, hp.tape, hp.output, hp.size, hp.block⟩)).mono ?_; rintro e y1 ⟨rfl, qb⟩; have hp := hp.trans (Below.mono (show Below _ _ y1 from ⟨qb.os, qb.tape, qb.output, qb.size, qb.block⟩) hp.size); obtain ⟨x0, x1, x2, x3, x4, x5, x6, x7, x8⟩ := cells9 (show y1.heap[w.heap.size + 1]? = some (.cells (headC ⟨house, gen, life, seq, next, clock, sb, sn, l⟩ (.slice ad k cap)) 37 (0, 0)) from (hp.block _ hwV).trans HXV.out))
              | (go_at_call 58; refine (WR2.out _ _ (by exact HEV.out.on ⟨hp.os, hp.tape, hp.output, hp.size, hp.block⟩)).mono ?_; rintro e y1 ⟨rfl, qb⟩; have hp := hp.trans (Below.mono (show Below _ _ y1 from ⟨qb.os, qb.tape, qb.output, qb.size, qb.block⟩) hp.size); obtain ⟨x0, x1, x2, x3, x4, x5, x6, x7, x8⟩ := cells9 (show y1.heap[w.heap.size + 1]? = some (.cells (headC ⟨house, gen, life, seq, next, clock, sb, sn, l⟩ (.slice ad k cap)) 37 (0, 0)) from (hp.block _ hwV).trans HXV.out)))
          have HB3 : Hid (Below w.heap.size w y1) := HBV.out.trans (hp.mono (by omega))
          have HA3 : Hid (y1.heap[w.heap.size]? = some (.cells (headC Hd.z (.slice none 0 0)) 37 (0, 0))) := (hp.block _ (by omega)).trans HAV.out
          have HFK : Hid (EFar y1 (w.heap.size + 2) (.slice ad k cap) l) := HFV.out.on hp
          have HX3 : Hid (y1.heap[w.heap.size + 1]? = some (.cells (headC ⟨house, gen, life, seq, next, clock, sb, sn, l⟩ (.slice ad k cap)) 37 (0, 0))) := (hp.block _ hwV).trans HXV.out
          obtain ⟨a0, a1, a2, a3, a4, a5, a6, a7, a8⟩ := cells9 HA3.out
          have f0 := frozen_of_row y1 w.heap.size 0 _ _ HA3.out
          have f1 := frozen_of_row y1 w.heap.size 1 _ _ HA3.out
          have f2 := frozen_of_row y1 w.heap.size 2 _ _ HA3.out
          have f3 := frozen_of_row y1 w.heap.size 3 _ _ HA3.out
          have f4 := frozen_of_row y1 w.heap.size 4 _ _ HA3.out
          have f5 := frozen_of_row y1 w.heap.size 5 _ _ HA3.out
          have f6 := frozen_of_row y1 w.heap.size 6 _ _ HA3.out
          have f7 := frozen_of_row y1 w.heap.size 7 _ _ HA3.out
          have f8 := frozen_of_row y1 w.heap.size 8 _ _ HA3.out
          clear hp HA3 HAV HBV
          go_wp2_with fail
          refine bodyPost_ret (v := noneV) (by simp [results, Try.results40, go_sem, a0, a1, a2, a3, a4, a5, a6, a7, a8]) rfl ⟨.inr ⟨HG0.out, rfl⟩, ?_⟩
          iterate 9 refine Below.setCell ?_ (by dsimp only; omega) _
          exact HB3.out
        · have HG0 : Hid (getB s = true) := by show _ = _; rw [HGB.out]; rfl
          have q1 := EQ.out
          have q2 : ((⟨F.toArray⟩ : ByteArray).toList != (s.extract 0 252).toList) = false := by rw [bne, q1]; rfl
          clear HGB EQ N36
          generalize (⟨F.toArray⟩ : ByteArray) = FS at *
          go_region_held3 (fun w' => w'.cell? ⟨w.heap.size + 1, 0, none⟩ = some (.int .i64 house) ∧ w'.cell? ⟨w.heap.size + 1, 1, none⟩ = some (.int .i64 gen) ∧ w'.cell? ⟨w.heap.size + 1, 2, none⟩ = some (.int .i64 life) ∧ w'.cell? ⟨w.heap.size + 1, 3, none⟩ = some (.int .i64 seq) ∧ w'.cell? ⟨w.heap.size + 1, 4, none⟩ = some (.int .i64 next) ∧ w'.cell? ⟨w.heap.size + 1, 5, none⟩ = some (.int .i64 clock) ∧ w'.cell? ⟨w.heap.size + 1, 6, none⟩ = some (.int .i64 sb) ∧ w'.cell? ⟨w.heap.size + 1, 7, none⟩ = some (.int .i64 sn) ∧ w'.cell? ⟨w.heap.size + 1, 8, none⟩ = some (.slice ad k cap)) (first | go_keep)
            (first
              | (go_at_call 57; refine (CK.out _ _ (by exact HEV.out.on ⟨hp.os, hp.tape, hp.output, hp.size, hp.block⟩)).mono ?_; rintro e y1 ⟨rfl, qb⟩; have hp := hp.trans (Below.mono (show Below _ _ y1 from ⟨qb.os, qb.tape, qb.output, qb.size, qb.block⟩) hp.size); obtain ⟨x0, x1, x2, x3, x4, x5, x6, x7, x8⟩ := cells9 (show y1.heap[w.heap.size + 1]? = some (.cells (headC ⟨house, gen, life, seq, next, clock, sb, sn, l⟩ (.slice ad k cap)) 37 (0, 0)) from (hp.block _ hwV).trans HXV.out))
              | (go_at_call 58; refine (WR2.out _ _ (by exact HEV.out.on ⟨hp.os, hp.tape, hp.output, hp.size, hp.block⟩)).mono ?_; rintro e y1 ⟨rfl, qb⟩; have hp := hp.trans (Below.mono (show Below _ _ y1 from ⟨qb.os, qb.tape, qb.output, qb.size, qb.block⟩) hp.size); obtain ⟨x0, x1, x2, x3, x4, x5, x6, x7, x8⟩ := cells9 (show y1.heap[w.heap.size + 1]? = some (.cells (headC ⟨house, gen, life, seq, next, clock, sb, sn, l⟩ (.slice ad k cap)) 37 (0, 0)) from (hp.block _ hwV).trans HXV.out)))
          have HB3 : Hid (Below w.heap.size w y1) := HBV.out.trans (hp.mono (by omega))
          have HA3 : Hid (y1.heap[w.heap.size]? = some (.cells (headC Hd.z (.slice none 0 0)) 37 (0, 0))) := (hp.block _ (by omega)).trans HAV.out
          have HFK : Hid (EFar y1 (w.heap.size + 2) (.slice ad k cap) l) := HFV.out.on hp
          have HX3 : Hid (y1.heap[w.heap.size + 1]? = some (.cells (headC ⟨house, gen, life, seq, next, clock, sb, sn, l⟩ (.slice ad k cap)) 37 (0, 0))) := (hp.block _ hwV).trans HXV.out
          obtain ⟨a0, a1, a2, a3, a4, a5, a6, a7, a8⟩ := cells9 HA3.out
          have f0 := frozen_of_row y1 w.heap.size 0 _ _ HA3.out
          have f1 := frozen_of_row y1 w.heap.size 1 _ _ HA3.out
          have f2 := frozen_of_row y1 w.heap.size 2 _ _ HA3.out
          have f3 := frozen_of_row y1 w.heap.size 3 _ _ HA3.out
          have f4 := frozen_of_row y1 w.heap.size 4 _ _ HA3.out
          have f5 := frozen_of_row y1 w.heap.size 5 _ _ HA3.out
          have f6 := frozen_of_row y1 w.heap.size 6 _ _ HA3.out
          have f7 := frozen_of_row y1 w.heap.size 7 _ _ HA3.out
          have f8 := frozen_of_row y1 w.heap.size 8 _ _ HA3.out
          clear hp HA3 HAV HBV
          have HFy : Hid (EFar y1 (w.heap.size + 2) (.slice ad k cap) l) := HFK.out
          obtain ⟨x0, x1, x2, x3, x4, x5, x6, x7, x8⟩ := cells9 HX3.out
          go_wp2_with fail
          have Y8 := hdhid x8
          first
          | (go_region_held3 (fun w' => w'.cell? ⟨w.heap.size + 1, 0, none⟩ = some (.int .i64 house) ∧ w'.cell? ⟨w.heap.size + 1, 1, none⟩ = some (.int .i64 gen) ∧ w'.cell? ⟨w.heap.size + 1, 2, none⟩ = some (.int .i64 life) ∧ w'.cell? ⟨w.heap.size + 1, 3, none⟩ = some (.int .i64 seq) ∧ w'.cell? ⟨w.heap.size + 1, 4, none⟩ = some (.int .i64 next) ∧ w'.cell? ⟨w.heap.size + 1, 5, none⟩ = some (.int .i64 clock) ∧ w'.cell? ⟨w.heap.size + 1, 6, none⟩ = some (.int .i64 sb) ∧ w'.cell? ⟨w.heap.size + 1, 7, none⟩ = some (.int .i64 sn) ∧ w'.cell? ⟨w.heap.size + 1, 8, none⟩ = some (.slice ad k cap)) (first | go_keep)
              (first
                | (go_at_call 56; refine (SG.out _).mono ?_; rintro e y3 ⟨rfl, rfl⟩)))
          | fail
          all_goals
            go_wp2_with fail
            refine bodyPost_ret (v := .tuple #[headV ⟨house, gen, life, seq, next, clock, sb, sn, l⟩ (.slice ad k cap), .int .i64 gs, .bool true]) (by simp [results, Try.results40, go_sem, a0, a1, a2, a3, a4, a5, a6, a7, a8]) rfl ⟨.inl ⟨HG0.out, ad, cap, rfl, ?_⟩, ?_⟩
            · refine EFar.ents (m := w.heap.size + 2) ?_
              refine EFar.drewn ?_
              iterate 9 refine EFar.turned ?_ (by dsimp only; omega) _
              exact HFy.out
            · refine Below.drew ?_
              iterate 9 refine Below.setCell ?_ (by dsimp only; omega) _
              exact HB3.out
end Go.Proofs.Ytgbgklnlmgpmjaa
