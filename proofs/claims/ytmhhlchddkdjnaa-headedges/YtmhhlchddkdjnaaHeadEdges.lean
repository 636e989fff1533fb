/- HeadEdges walked: as many entries as may be, each kind's parts at their last places, and one beyond. -/
import Derived.Test.YtmhhlchddkdjnaaHeadRow
namespace Go.Proofs.Ytmhhlchddkdjnaa
open Go.RowKit Rec Hdp

/-- The entry of a number's kind. -/
def allE (r : Nat) : En := [(⟨1, 255, 587⟩ : En), ⟨2, 1, 9⟩, ⟨3, 255, 0⟩, ⟨4, 1, 3⟩, ⟨5, 2, 0⟩].getD r ⟨0, 0, 0⟩
def edgeL (n : Nat) : List En := (List.range n).map fun i => allE (i % 5)
theorem edgeL_length (n : Nat) : (edgeL n).length = n := by simp [edgeL]
theorem edgeL_succ (n : Nat) : edgeL (n + 1) = edgeL n ++ [allE (n % 5)] := by simp [edgeL, List.range_succ]
abbrev allC : Array Value := #[.int .i64 1, .int .i64 255, .int .i64 587, .int .i64 2, .int .i64 1, .int .i64 9, .int .i64 3, .int .i64 255, .int .i64 0, .int .i64 4, .int .i64 1, .int .i64 3, .int .i64 5, .int .i64 2, .int .i64 0]
theorem all_cells {w : World} {b : Nat} {t : TypeId} (h : w.heap[b]? = some (.cells allC t (0, 0))) (r : Nat) (hr : r < 5) : w.cell? ⟨b, r * 3, none⟩ = some (.int .i64 (allE r).kind) ∧ w.cell? ⟨b, r * 3 + 1, none⟩ = some (.int .i64 (allE r).node) ∧ w.cell? ⟨b, r * 3 + 2, none⟩ = some (.int .i64 (allE r).part) := by
  have hc : r = 0 ∨ r = 1 ∨ r = 2 ∨ r = 3 ∨ r = 4 := by omega
  rcases hc with rfl | rfl | rfl | rfl | rfl <;> exact ⟨(cell_of_row w _ _ _ _ _ h).trans rfl, (cell_of_row w _ _ _ _ _ h).trans rfl, (cell_of_row w _ _ _ _ _ h).trans rfl⟩

theorem edge_ok : okB ⟨16, 65535, 1048575, 1099511627776, 65535, 1099511627776, 1099511627777, 1099511627777, edgeL 24⟩ = true := by decide +kernel

/-- What lies there when n entries are appended. -/
def Edge (B n : Nat) (w wr : World) : Prop :=
  ∃ v, wr.heap[B]? = some (.cells (headC ⟨16, 65535, 1048575, 1099511627776, 65535, 1099511627776, 1099511627777, 1099511627777, []⟩ (v)) 24 (0, 0)) ∧ wr.heap[B + 1]? = some (.cells allC 43 (0, 0)) ∧ EOwn wr (B + 2) v (edgeL n) ∧ Below B w wr

set_option maxRecDepth 10000 in
set_option maxHeartbeats 8000000 in
theorem headEdges_t (how v : Int) (w : World) :
    Calls Try.prog 5 #[.int .i64 how, .int .i64 v] w fun e w' => e = .returned (.bool true) ∧ Below w.heap.size w w' := by
  obtain ⟨i0, hi0, hz0, hz1, hz2⟩ := info_parts Try.infoE
  have n0 := Int.emod_nonneg v (show (1000 : Int) ≠ 0 by decide)
  have n1 := Int.emod_lt_of_pos v (show (0 : Int) < 1000 by decide)
  have q0 := Int.emod_nonneg how (show (9 : Int) ≠ 0 by decide)
  have q1 := Int.emod_lt_of_pos how (show (0 : Int) < 9 by decide)
  have PLv := hdhid (fun w => gplace_t v 1000 w (by decide) (by decide))
  have PLp := hdhid (fun w => gplace_t how 9 w (by decide) (by decide))
  obtain ⟨c, hc⟩ : ∃ c : Nat, v % 1000 = (c : Int) := ⟨(v % 1000).toNat, by omega⟩
  rw [hc] at PLv n0 n1
  clear hc
  generalize how % 9 = p at *
  have CK := hdhid (fun x v w1 (h : Ents w1 v x.list) => hcheck_t x v w1 h)
  have AW := hdhid awake_t
  go_enter Try.func5, Try.ntmps5
  go_wp2_with fail
  refine (PLv.out _).mono ?_
  rintro e w' ⟨rfl, rfl⟩
  clear PLv
  go_wp2_with fail
  go_loopw [8] (fun cc wr => ∃ n : Nat, n ≤ 24 ∧ cc = .int .i64 n ∧ Hid (Edge w.heap.size n w wr)) (fun cc _ => 24 - (intOf cc).toNat)
  case atStart =>
    refine ⟨0, by omega, rfl, .slice none 0 0, ?_, ?_, EOwn.nil _ _, ((Below.refl _ w).alloc (Nat.le_refl _) _).alloc (by simp) _⟩
    · rw [Below.heap_alloc _ _ _ (by simp)]
      exact heap_alloc_new _ _
    · have e : ∀ o, w.heap.size + 1 = (w.alloc o).heap.size := fun o => by simp
      rw [e]
      exact heap_alloc_new _ _
  case round =>
    obtain ⟨n, hn, rfl, HE⟩ := hrel
    obtain ⟨lv, hX, hA, hO, hB⟩ := HE.out
    have HX := hdhid hX
    have HA := hdhid hA
    have HO := hdhid hO
    have HB := hdhid hB
    have hlt1 : w.heap.size + 1 < wr.heap.size := (Array.getElem?_eq_some_iff.1 hA).1
    clear hX hA hO hB HE
    by_cases hlt : n < 24
    · have hr : Int.tmod (n : Int) 5 = ((n % 5 : Nat) : Int) := by rw [Int.tmod_eq_emod_of_nonneg (by omega)]; omega
      obtain ⟨r, hrr⟩ : ∃ r, r = n % 5 := ⟨_, rfl⟩
      rw [← hrr] at hr
      have hr5 : r < 5 := by omega
      have hr6 : (0 : Int) ≤ (r : Int) := by omega
      have hr7 : (r : Int) < 5 := by omega
      obtain ⟨d0, d1, d2⟩ := all_cells HA.out r hr5
      have HSN : Hid (edgeL (n + 1) = edgeL n ++ [allE r]) := by show _ = _; rw [hrr]; exact edgeL_succ n
      have hLn : (edgeL n).length = n := edgeL_length n
      have dV : wr.cell? ⟨w.heap.size, 8, none⟩ = some lv := (cells9 HX.out).2.2.2.2.2.2.2.2
      have eV : wr.frozen? ⟨w.heap.size, 8, none⟩ = false := frozen_of_row wr _ _ _ _ HX.out
      have hvb : lv.ownBlock ≠ some w.heap.size := HO.out.block _ (by omega)
      have hvb1 : lv.ownBlock ≠ some (w.heap.size + 1) := HO.out.block _ (by omega)
      have HEV : Hid (allE r = ⟨(allE r).kind, (allE r).node, (allE r).part⟩) := rfl
      generalize allE r = er at *
      obtain ⟨ek, en, ep⟩ := er
      have eV' : ∀ o1, (wr.alloc o1).frozen? ⟨w.heap.size, 8, none⟩ = false := fun o1 => by rw [World.frozen?_alloc_past _ _ _ (by show w.heap.size < wr.heap.size; omega)]; exact eV
      have dV' : ∀ o1, (wr.alloc o1).cell? ⟨w.heap.size, 8, none⟩ = some lv := fun o1 => by rw [World.cell?_alloc_lt _ _ _ (by show w.heap.size < wr.heap.size; omega)]; exact dV
      have hown : Hid (wr.ownsRow (w.heap.size + 2) 42 3 lv n (ecells (edgeL n))) := by
        have := HO.out
        unfold EOwn at this
        rw [hLn] at this
        exact this
      clear hrr
      go_wp2_with fail
      go_region_law
        ((refine step_append_lies _ (by rfl) _ _ _ (by rfl) (w.heap.size + 2) 42 i0 _ 3 24 Try.underlying22 hi0 hz0 hz1 hz2 rfl (by omega) lv n (ecells (edgeL n)) (by rfl) ((hown.out.alloc _).drew)
            ⟨wr.heap.size, 0, none⟩ 1 1 [.int .i64 ek, .int .i64 en, .int .i64 ep] (by rfl) (by rfl) (World.news_of_block (cs := #[.int .i64 ek, .int .i64 en, .int .i64 ep]) (t := 42) (fr := (0, 0)) (heap_alloc_new wr _)) (by simp [Value.oneCell'])
            (by omega) (by unfold maxLen; omega) (by omega) (by simp; omega) (wr.heap.size + 1) (by simp) ?_; intro g cap7 w1 hown1 hgrow hat hlt2; have aV : w1.cell? ⟨w.heap.size, 8, none⟩ = some lv := (by rw [hgrow.cell_far _ (by simp; omega) (Ne.symm hvb)]; simp [*]); have bV : w1.frozen? ⟨w.heap.size, 8, none⟩ = false := (by rw [hgrow.frozen_far _ (by simp; omega) (Ne.symm hvb)]; simp [*])))
      all_goals
        have hBs := HB.out.size
        have hXg : w1.heap[w.heap.size]? = some (.cells (headC ⟨16, 65535, 1048575, 1099511627776, 65535, 1099511627776, 1099511627777, 1099511627777, []⟩ (lv)) 24 (0, 0)) := (hgrow.block _ (by simp; omega) (Ne.symm hvb)).trans ((Below.heap_alloc _ _ _ (by omega)).trans HX.out)
        have hAg : w1.heap[w.heap.size + 1]? = some (.cells allC 43 (0, 0)) := (hgrow.block _ (by simp; omega) (Ne.symm hvb1)).trans ((Below.heap_alloc _ _ _ hlt1).trans HA.out)
        have HEd : Hid (Edge w.heap.size (n + 1) w (w1.setCell ⟨w.heap.size, 8, none⟩ (.slice (some ⟨g, 0, none⟩) (n + 1) cap7))) := by
          refine ⟨.slice (some ⟨g, 0, none⟩) (n + 1) cap7, heap_setCell_same _ _ 8 _ _ _ hXg, (heap_setCell_other _ _ _ _ (by simp)).trans hAg, ?_, ?_⟩
          · refine EOwn.other ?_ (by dsimp only; omega) _
            unfold EOwn
            rw [HSN.out, List.length_append, hLn, ecells_append, ecells_one]
            exact hown1
          · exact (((HB.out.alloc hBs _).drew).grown hgrow (by simp; omega) (fun k hk => by have := (HO.out.lt k hk).1; omega)).setCell (p := ⟨w.heap.size, 8, none⟩) (Nat.le_refl _) _
        clear hown1 hgrow hat hlt2 aV bV dV eV d0 d1 d2 eV' dV' hown HX HA HO HB HSN hXg hAg HEV
        go_wp2_with fail
        exact ⟨⟨n + 1, by omega, by go_num, HEd⟩, by simp [intOf]; omega⟩
    · have hn24 : n = 24 := by omega
      subst hn24
      obtain ⟨ho1, ho2⟩ := HO.out
      rcases ho2 with ⟨rfl, hz⟩ | ⟨g, cap7, cur, rfl, hgb, hg, hle, hmx, hcs, htk⟩
      · rw [edgeL_length] at hz
        cases hz
      have hLn : (edgeL 24).length = 24 := edgeL_length 24
      rw [hLn] at HX HO hle
      have HEn := hdhid HO.out.ents
      have HGG := hdhid hg
      clear ho1 hg htk hcs
      have CKY := hdhid (fun w1 (h : Ents w1 (.slice (some ⟨g, 0, none⟩) 24 cap7) (edgeL 24)) => CK.out ⟨16, 65535, 1048575, 1099511627776, 65535, 1099511627776, 1099511627777, 1099511627777, edgeL 24⟩ (.slice (some ⟨g, 0, none⟩) 24 cap7) w1 h)
      rw [edge_ok] at CKY
      obtain ⟨x0, x1, x2, x3, x4, x5, x6, x7, x8⟩ := cells9 HX.out
      go_wp2_with fail
      refine (CKY.out _ HEn.out).mono ?_
      rintro e w1 ⟨rfl, hb⟩
      have hBs := HB.out.size
      have HX1 : Hid (w1.heap[w.heap.size]? = some (.cells (headC ⟨16, 65535, 1048575, 1099511627776, 65535, 1099511627776, 1099511627777, 1099511627777, []⟩ (.slice (some ⟨g, 0, none⟩) 24 cap7)) 24 (0, 0))) := (hb.block _ (by omega)).trans HX.out
      have HA1 : Hid (w1.heap[w.heap.size + 1]? = some (.cells allC 43 (0, 0))) := (hb.block _ hlt1).trans HA.out
      have hgl : g < wr.heap.size := (Array.getElem?_eq_some_iff.1 HGG.out).1
      have HG1 : Hid (w1.heap[g]? = some (.cells cur 42 (0, 0))) := (hb.block _ hgl).trans HGG.out
      have HE1 := hdhid (HEn.out.on hb)
      have HO1 : Hid (EOwn w1 (w.heap.size + 2) (.slice (some ⟨g, 0, none⟩) 24 cap7) (edgeL 24)) := HO.out.on hb
      have HB1 : Hid (Below w.heap.size w w1) := HB.out.trans (hb.mono (by omega))
      have hlt2 : w.heap.size + 1 < w1.heap.size := by have := hb.size; omega
      have hgl1 : g < w1.heap.size := by have := hb.size; omega
      have CF : Hid (∀ i (h : i < 24) j, j < 3 → ∃ u, w1.cell? ⟨g, i * 3 + j, none⟩ = some (.int .i64 u)) := by
        intro i h j hj
        obtain ⟨_, _, hv, _, hc⟩ := HE1.out
        cases hv
        obtain ⟨_, _, ha, _, hcell⟩ := hc (by rw [hLn]; omega)
        cases ha
        obtain ⟨h0, h1, h2⟩ := hcell i (by rw [hLn]; exact h)
        rw [Nat.zero_add] at h0 h1 h2
        have hc3 : j = 0 ∨ j = 1 ∨ j = 2 := by omega
        rcases hc3 with rfl | rfl | rfl
        · exact ⟨_, h0⟩
        · exact ⟨_, h1⟩
        · exact ⟨_, h2⟩
      clear hb HX HA HGG HEn HO HB hlt x0 x1 x2 x3 x4 x5 x6 x7 x8 CKY
      go_wp2_with fail
      refine (PLp.out _).mono ?_
      rintro e w' ⟨rfl, rfl⟩
      clear PLp
      have hcc : p = 0 ∨ p = 1 ∨ p = 2 ∨ p = 3 ∨ p = 4 ∨ p = 5 ∨ p = 6 ∨ p = 7 ∨ p = 8 := by omega
      rcases hcc with rfl | rfl | rfl | rfl | rfl | rfl | rfl | rfl | rfl
      · have hr : Int.tmod (1 + (c : Int)) 5 = (((1 + c) % 5 : Nat) : Int) := by rw [Int.tmod_eq_emod_of_nonneg (by omega)]; omega
        obtain ⟨r, hrr⟩ : ∃ r, r = (1 + c) % 5 := ⟨_, rfl⟩
        rw [← hrr] at hr
        have hr5 : r < 5 := by omega
        have hr6 : (0 : Int) ≤ (r : Int) := by omega
        have hr7 : (r : Int) < 5 := by omega
        obtain ⟨d0, d1, d2⟩ := all_cells HA1.out r hr5
        generalize allE r = er at *
        obtain ⟨ek, en, ep⟩ := er
        have hvb : (Value.slice (some ⟨g, 0, none⟩) 24 cap7).ownBlock ≠ some w.heap.size := HO1.out.block _ (by omega)
        have dV : w1.cell? ⟨w.heap.size, 8, none⟩ = some (.slice (some ⟨g, 0, none⟩) 24 cap7) := (cells9 HX1.out).2.2.2.2.2.2.2.2
        have eV : w1.frozen? ⟨w.heap.size, 8, none⟩ = false := frozen_of_row w1 _ _ _ _ HX1.out
        have eV' : ∀ o1, (w1.alloc o1).frozen? ⟨w.heap.size, 8, none⟩ = false := fun o1 => by rw [World.frozen?_alloc_past _ _ _ (by show w.heap.size < w1.heap.size; omega)]; exact eV
        have dV' : ∀ o1, (w1.alloc o1).cell? ⟨w.heap.size, 8, none⟩ = some (.slice (some ⟨g, 0, none⟩) 24 cap7) := fun o1 => by rw [World.cell?_alloc_lt _ _ _ (by show w.heap.size < w1.heap.size; omega)]; exact dV
        have hown : Hid (w1.ownsRow (w.heap.size + 2) 42 3 (.slice (some ⟨g, 0, none⟩) 24 cap7) 24 (ecells (edgeL 24))) := by
          have := HO1.out
          unfold EOwn at this
          rw [hLn] at this
          exact this
        have hno : okB ⟨16, 65535, 1048575, 1099511627776, 65535, 1099511627776, 1099511627777, 1099511627777, (edgeL 24 ++ [(⟨ek, en, ep⟩ : En)])⟩ = false := okB_many (by show 24 < (edgeL 24 ++ [(⟨ek, en, ep⟩ : En)]).length; rw [List.length_append, hLn]; show 24 < 24 + 1; decide)
        clear hrr CF
        go_wp2_with fail
        go_region_law
          ((refine step_append_lies _ (by rfl) _ _ _ (by rfl) (w.heap.size + 2) 42 i0 _ 3 24 Try.underlying22 hi0 hz0 hz1 hz2 rfl (by omega) (.slice (some ⟨g, 0, none⟩) 24 cap7) 24 (ecells (edgeL 24)) (by rfl) ((hown.out.alloc _).drew)
              ⟨w1.heap.size, 0, none⟩ 1 1 [.int .i64 ek, .int .i64 en, .int .i64 ep] (by rfl) (by rfl) (World.news_of_block (cs := #[.int .i64 ek, .int .i64 en, .int .i64 ep]) (t := 42) (fr := (0, 0)) (heap_alloc_new w1 _)) (by simp [Value.oneCell'])
              (by omega) (by unfold maxLen; omega) (by omega) (by simp; omega) (w1.heap.size + 1) (by simp) ?_; intro g7 cap8 w7 hown1 hgrow hat hlt3; have aV : w7.cell? ⟨w.heap.size, 8, none⟩ = some (.slice (some ⟨g, 0, none⟩) 24 cap7) := (by rw [hgrow.cell_far _ (by simp; omega) (Ne.symm hvb)]; simp [*]); have bV : w7.frozen? ⟨w.heap.size, 8, none⟩ = false := (by rw [hgrow.frozen_far _ (by simp; omega) (Ne.symm hvb)]; simp [*])))
        all_goals
          have hBs1 := HB1.out.size
          have hXg : w7.heap[w.heap.size]? = some (.cells (headC ⟨16, 65535, 1048575, 1099511627776, 65535, 1099511627776, 1099511627777, 1099511627777, []⟩ (.slice (some ⟨g, 0, none⟩) 24 cap7)) 24 (0, 0)) := (hgrow.block _ (by simp; omega) (Ne.symm hvb)).trans ((Below.heap_alloc _ _ _ (by omega)).trans HX1.out)
          have CKN := hdhid (fun w1 (h : Ents w1 (.slice (some ⟨g7, 0, none⟩) 25 cap8) (edgeL 24 ++ [(⟨ek, en, ep⟩ : En)])) => CK.out ⟨16, 65535, 1048575, 1099511627776, 65535, 1099511627776, 1099511627777, 1099511627777, (edgeL 24 ++ [(⟨ek, en, ep⟩ : En)])⟩ (.slice (some ⟨g7, 0, none⟩) 25 cap8) w1 h)
          rw [hno] at CKN
          obtain ⟨U, hU⟩ : ∃ U, U = w7.setCell ⟨w.heap.size, 8, none⟩ (.slice (some ⟨g7, 0, none⟩) 25 cap8) := ⟨_, rfl⟩
          have HEz : Hid (Ents U (.slice (some ⟨g7, 0, none⟩) 25 cap8) (edgeL 24 ++ [(⟨ek, en, ep⟩ : En)])) := by
            rw [hU]
            refine EOwn.ents (base := w.heap.size + 2) (EOwn.other ?_ (by dsimp only; omega) _)
            unfold EOwn
            rw [List.length_append, hLn, ecells_append, ecells_one]
            exact hown1
          have HBz : Hid (Below w.heap.size w U) := by
            rw [hU]
            exact (((HB1.out.alloc hBs1 _).drew).grown hgrow (by simp; omega) (fun k hk => by have := (HO1.out.lt k hk).1; omega)).setCell (p := ⟨w.heap.size, 8, none⟩) (Nat.le_refl _) _
          have HUE := hdhid hU
          obtain ⟨x0, x1, x2, x3, x4, x5, x6, x7, x8⟩ := cells9 hXg
          clear hU hown1 hgrow hat hlt3 aV bV dV eV d0 d1 d2 eV' dV' hown HX1 HA1 HO1 HB1 hXg HG1 HE1 hno
          go_wp2_with fail
          rw [← HUE.out]
          refine (CKN.out _ HEz.out).mono ?_
          rintro e w2 ⟨rfl, hb⟩
          have HB2 : Hid (Below w.heap.size w w2) := HBz.out.trans (hb.mono HBz.out.size)
          clear hb HBz HEz CKN x0 x1 x2 x3 x4 x5 x6 x7 x8
          go_wp2_with fail
          refine (AW.out _).mono ?_
          rintro e w3 ⟨rfl, hb⟩
          have HB3 : Hid (Below w.heap.size w w3) := HB2.out.trans (hb.mono HB2.out.size)
          clear hb HB2 AW
          go_wp2_with fail
          go_ret
          exact ⟨rfl, HB3.out⟩
      · obtain ⟨u0, hu0⟩ := CF.out 0 (by decide) 2 (by decide)
        have hu : w1.cell? ⟨g, 2, none⟩ = some (.int .i64 u0) := hu0
        have hf := frozen_of_row w1 g 2 _ _ HG1.out
        have hno : okB ⟨16, 65535, 1048575, 1099511627776, 65535, 1099511627776, 1099511627777, 1099511627777, ((edgeL 24).set 0 (putE (edgeL 24)[0] 2 (587 + (1 + (c : Int)))))⟩ = false := by
          refine okB_one (i := 0) (by rw [List.length_set, hLn]; decide) ?_
          simp only [List.getElem_set_self]
          simp [edgeL, allE, putE, enB, partB, inB, List.range_succ] <;> omega
        have CKN := hdhid (fun w1 (h : Ents w1 (.slice (some ⟨g, 0, none⟩) 24 cap7) ((edgeL 24).set 0 (putE (edgeL 24)[0] 2 (587 + (1 + (c : Int)))))) => CK.out ⟨16, 65535, 1048575, 1099511627776, 65535, 1099511627776, 1099511627777, 1099511627777, ((edgeL 24).set 0 (putE (edgeL 24)[0] 2 (587 + (1 + (c : Int)))))⟩ (.slice (some ⟨g, 0, none⟩) 24 cap7) w1 h)
        rw [hno] at CKN
        obtain ⟨U, hU⟩ : ∃ U, U = w1.setCell ⟨g, 2, none⟩ (.int .i64 (587 + (1 + (c : Int)))) := ⟨_, rfl⟩
        have HEz : Hid (Ents U (.slice (some ⟨g, 0, none⟩) 24 cap7) ((edgeL 24).set 0 (putE (edgeL 24)[0] 2 (587 + (1 + (c : Int)))))) := by
          rw [hU]
          exact HE1.out.put 0 2 (by rw [hLn]; decide) (by decide) (587 + (1 + (c : Int)))
        have hne1 : ¬ (g = w.heap.size) := by omega
        have hne2 : ¬ (w.heap.size = g) := by omega
        obtain ⟨x0, x1, x2, x3, x4, x5, x6, x7, x8⟩ := cells9 HX1.out
        have HBz : Hid (Below w.heap.size w U) := by rw [hU]; exact HB1.out.setCell (p := ⟨g, 2, none⟩) (by dsimp only; omega) _
        have HUE := hdhid hU
        clear hU hu0 hno CF HE1 HX1 HB1 HG1 HA1 HO1
        go_wp2_with fail
        rw [← HUE.out]
        refine (CKN.out _ HEz.out).mono ?_
        rintro e w2 ⟨rfl, hb⟩
        have HB2 : Hid (Below w.heap.size w w2) := HBz.out.trans (hb.mono HBz.out.size)
        clear hb HBz HEz CKN x0 x1 x2 x3 x4 x5 x6 x7 x8
        go_wp2_with fail
        refine (AW.out _).mono ?_
        rintro e w3 ⟨rfl, hb⟩
        have HB3 : Hid (Below w.heap.size w w3) := HB2.out.trans (hb.mono HB2.out.size)
        clear hb HB2 AW
        go_wp2_with fail
        go_ret
        exact ⟨rfl, HB3.out⟩
      · obtain ⟨u0, hu0⟩ := CF.out 1 (by decide) 2 (by decide)
        have hu : w1.cell? ⟨g, 5, none⟩ = some (.int .i64 u0) := hu0
        have hf := frozen_of_row w1 g 5 _ _ HG1.out
        have hno : okB ⟨16, 65535, 1048575, 1099511627776, 65535, 1099511627776, 1099511627777, 1099511627777, ((edgeL 24).set 1 (putE (edgeL 24)[1] 2 (9 + (1 + (c : Int)))))⟩ = false := by
          refine okB_one (i := 1) (by rw [List.length_set, hLn]; decide) ?_
          simp only [List.getElem_set_self]
          simp [edgeL, allE, putE, enB, partB, inB, List.range_succ] <;> omega
        have CKN := hdhid (fun w1 (h : Ents w1 (.slice (some ⟨g, 0, none⟩) 24 cap7) ((edgeL 24).set 1 (putE (edgeL 24)[1] 2 (9 + (1 + (c : Int)))))) => CK.out ⟨16, 65535, 1048575, 1099511627776, 65535, 1099511627776, 1099511627777, 1099511627777, ((edgeL 24).set 1 (putE (edgeL 24)[1] 2 (9 + (1 + (c : Int)))))⟩ (.slice (some ⟨g, 0, none⟩) 24 cap7) w1 h)
        rw [hno] at CKN
        obtain ⟨U, hU⟩ : ∃ U, U = w1.setCell ⟨g, 5, none⟩ (.int .i64 (9 + (1 + (c : Int)))) := ⟨_, rfl⟩
        have HEz : Hid (Ents U (.slice (some ⟨g, 0, none⟩) 24 cap7) ((edgeL 24).set 1 (putE (edgeL 24)[1] 2 (9 + (1 + (c : Int)))))) := by
          rw [hU]
          exact HE1.out.put 1 2 (by rw [hLn]; decide) (by decide) (9 + (1 + (c : Int)))
        have hne1 : ¬ (g = w.heap.size) := by omega
        have hne2 : ¬ (w.heap.size = g) := by omega
        obtain ⟨x0, x1, x2, x3, x4, x5, x6, x7, x8⟩ := cells9 HX1.out
        have HBz : Hid (Below w.heap.size w U) := by rw [hU]; exact HB1.out.setCell (p := ⟨g, 5, none⟩) (by dsimp only; omega) _
        have HUE := hdhid hU
        clear hU hu0 hno CF HE1 HX1 HB1 HG1 HA1 HO1
        go_wp2_with fail
        rw [← HUE.out]
        refine (CKN.out _ HEz.out).mono ?_
        rintro e w2 ⟨rfl, hb⟩
        have HB2 : Hid (Below w.heap.size w w2) := HBz.out.trans (hb.mono HBz.out.size)
        clear hb HBz HEz CKN x0 x1 x2 x3 x4 x5 x6 x7 x8
        go_wp2_with fail
        refine (AW.out _).mono ?_
        rintro e w3 ⟨rfl, hb⟩
        have HB3 : Hid (Below w.heap.size w w3) := HB2.out.trans (hb.mono HB2.out.size)
        clear hb HB2 AW
        go_wp2_with fail
        go_ret
        exact ⟨rfl, HB3.out⟩
      · obtain ⟨u0, hu0⟩ := CF.out 2 (by decide) 2 (by decide)
        have hu : w1.cell? ⟨g, 8, none⟩ = some (.int .i64 u0) := hu0
        have hf := frozen_of_row w1 g 8 _ _ HG1.out
        have hno : okB ⟨16, 65535, 1048575, 1099511627776, 65535, 1099511627776, 1099511627777, 1099511627777, ((edgeL 24).set 2 (putE (edgeL 24)[2] 2 (1 + (c : Int))))⟩ = false := by
          refine okB_one (i := 2) (by rw [List.length_set, hLn]; decide) ?_
          simp only [List.getElem_set_self]
          simp [edgeL, allE, putE, enB, partB, inB, List.range_succ] <;> omega
        have CKN := hdhid (fun w1 (h : Ents w1 (.slice (some ⟨g, 0, none⟩) 24 cap7) ((edgeL 24).set 2 (putE (edgeL 24)[2] 2 (1 + (c : Int))))) => CK.out ⟨16, 65535, 1048575, 1099511627776, 65535, 1099511627776, 1099511627777, 1099511627777, ((edgeL 24).set 2 (putE (edgeL 24)[2] 2 (1 + (c : Int))))⟩ (.slice (some ⟨g, 0, none⟩) 24 cap7) w1 h)
        rw [hno] at CKN
        obtain ⟨U, hU⟩ : ∃ U, U = w1.setCell ⟨g, 8, none⟩ (.int .i64 (1 + (c : Int))) := ⟨_, rfl⟩
        have HEz : Hid (Ents U (.slice (some ⟨g, 0, none⟩) 24 cap7) ((edgeL 24).set 2 (putE (edgeL 24)[2] 2 (1 + (c : Int))))) := by
          rw [hU]
          exact HE1.out.put 2 2 (by rw [hLn]; decide) (by decide) (1 + (c : Int))
        have hne1 : ¬ (g = w.heap.size) := by omega
        have hne2 : ¬ (w.heap.size = g) := by omega
        obtain ⟨x0, x1, x2, x3, x4, x5, x6, x7, x8⟩ := cells9 HX1.out
        have HBz : Hid (Below w.heap.size w U) := by rw [hU]; exact HB1.out.setCell (p := ⟨g, 8, none⟩) (by dsimp only; omega) _
        have HUE := hdhid hU
        clear hU hu0 hno CF HE1 HX1 HB1 HG1 HA1 HO1
        go_wp2_with fail
        rw [← HUE.out]
        refine (CKN.out _ HEz.out).mono ?_
        rintro e w2 ⟨rfl, hb⟩
        have HB2 : Hid (Below w.heap.size w w2) := HBz.out.trans (hb.mono HBz.out.size)
        clear hb HBz HEz CKN x0 x1 x2 x3 x4 x5 x6 x7 x8
        go_wp2_with fail
        refine (AW.out _).mono ?_
        rintro e w3 ⟨rfl, hb⟩
        have HB3 : Hid (Below w.heap.size w w3) := HB2.out.trans (hb.mono HB2.out.size)
        clear hb HB2 AW
        go_wp2_with fail
        go_ret
        exact ⟨rfl, HB3.out⟩
      · obtain ⟨u0, hu0⟩ := CF.out 3 (by decide) 1 (by decide)
        have hu : w1.cell? ⟨g, 10, none⟩ = some (.int .i64 u0) := hu0
        have hf := frozen_of_row w1 g 10 _ _ HG1.out
        have hno : okB ⟨16, 65535, 1048575, 1099511627776, 65535, 1099511627776, 1099511627777, 1099511627777, ((edgeL 24).set 3 (putE (edgeL 24)[3] 1 (1 + (1 + (c : Int)))))⟩ = false := by
          refine okB_one (i := 3) (by rw [List.length_set, hLn]; decide) ?_
          simp only [List.getElem_set_self]
          simp [edgeL, allE, putE, enB, partB, inB, List.range_succ] <;> omega
        have CKN := hdhid (fun w1 (h : Ents w1 (.slice (some ⟨g, 0, none⟩) 24 cap7) ((edgeL 24).set 3 (putE (edgeL 24)[3] 1 (1 + (1 + (c : Int)))))) => CK.out ⟨16, 65535, 1048575, 1099511627776, 65535, 1099511627776, 1099511627777, 1099511627777, ((edgeL 24).set 3 (putE (edgeL 24)[3] 1 (1 + (1 + (c : Int)))))⟩ (.slice (some ⟨g, 0, none⟩) 24 cap7) w1 h)
        rw [hno] at CKN
        obtain ⟨U, hU⟩ : ∃ U, U = w1.setCell ⟨g, 10, none⟩ (.int .i64 (1 + (1 + (c : Int)))) := ⟨_, rfl⟩
        have HEz : Hid (Ents U (.slice (some ⟨g, 0, none⟩) 24 cap7) ((edgeL 24).set 3 (putE (edgeL 24)[3] 1 (1 + (1 + (c : Int)))))) := by
          rw [hU]
          exact HE1.out.put 3 1 (by rw [hLn]; decide) (by decide) (1 + (1 + (c : Int)))
        have hne1 : ¬ (g = w.heap.size) := by omega
        have hne2 : ¬ (w.heap.size = g) := by omega
        obtain ⟨x0, x1, x2, x3, x4, x5, x6, x7, x8⟩ := cells9 HX1.out
        have HBz : Hid (Below w.heap.size w U) := by rw [hU]; exact HB1.out.setCell (p := ⟨g, 10, none⟩) (by dsimp only; omega) _
        have HUE := hdhid hU
        clear hU hu0 hno CF HE1 HX1 HB1 HG1 HA1 HO1
        go_wp2_with fail
        rw [← HUE.out]
        refine (CKN.out _ HEz.out).mono ?_
        rintro e w2 ⟨rfl, hb⟩
        have HB2 : Hid (Below w.heap.size w w2) := HBz.out.trans (hb.mono HBz.out.size)
        clear hb HBz HEz CKN x0 x1 x2 x3 x4 x5 x6 x7 x8
        go_wp2_with fail
        refine (AW.out _).mono ?_
        rintro e w3 ⟨rfl, hb⟩
        have HB3 : Hid (Below w.heap.size w w3) := HB2.out.trans (hb.mono HB2.out.size)
        clear hb HB2 AW
        go_wp2_with fail
        go_ret
        exact ⟨rfl, HB3.out⟩
      · obtain ⟨u0, hu0⟩ := CF.out 4 (by decide) 0 (by decide)
        have hu : w1.cell? ⟨g, 12, none⟩ = some (.int .i64 u0) := hu0
        have hf := frozen_of_row w1 g 12 _ _ HG1.out
        have hno : okB ⟨16, 65535, 1048575, 1099511627776, 65535, 1099511627776, 1099511627777, 1099511627777, ((edgeL 24).set 4 (putE (edgeL 24)[4] 0 (5 + (1 + (c : Int)))))⟩ = false := by
          refine okB_one (i := 4) (by rw [List.length_set, hLn]; decide) ?_
          simp only [List.getElem_set_self]
          simp [edgeL, allE, putE, enB, partB, inB, List.range_succ] <;> omega
        have CKN := hdhid (fun w1 (h : Ents w1 (.slice (some ⟨g, 0, none⟩) 24 cap7) ((edgeL 24).set 4 (putE (edgeL 24)[4] 0 (5 + (1 + (c : Int)))))) => CK.out ⟨16, 65535, 1048575, 1099511627776, 65535, 1099511627776, 1099511627777, 1099511627777, ((edgeL 24).set 4 (putE (edgeL 24)[4] 0 (5 + (1 + (c : Int)))))⟩ (.slice (some ⟨g, 0, none⟩) 24 cap7) w1 h)
        rw [hno] at CKN
        obtain ⟨U, hU⟩ : ∃ U, U = w1.setCell ⟨g, 12, none⟩ (.int .i64 (5 + (1 + (c : Int)))) := ⟨_, rfl⟩
        have HEz : Hid (Ents U (.slice (some ⟨g, 0, none⟩) 24 cap7) ((edgeL 24).set 4 (putE (edgeL 24)[4] 0 (5 + (1 + (c : Int)))))) := by
          rw [hU]
          exact HE1.out.put 4 0 (by rw [hLn]; decide) (by decide) (5 + (1 + (c : Int)))
        have hne1 : ¬ (g = w.heap.size) := by omega
        have hne2 : ¬ (w.heap.size = g) := by omega
        obtain ⟨x0, x1, x2, x3, x4, x5, x6, x7, x8⟩ := cells9 HX1.out
        have HBz : Hid (Below w.heap.size w U) := by rw [hU]; exact HB1.out.setCell (p := ⟨g, 12, none⟩) (by dsimp only; omega) _
        have HUE := hdhid hU
        clear hU hu0 hno CF HE1 HX1 HB1 HG1 HA1 HO1
        go_wp2_with fail
        rw [← HUE.out]
        refine (CKN.out _ HEz.out).mono ?_
        rintro e w2 ⟨rfl, hb⟩
        have HB2 : Hid (Below w.heap.size w w2) := HBz.out.trans (hb.mono HBz.out.size)
        clear hb HBz HEz CKN x0 x1 x2 x3 x4 x5 x6 x7 x8
        go_wp2_with fail
        refine (AW.out _).mono ?_
        rintro e w3 ⟨rfl, hb⟩
        have HB3 : Hid (Below w.heap.size w w3) := HB2.out.trans (hb.mono HB2.out.size)
        clear hb HB2 AW
        go_wp2_with fail
        go_ret
        exact ⟨rfl, HB3.out⟩
      · have hr : Int.tmod (1 + (c : Int)) 24 = (((1 + c) % 24 : Nat) : Int) := by rw [Int.tmod_eq_emod_of_nonneg (by omega)]; omega
        obtain ⟨j, hjj⟩ : ∃ j, j = (1 + c) % 24 := ⟨_, rfl⟩
        rw [← hjj] at hr
        have hj24 : j < 24 := by omega
        have hj : j < (edgeL 24).length := by rw [hLn]; exact hj24
        have hr6 : (0 : Int) ≤ (j : Int) := by omega
        have hr7 : (j : Int) < 24 := by omega
        obtain ⟨u0, hu⟩ := CF.out j hj24 1 (by decide)
        have hf := frozen_of_row w1 g (j * 3 + 1) _ _ HG1.out
        have hno : okB ⟨16, 65535, 1048575, 1099511627776, 65535, 1099511627776, 1099511627777, 1099511627777, ((edgeL 24).set j (putE ((edgeL 24)[j]'hj) 1 0))⟩ = false := by
          refine okB_one (i := j) (by rw [List.length_set]; exact hj) ?_
          simp only [List.getElem_set_self]
          rfl
        have CKN := hdhid (fun w1 (h : Ents w1 (.slice (some ⟨g, 0, none⟩) 24 cap7) ((edgeL 24).set j (putE ((edgeL 24)[j]'hj) 1 0))) => CK.out ⟨16, 65535, 1048575, 1099511627776, 65535, 1099511627776, 1099511627777, 1099511627777, ((edgeL 24).set j (putE ((edgeL 24)[j]'hj) 1 0))⟩ (.slice (some ⟨g, 0, none⟩) 24 cap7) w1 h)
        rw [hno] at CKN
        obtain ⟨U, hU⟩ : ∃ U, U = w1.setCell ⟨g, j * 3 + 1, none⟩ (.int .i64 0) := ⟨_, rfl⟩
        have HEz : Hid (Ents U (.slice (some ⟨g, 0, none⟩) 24 cap7) ((edgeL 24).set j (putE ((edgeL 24)[j]'hj) 1 0))) := by
          have := HE1.out.put j 1 hj (by decide) 0
          rw [Nat.zero_add] at this
          rw [hU]
          exact this
        have hne1 : ¬ (g = w.heap.size) := by omega
        have hne2 : ¬ (w.heap.size = g) := by omega
        obtain ⟨x0, x1, x2, x3, x4, x5, x6, x7, x8⟩ := cells9 HX1.out
        have HBz : Hid (Below w.heap.size w U) := by rw [hU]; exact HB1.out.setCell (p := ⟨g, j * 3 + 1, none⟩) (by dsimp only; omega) _
        have HUE := hdhid hU
        clear hU hno CF HE1 HX1 HB1 HG1 HA1 HO1 hjj
        go_wp2_with fail
        rw [← HUE.out]
        refine (CKN.out _ HEz.out).mono ?_
        rintro e w2 ⟨rfl, hb⟩
        have HB2 : Hid (Below w.heap.size w w2) := HBz.out.trans (hb.mono HBz.out.size)
        clear hb HBz HEz CKN x0 x1 x2 x3 x4 x5 x6 x7 x8
        go_wp2_with fail
        refine (AW.out _).mono ?_
        rintro e w3 ⟨rfl, hb⟩
        have HB3 : Hid (Below w.heap.size w w3) := HB2.out.trans (hb.mono HB2.out.size)
        clear hb HB2 AW
        go_wp2_with fail
        go_ret
        exact ⟨rfl, HB3.out⟩
      · have hf := frozen_of_row w1 w.heap.size 3 _ _ HX1.out
        have hno : okB ⟨16, 65535, 1048575, 1 - (1 + (c : Int)), 65535, 1099511627776, 1099511627777, 1099511627777, edgeL 24⟩ = false := by
          refine okB_nums ?_
          simp [numB, inB] <;> omega
        have CKN := hdhid (fun w1 (h : Ents w1 (.slice (some ⟨g, 0, none⟩) 24 cap7) (edgeL 24)) => CK.out ⟨16, 65535, 1048575, 1 - (1 + (c : Int)), 65535, 1099511627776, 1099511627777, 1099511627777, edgeL 24⟩ (.slice (some ⟨g, 0, none⟩) 24 cap7) w1 h)
        rw [hno] at CKN
        obtain ⟨U, hU⟩ : ∃ U, U = w1.setCell ⟨w.heap.size, 3, none⟩ (.int .i64 (1 - (1 + (c : Int)))) := ⟨_, rfl⟩
        have HEz : Hid (Ents U (.slice (some ⟨g, 0, none⟩) 24 cap7) (edgeL 24)) := by
          rw [hU]
          exact HE1.out.turned (by dsimp only; omega) _
        obtain ⟨x0, x1, x2, x3, x4, x5, x6, x7, x8⟩ := cells9 HX1.out
        have HBz : Hid (Below w.heap.size w U) := by rw [hU]; exact HB1.out.setCell (p := ⟨w.heap.size, 3, none⟩) (Nat.le_refl _) _
        have HUE := hdhid hU
        clear hU hno CF HE1 HX1 HB1 HG1 HA1 HO1
        go_wp2_with fail
        rw [← HUE.out]
        refine (CKN.out _ HEz.out).mono ?_
        rintro e w2 ⟨rfl, hb⟩
        have HB2 : Hid (Below w.heap.size w w2) := HBz.out.trans (hb.mono HBz.out.size)
        clear hb HBz HEz CKN x0 x1 x2 x3 x4 x5 x6 x7 x8
        go_wp2_with fail
        refine (AW.out _).mono ?_
        rintro e w3 ⟨rfl, hb⟩
        have HB3 : Hid (Below w.heap.size w w3) := HB2.out.trans (hb.mono HB2.out.size)
        clear hb HB2 AW
        go_wp2_with fail
        go_ret
        exact ⟨rfl, HB3.out⟩
      · have hf := frozen_of_row w1 w.heap.size 2 _ _ HX1.out
        have hno : okB ⟨16, 65535, 1048575 + (1 + (c : Int)), 1099511627776, 65535, 1099511627776, 1099511627777, 1099511627777, edgeL 24⟩ = false := by
          refine okB_nums ?_
          simp [numB, inB] <;> omega
        have CKN := hdhid (fun w1 (h : Ents w1 (.slice (some ⟨g, 0, none⟩) 24 cap7) (edgeL 24)) => CK.out ⟨16, 65535, 1048575 + (1 + (c : Int)), 1099511627776, 65535, 1099511627776, 1099511627777, 1099511627777, edgeL 24⟩ (.slice (some ⟨g, 0, none⟩) 24 cap7) w1 h)
        rw [hno] at CKN
        obtain ⟨U, hU⟩ : ∃ U, U = w1.setCell ⟨w.heap.size, 2, none⟩ (.int .i64 (1048575 + (1 + (c : Int)))) := ⟨_, rfl⟩
        have HEz : Hid (Ents U (.slice (some ⟨g, 0, none⟩) 24 cap7) (edgeL 24)) := by
          rw [hU]
          exact HE1.out.turned (by dsimp only; omega) _
        obtain ⟨x0, x1, x2, x3, x4, x5, x6, x7, x8⟩ := cells9 HX1.out
        have HBz : Hid (Below w.heap.size w U) := by rw [hU]; exact HB1.out.setCell (p := ⟨w.heap.size, 2, none⟩) (Nat.le_refl _) _
        have HUE := hdhid hU
        clear hU hno CF HE1 HX1 HB1 HG1 HA1 HO1
        go_wp2_with fail
        rw [← HUE.out]
        refine (CKN.out _ HEz.out).mono ?_
        rintro e w2 ⟨rfl, hb⟩
        have HB2 : Hid (Below w.heap.size w w2) := HBz.out.trans (hb.mono HBz.out.size)
        clear hb HBz HEz CKN x0 x1 x2 x3 x4 x5 x6 x7 x8
        go_wp2_with fail
        refine (AW.out _).mono ?_
        rintro e w3 ⟨rfl, hb⟩
        have HB3 : Hid (Below w.heap.size w w3) := HB2.out.trans (hb.mono HB2.out.size)
        clear hb HB2 AW
        go_wp2_with fail
        go_ret
        exact ⟨rfl, HB3.out⟩
end Go.Proofs.Ytmhhlchddkdjnaa
