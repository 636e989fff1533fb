/- The document's own Get walked. -/
import Derived.Test.YtdhdjnpgebddmaaTabGetAll
import Derived.Test.YtdhdjnpgebddmaaBinRef
namespace Go.Proofs.Ytdhdjnpgebddmaa
open Go.RowKit Tab

set_option maxHeartbeats 400000 in
/-- The document's own number at a place. -/
theorem refnum_t (s : ByteArray) (a n : Int) (w : World) (h0 : 0 ≤ n) (hn : n ≤ 7) (ha0 : 0 ≤ a) (ha : a + n ≤ s.size) (hl : s.size ≤ 4611686018427387904) :
    Calls Try.prog 35 #[.string s, .int .i64 a, .int .i64 n] w fun e w' => e = .returned (.int .i64 (numAt s.data.toList a.toNat n.toNat)) ∧ w = w' := by
  have G := tabhid (refGet_t s a.toNat n.toNat w (by omega) (by omega) (by omega))
  rw [show ((a.toNat : Nat) : Int) = a by omega, show ((n.toNat : Nat) : Int) = n by omega] at G
  go_enter Try.func35, Try.ntmps35
  go_wp2_with fail
  refine G.out.mono ?_
  rintro e w' ⟨rfl, rfl⟩
  go_wp2_with fail
  go_ret
  exact ⟨rfl, rfl⟩

set_option maxRecDepth 10000 in
set_option maxHeartbeats 4000000 in
/-- What the loop body of the document's Get does with one house, told as the loop's round. -/
theorem refGet_full (s : ByteArray) (w : World) (hs : s.size = 2048)
    (PUT : ∀ (num : Int) (l : List Ho) (v : Value) (w : World), Houses w v l → (∀ x ∈ l, x.segs.length ≤ 40) → Calls Try.prog 12 #[.int .i64 num, v] w fun e w' => e = .returned (.tuple #[.string (putS num l), .bool (putB num l)]) ∧ Below w.heap.size w w') :
    Calls Try.prog 14 #[.string s] w fun e w' => Got s e w' ∧ Below w.heap.size w w' := by
  obtain ⟨i0, hi0, hz0, hz1, hz2⟩ := info_parts Try.tabInfoH
  obtain ⟨j0, hj0, hy0, hy1, hy2⟩ := info_parts Try.tabInfo3
  obtain ⟨N, hN⟩ : ∃ N, N = getN s.data.toList := ⟨_, rfl⟩
  have NUM : Hid (∀ w6 : World, Calls Try.prog 35 #[.string s, .int .i64 4, .int .i64 6] w6 fun e w' => e = .returned (.int .i64 N) ∧ w6 = w') := fun w6 => by
    have := refnum_t s 4 6 w6 (by decide) (by decide) (by decide) (by omega) (by omega)
    rw [hN]
    exact this
  have HPUT := tabhid PUT
  have hs2 : (s.size : Int) = 2048 := by omega
  have HGN := tabhid hN
  have HSZ := tabhid hs
  clear hN PUT hs
  go_enter Try.func14, Try.ntmps14
  go_wp2_with fail
  go_loopw [5, 6, 7] (fun la p c wr => ∃ (i : Nat) (A : Int) (L : List (Ho × Value)), i ≤ 16 ∧ L.length = i ∧ c = .int .i64 i ∧ p = .int .i64 A ∧ 0 ≤ A ∧ A ≤ 10000 ∧ Hid (A = ((10 + 101 * i : Nat) : Int)) ∧ Hid (L.map (·.1) = housesAt s.data.toList i) ∧ Hid (∀ q ∈ L, Ints wr q.2 q.1.segs ∧ IntRow wr q.2) ∧ Hid (wr.ownsRow w.heap.size 42 10 la L.length (hcells L)) ∧ Hid (Below w.heap.size w wr)) (fun _ _ c _ => 16 - (intOf c).toNat)
  case atStart => exact ⟨0, 10, [], by omega, rfl, rfl, rfl, by omega, by omega, rfl, rfl, (fun q hq => by cases hq), ⟨rfl, .inl ⟨rfl, rfl⟩⟩, Below.refl _ _⟩
  case round =>
    obtain ⟨i, A, L, hi, hLl, rfl, rfl, hA0, hA1, HA, HL, HI, HO, HW⟩ := hrel
    have hws := HW.out.size
    by_cases hlt : i < 16
    · obtain ⟨x, hx⟩ : ∃ x, x = houseAt s.data.toList (10 + 101 * i) := ⟨_, rfl⟩
      have hAn : A.toNat = 10 + 101 * i := by rw [HA.out]; omega
      have hAs : A + 101 ≤ 2048 := by rw [HA.out]; omega
      have HSN : Hid (housesAt s.data.toList (i + 1) = housesAt s.data.toList i ++ [x]) := by show _ = _; rw [housesAt_snoc, hx]
      have N0 : Hid (∀ w6 : World, Calls Try.prog 35 #[.string s, .int .i64 (A), .int .i64 1] w6 fun e w' => e = .returned (.int .i64 x.st) ∧ w6 = w') := fun w6 => by
        have := refnum_t s (A) 1 w6 (by decide) (by decide) (by omega) (by have := HSZ.out; omega) (by have := HSZ.out; omega)
        rw [show (A).toNat = 10 + 101 * i + 0 by omega] at this
        rw [hx]
        exact this
      have N1 : Hid (∀ w6 : World, Calls Try.prog 35 #[.string s, .int .i64 (A + 1), .int .i64 2] w6 fun e w' => e = .returned (.int .i64 x.gen) ∧ w6 = w') := fun w6 => by
        have := refnum_t s (A + 1) 2 w6 (by decide) (by decide) (by omega) (by have := HSZ.out; omega) (by have := HSZ.out; omega)
        rw [show (A + 1).toNat = 10 + 101 * i + 1 by omega] at this
        rw [hx]
        exact this
      have N2 : Hid (∀ w6 : World, Calls Try.prog 35 #[.string s, .int .i64 (A + 3), .int .i64 1] w6 fun e w' => e = .returned (.int .i64 x.lim.s) ∧ w6 = w') := fun w6 => by
        have := refnum_t s (A + 3) 1 w6 (by decide) (by decide) (by omega) (by have := HSZ.out; omega) (by have := HSZ.out; omega)
        rw [show (A + 3).toNat = 10 + 101 * i + 3 by omega] at this
        rw [hx]
        exact this
      have N3 : Hid (∀ w6 : World, Calls Try.prog 35 #[.string s, .int .i64 (A + 4), .int .i64 3] w6 fun e w' => e = .returned (.int .i64 x.lim.hb) ∧ w6 = w') := fun w6 => by
        have := refnum_t s (A + 4) 3 w6 (by decide) (by decide) (by omega) (by have := HSZ.out; omega) (by have := HSZ.out; omega)
        rw [show (A + 4).toNat = 10 + 101 * i + 4 by omega] at this
        rw [hx]
        exact this
      have N4 : Hid (∀ w6 : World, Calls Try.prog 35 #[.string s, .int .i64 (A + 7), .int .i64 3] w6 fun e w' => e = .returned (.int .i64 x.lim.sb) ∧ w6 = w') := fun w6 => by
        have := refnum_t s (A + 7) 3 w6 (by decide) (by decide) (by omega) (by have := HSZ.out; omega) (by have := HSZ.out; omega)
        rw [show (A + 7).toNat = 10 + 101 * i + 7 by omega] at this
        rw [hx]
        exact this
      have N5 : Hid (∀ w6 : World, Calls Try.prog 35 #[.string s, .int .i64 (A + 10), .int .i64 1] w6 fun e w' => e = .returned (.int .i64 x.lim.hn) ∧ w6 = w') := fun w6 => by
        have := refnum_t s (A + 10) 1 w6 (by decide) (by decide) (by omega) (by have := HSZ.out; omega) (by have := HSZ.out; omega)
        rw [show (A + 10).toNat = 10 + 101 * i + 10 by omega] at this
        rw [hx]
        exact this
      have N6 : Hid (∀ w6 : World, Calls Try.prog 35 #[.string s, .int .i64 (A + 11), .int .i64 1] w6 fun e w' => e = .returned (.int .i64 x.lim.sn) ∧ w6 = w') := fun w6 => by
        have := refnum_t s (A + 11) 1 w6 (by decide) (by decide) (by omega) (by have := HSZ.out; omega) (by have := HSZ.out; omega)
        rw [show (A + 11).toNat = 10 + 101 * i + 11 by omega] at this
        rw [hx]
        exact this
      have N7 : Hid (∀ w6 : World, Calls Try.prog 35 #[.string s, .int .i64 (A + 12), .int .i64 6] w6 fun e w' => e = .returned (.int .i64 x.lim.gr) ∧ w6 = w') := fun w6 => by
        have := refnum_t s (A + 12) 6 w6 (by decide) (by decide) (by omega) (by have := HSZ.out; omega) (by have := HSZ.out; omega)
        rw [show (A + 12).toNat = 10 + 101 * i + 12 by omega] at this
        rw [hx]
        exact this
      have N8 : Hid (∀ w6 : World, Calls Try.prog 35 #[.string s, .int .i64 (A + 18), .int .i64 2] w6 fun e w' => e = .returned (.int .i64 x.lim.bu) ∧ w6 = w') := fun w6 => by
        have := refnum_t s (A + 18) 2 w6 (by decide) (by decide) (by omega) (by have := HSZ.out; omega) (by have := HSZ.out; omega)
        rw [show (A + 18).toNat = 10 + 101 * i + 18 by omega] at this
        rw [hx]
        exact this
      obtain ⟨M, hM⟩ : ∃ M, M = numAt s.data.toList (10 + 101 * i + 20) 1 := ⟨_, rfl⟩
      have hMb := numAt_lt s.data.toList (10 + 101 * i + 20) 1
      rw [← hM] at hMb
      have N9 : Hid (∀ w6 : World, Calls Try.prog 35 #[.string s, .int .i64 (A + 20), .int .i64 1] w6 fun e w' => e = .returned (.int .i64 M) ∧ w6 = w') := fun w6 => by
        have := refnum_t s (A + 20) 1 w6 (by decide) (by decide) (by omega) (by have := HSZ.out; omega) (by have := HSZ.out; omega)
        rw [show (A + 20).toNat = 10 + 101 * i + 20 by omega, show (1 : Int).toNat = 1 from rfl, ← hM] at this
        exact this
      have hM0 : 0 ≤ M := hMb.1
      have hM1 : M < 256 := by have := hMb.2; simp at this; exact this
      obtain ⟨m, hm⟩ : ∃ m, m = min M.toNat 40 := ⟨_, rfl⟩
      have hmm : m ≤ 40 := by omega
      have hmM : (m : Int) ≤ M := by omega
      have hmx : m < 40 → (m : Int) = M := by omega
      have HXS : Hid (x.segs = segsAt s.data.toList (10 + 101 * i + 21) m) := by
        show _ = _
        rw [hx, hm, hM]
        rfl
      have NJ : Hid (∀ (j : Nat) (w6 : World), j < 40 → Calls Try.prog 35 #[.string s, .int .i64 (A + 21 + 2 * (j : Int)), .int .i64 2] w6 fun e w' => e = .returned (.int .i64 (numAt s.data.toList (10 + 101 * i + 21 + 2 * j) 2)) ∧ w6 = w') := fun j w6 hj => by
        have := refnum_t s (A + 21 + 2 * (j : Int)) 2 w6 (by decide) (by decide) (by omega) (by have := HSZ.out; omega) (by have := HSZ.out; omega)
        rw [show (A + 21 + 2 * (j : Int)).toNat = 10 + 101 * i + 21 + 2 * j by omega] at this
        exact this
      have HAN := tabhid hAn
      clear hx hM hMb hm hAn
      go_wp2_with fail
      refine (N0.out _).mono ?_
      rintro e w6 ⟨rfl, rfl⟩
      go_wp2_with fail
      refine (N1.out _).mono ?_
      rintro e w6 ⟨rfl, rfl⟩
      go_wp2_with fail
      refine (N2.out _).mono ?_
      rintro e w6 ⟨rfl, rfl⟩
      go_wp2_with fail
      refine (N3.out _).mono ?_
      rintro e w6 ⟨rfl, rfl⟩
      go_wp2_with fail
      refine (N4.out _).mono ?_
      rintro e w6 ⟨rfl, rfl⟩
      go_wp2_with fail
      refine (N5.out _).mono ?_
      rintro e w6 ⟨rfl, rfl⟩
      go_wp2_with fail
      refine (N6.out _).mono ?_
      rintro e w6 ⟨rfl, rfl⟩
      go_wp2_with fail
      refine (N7.out _).mono ?_
      rintro e w6 ⟨rfl, rfl⟩
      go_wp2_with fail
      refine (N8.out _).mono ?_
      rintro e w6 ⟨rfl, rfl⟩
      clear N0 N1 N2 N3 N4 N5 N6 N7 N8
      go_wp2_with fail
      go_loopw [9] (fun c w2 => ∃ (j : Nat) (va : Value), j ≤ m ∧ c = .int .i64 j ∧ Hid (w2.heap[wr.heap.size]? = some (.cells (houseCells x va) 42 (0, 0))) ∧ Hid (w2.ownsRow (wr.heap.size + 1) 3 1 va j (icells (segsAt s.data.toList (10 + 101 * i + 21) j))) ∧ Hid (Below wr.heap.size wr w2)) (fun c _ => m - (intOf c).toNat)
      case atStart => exact ⟨0, .slice none 0 0, by omega, rfl, heap_alloc_new _ _, ⟨rfl, .inl ⟨rfl, rfl⟩⟩, (Below.refl _ _).alloc (Nat.le_refl _) _⟩
      case round =>
        obtain ⟨j, va, hj, rfl, HH2, HO2, HB2⟩ := hrel
        rename World => w2
        have hhl2 : wr.heap.size < w2.heap.size := (Array.getElem?_eq_some_iff.1 HH2.out).1
        have hown : va.ownBlock ≠ some wr.heap.size := fun h => by have := (HO2.out.lt _ h).1; omega
        have c9 : w2.cell? ⟨wr.heap.size, 9, none⟩ = some va := by rw [cell_of_row w2 _ _ _ _ _ HH2.out]; rfl
        have f9 : w2.frozen? ⟨wr.heap.size, 9, none⟩ = false := frozen_of_row w2 _ _ _ _ HH2.out
        by_cases hjm : j < m
        · obtain ⟨y, hy⟩ : ∃ y, y = numAt s.data.toList (10 + 101 * i + 21 + 2 * j) 2 := ⟨_, rfl⟩
          have NY : Hid (∀ w6 : World, Calls Try.prog 35 #[.string s, .int .i64 (A + 21 + 2 * (j : Int)), .int .i64 2] w6 fun e w' => e = .returned (.int .i64 y) ∧ w6 = w') := fun w6 => by
            have := NJ.out j w6 (by omega)
            rw [← hy] at this
            exact this
          have NYw : Hid (∀ w6 : World, Calls Try.prog 35 #[.string s, .int .i64 (IntKind.i64.wrap (A + 21 + IntKind.i64.wrap (2 * (j : Int)))), .int .i64 2] w6 fun e w' => e = .returned (.int .i64 y) ∧ w6 = w') := fun w6 => by
            rw [show IntKind.i64.wrap (2 * (j : Int)) = 2 * (j : Int) by rw [IntKind.wrap_i64]; omega, show IntKind.i64.wrap (A + 21 + 2 * (j : Int)) = A + 21 + 2 * (j : Int) by rw [IntKind.wrap_i64]; omega]
            exact NY.out w6
          have HSG : Hid (icells (segsAt s.data.toList (10 + 101 * i + 21) (j + 1)) = icells (segsAt s.data.toList (10 + 101 * i + 21) j) ++ [.int .i64 y]) := by
            show _ = _
            rw [segsAt, List.range_succ, List.map_append, icells_append, hy]
            rfl
          have hjM : (j : Int) < M := by omega
          have hj40 : j < 40 := by omega
          have hj40i : (j : Int) < 40 := by omega
          clear hy
          go_wp2_with fail
          refine (N9.out _).mono ?_
          rintro e w6 ⟨rfl, rfl⟩
          go_wp2_with fail
          have hA21 : IntKind.i64.wrap (A + 21) = A + 21 := by rw [IntKind.wrap_i64]; omega
          have hW1 : IntKind.i64.wrap (2 * (j : Int)) = 2 * (j : Int) := by rw [IntKind.wrap_i64]; omega
          have hW2 : IntKind.i64.wrap (A + 21 + 2 * (j : Int)) = A + 21 + 2 * (j : Int) := by rw [IntKind.wrap_i64]; omega
          have dV : ∀ o1, (w2.alloc o1).cell? ⟨wr.heap.size, 9, none⟩ = some va := fun o1 => by rw [World.cell?_alloc_lt _ _ _ (by show wr.heap.size < w2.heap.size; omega)]; exact c9
          have dF : ∀ o1, (w2.alloc o1).frozen? ⟨wr.heap.size, 9, none⟩ = false := fun o1 => by rw [World.frozen?_alloc_old _ _ _ (by show wr.heap.size ≠ w2.heap.size; omega)]; exact f9
          go_region_law
            ((first
              | (go_simp; refine (NY.out _).mono ?_; rintro e w6 ⟨rfl, rfl⟩; dsimp only)
              | (refine step_append_lies _ (by rfl) _ _ _ (by rfl) (wr.heap.size + 1) 3 j0 _ 1 8 Try.underlying36 hj0 hy0 hy1 hy2 rfl (by decide) va j (icells (segsAt s.data.toList (10 + 101 * i + 21) j)) (by rfl) (ownsRow_on HO2.out (by first | exact ((Below.refl _ _).alloc (Nat.le_refl _) _).drew | exact ((Below.refl _ _).drew).alloc (Nat.le_refl _) _ | exact (Below.refl _ _).alloc (Nat.le_refl _) _)) ⟨w2.heap.size, 0, none⟩ 1 1 [.int .i64 y] (by rfl) (by rfl) (World.news_of_block (cs := #[.int .i64 y]) (t := 3) (fr := (0, 0)) (heap_alloc_new _ _)) (by simp [Value.oneCell']) (by decide) (by unfold maxLen; omega) (by omega) (by simp; omega) (w2.heap.size + 1) (by simp) ?_; intro g cap7 w7 hown7 hgrow7 hat7 hlt7; have aV : w7.cell? ⟨wr.heap.size, 9, none⟩ = some va := (by rw [hgrow7.cell_far _ (by simp; omega) (Ne.symm hown)]; simp [*]); have bV : w7.frozen? ⟨wr.heap.size, 9, none⟩ = false := (by rw [hgrow7.frozen_far _ (by simp; omega) (Ne.symm hown)]; simp [*]))))
          all_goals
            have hB7 : w7.heap[wr.heap.size]? = some (.cells (houseCells x va) 42 (0, 0)) := by
              rw [hgrow7.block _ (by simp; omega) (Ne.symm hown)]
              show (World.alloc _ _).heap[wr.heap.size]? = _
              rw [Below.heap_alloc _ _ _ hhl2]
              exact HH2.out
            have HW7 : Hid (Below wr.heap.size wr w7) := by
              refine Below.grown ?_ hgrow7 (by simp; omega) (fun q hq => by have := (HO2.out.lt q hq).1; omega)
              first
                | exact (HB2.out.drew).alloc (by show wr.heap.size ≤ w2.heap.size; omega) _
                | exact (HB2.out.alloc (by omega) _).drew
            have HW8 : Hid (Below wr.heap.size wr (w7.setCell ⟨wr.heap.size, 9, none⟩ (.slice (some ⟨g, 0, none⟩) (j + 1) cap7))) := HW7.out.setCell (Nat.le_refl _) _
            have HH8 : Hid ((w7.setCell ⟨wr.heap.size, 9, none⟩ (.slice (some ⟨g, 0, none⟩) (j + 1) cap7)).heap[wr.heap.size]? = some (.cells (houseCells x (.slice (some ⟨g, 0, none⟩) (j + 1) cap7)) 42 (0, 0))) := heap_setCell_same w7 wr.heap.size 9 _ _ _ hB7
            have HO8 : Hid ((w7.setCell ⟨wr.heap.size, 9, none⟩ (.slice (some ⟨g, 0, none⟩) (j + 1) cap7)).ownsRow (wr.heap.size + 1) 3 1 (.slice (some ⟨g, 0, none⟩) (j + 1) cap7) (j + 1) (icells (segsAt s.data.toList (10 + 101 * i + 21) (j + 1)))) := by
              have := ownsRow_setCell_below hown7 (a := ⟨wr.heap.size, 9, none⟩) (by show wr.heap.size < wr.heap.size + 1; omega) (.slice (some ⟨g, 0, none⟩) (j + 1) cap7)
              show World.ownsRow _ _ _ _ _ _ _
              rw [HSG.out]
              exact this
            clear hown7 hgrow7 hat7 hB7 HW7 HB2 HH2 HO2 c9 f9 HSG dV dF hW1 hW2 hA21
            go_wp2_with fail
            exact ⟨⟨j + 1, _, by omega, by go_num, HH8, HO8, HW8⟩, by simp [intOf]; omega⟩
        · have hjm2 : j = m := by omega
          subst hjm2
          have HIV : Hid (Ints w2 va x.segs ∧ IntRow w2 va) := by
            have e : x.segs.length = j := by rw [HXS.out]; simp [segsAt]
            have h2 := HO2.out
            rw [← HXS.out, ← e] at h2
            rcases h2.2 with ⟨rfl, h0⟩ | ⟨g, cap, cur, rfl, hbg, hg, hle, hmx, hcs, htk⟩
            · exact ⟨⟨none, 0, by rw [h0], fun _ => rfl, fun h => by omega⟩, fun g hg => by simp [Value.ownBlock] at hg⟩
            · refine ⟨⟨some ⟨g, 0, none⟩, cap, rfl, (fun h => by cases h), fun _ => ⟨g, 0, rfl, (Array.getElem?_eq_some_iff.1 hg).1, fun q hq => ?_⟩⟩, fun g2 hg2 => by simp only [Value.ownBlock, Option.some.injEq] at hg2; subst hg2; exact ⟨cur, hg⟩⟩
              rw [cell_of_row w2 g _ cur 3 _ hg, Nat.zero_add, ← icells_get x.segs q hq, ← htk, Nat.mul_one, List.getElem?_take_of_lt hq, Array.getElem?_toList]
          have hex : ∃ sa sc, va = .slice sa x.segs.length sc := by
            obtain ⟨⟨sa, sc, e, _, _⟩, _⟩ := HIV.out
            exact ⟨sa, sc, e⟩
          obtain ⟨sa, sc, rfl⟩ := hex
          have r0 : w2.cell? ⟨wr.heap.size, 0, none⟩ = some (.int .i64 x.st) := by rw [cell_of_row w2 _ _ _ _ _ HH2.out]; rfl
          have r1 : w2.cell? ⟨wr.heap.size, 1, none⟩ = some (.int .i64 x.gen) := by rw [cell_of_row w2 _ _ _ _ _ HH2.out]; rfl
          have r2 : w2.cell? ⟨wr.heap.size, 2, none⟩ = some (.int .i64 x.lim.s) := by rw [cell_of_row w2 _ _ _ _ _ HH2.out]; rfl
          have r3 : w2.cell? ⟨wr.heap.size, 3, none⟩ = some (.int .i64 x.lim.hb) := by rw [cell_of_row w2 _ _ _ _ _ HH2.out]; rfl
          have r4 : w2.cell? ⟨wr.heap.size, 4, none⟩ = some (.int .i64 x.lim.sb) := by rw [cell_of_row w2 _ _ _ _ _ HH2.out]; rfl
          have r5 : w2.cell? ⟨wr.heap.size, 5, none⟩ = some (.int .i64 x.lim.hn) := by rw [cell_of_row w2 _ _ _ _ _ HH2.out]; rfl
          have r6 : w2.cell? ⟨wr.heap.size, 6, none⟩ = some (.int .i64 x.lim.sn) := by rw [cell_of_row w2 _ _ _ _ _ HH2.out]; rfl
          have r7 : w2.cell? ⟨wr.heap.size, 7, none⟩ = some (.int .i64 x.lim.gr) := by rw [cell_of_row w2 _ _ _ _ _ HH2.out]; rfl
          have r8 : w2.cell? ⟨wr.heap.size, 8, none⟩ = some (.int .i64 x.lim.bu) := by rw [cell_of_row w2 _ _ _ _ _ HH2.out]; rfl
          clear NJ hown
          have hLq : L.length ≤ 16 := by omega
          by_cases hjM : (j : Int) < M
          · have hj40 : ¬ (j : Int) < 40 := by omega
            have hj40n : j = 40 := by omega
            go_wp2_with fail
            refine (N9.out _).mono ?_
            rintro e w6 ⟨rfl, rfl⟩
            go_wp2_with (first | (refine wpList_append_lies _ rfl _ _ 22 rfl w.heap.size 42 i0 _ 10 96 Try.underlying22 hi0 hz0 hz1 hz2 rfl (by decide) _ L.length (hcells L) rfl ?_ ⟨w2.heap.size, 0, none⟩ 1 1 (houseCells x (.slice sa x.segs.length sc)).toList rfl rfl ?_ ?_ (by decide) (by unfold maxLen; omega) (by omega) ?_ (w2.heap.size + 1) (by simp) ?_) | fail)
            · first | exact ownsRow_on HO.out (HB2.out.alloc (by omega) _) | exact ownsRow_on (hLl ▸ HO.out) (HB2.out.alloc (by omega) _)
            · first
              | (exact World.news_of_block (cs := houseCells x (.slice sa x.segs.length sc)) (heap_alloc_new _ _))
              | (intro j u hj; simpa [houseCells] using hj)
            · first
              | (intro u hu; (simp only [houseCells, List.mem_cons, List.not_mem_nil, or_false] at hu); rcases hu with rfl | rfl | rfl | rfl | rfl | rfl | rfl | rfl | rfl | rfl <;> rfl)
            · first | (simp; omega) | omega
            intro g cap7 w7 hown7 hgrow7 hat7 hlt7
            have hrow : ∀ (g : Nat) (c : Array Value), w2.heap[g]? = some (.cells c 3 (0, 0)) → u5.ownBlock ≠ some g := by
              intro g c hg h
              rcases HO.out.2 with ⟨rfl, _⟩ | ⟨g2, cap2, cur2, rfl, _, hg2, _⟩
              · simp [Value.ownBlock] at h
              · simp only [Value.ownBlock, Option.some.injEq] at h
                subst h
                rw [HB2.out.block _ (Array.getElem?_eq_some_iff.1 hg2).1, hg2] at hg
                cases hg
            have K : ∀ (g : Nat) (c : Array Value), w2.heap[g]? = some (.cells c 3 (0, 0)) → w7.heap[g]? = some (.cells c 3 (0, 0)) := by
              intro g c hg
              have hlt : g < w2.heap.size := (Array.getElem?_eq_some_iff.1 hg).1
              rw [hgrow7.block g (by simp; omega) (Ne.symm (hrow g c hg)), Below.heap_alloc _ _ _ hlt]
              exact hg
            have hs7 : w2.heap.size ≤ w7.heap.size := by
              have := hgrow7.size
              simp at this
              omega
            have HI7 : Hid (∀ q ∈ L ++ [(x, Value.slice sa x.segs.length sc)], Ints w7 q.2 q.1.segs ∧ IntRow w7 q.2) := by
              intro q hq
              rcases List.mem_append.1 hq with hq | hq
              · have h := HI.out q hq
                exact ints_far h.1 h.2 (fun g c hg => K g c (by rw [HB2.out.block _ (Array.getElem?_eq_some_iff.1 hg).1]; exact hg)) (by omega)
              · rw [List.mem_singleton.1 hq]
                exact ints_far HIV.out.1 HIV.out.2 K hs7
            have HO7 : Hid (w7.ownsRow w.heap.size 42 10 (.slice (some ⟨g, 0, none⟩) (i + 1) cap7) (L ++ [(x, Value.slice sa x.segs.length sc)]).length (hcells (L ++ [(x, Value.slice sa x.segs.length sc)]))) := by
              show World.ownsRow _ _ _ _ _ _ _
              rw [hcells_append, hcells_one, List.length_append, hLl]
              exact hown7
            have HL7 : Hid ((L ++ [(x, Value.slice sa x.segs.length sc)]).map (·.1) = housesAt s.data.toList (i + 1)) := by
              show _ = _
              rw [List.map_append, HL.out, HSN.out]
              rfl
            have HW7 : Hid (Below w.heap.size w w7) := by
              have h1 : Below w.heap.size w w2 := HW.out.trans (HB2.out.mono hws)
              exact (h1.alloc h1.size _).grown hgrow7 (by simp; have := h1.size; omega) (fun q hq => (HO.out.lt q hq).1)
            have HA7 : Hid (A + 21 + 80 = ((10 + 101 * (i + 1) : Nat) : Int)) := by
              show _ = _
              rw [HA.out]
              omega
            clear hown7 hgrow7 hat7 hrow K HO HI HL HW HB2 HH2 HO2 HIV r0 r1 r2 r3 r4 r5 r6 r7 r8 c9 f9 N9
            go_wp2_with fail
            exact ⟨⟨i + 1, A + 21 + 80, L ++ [(x, Value.slice sa x.segs.length sc)], by omega, by simp [hLl], by go_num, rfl, by omega, by omega, HA7, HL7, HI7, HO7, HW7⟩, by simp [intOf]; omega⟩
          · go_wp2_with fail
            refine (N9.out _).mono ?_
            rintro e w6 ⟨rfl, rfl⟩
            go_wp2_with (first | (refine wpList_append_lies _ rfl _ _ 22 rfl w.heap.size 42 i0 _ 10 96 Try.underlying22 hi0 hz0 hz1 hz2 rfl (by decide) _ L.length (hcells L) rfl ?_ ⟨w2.heap.size, 0, none⟩ 1 1 (houseCells x (.slice sa x.segs.length sc)).toList rfl rfl ?_ ?_ (by decide) (by unfold maxLen; omega) (by omega) ?_ (w2.heap.size + 1) (by simp) ?_) | fail)
            · first | exact ownsRow_on HO.out (HB2.out.alloc (by omega) _) | exact ownsRow_on (hLl ▸ HO.out) (HB2.out.alloc (by omega) _)
            · first
              | (exact World.news_of_block (cs := houseCells x (.slice sa x.segs.length sc)) (heap_alloc_new _ _))
              | (intro j u hj; simpa [houseCells] using hj)
            · first
              | (simp [houseCells, Value.oneCell']; done)
              | (intro u hu; (simp [houseCells] at hu); rcases hu with rfl | rfl | rfl | rfl | rfl | rfl | rfl | rfl | rfl | rfl <;> rfl)
            · first | (simp; omega) | omega
            intro g cap7 w7 hown7 hgrow7 hat7 hlt7
            have hrow : ∀ (g : Nat) (c : Array Value), w2.heap[g]? = some (.cells c 3 (0, 0)) → u5.ownBlock ≠ some g := by
              intro g c hg h
              rcases HO.out.2 with ⟨rfl, _⟩ | ⟨g2, cap2, cur2, rfl, _, hg2, _⟩
              · simp [Value.ownBlock] at h
              · simp only [Value.ownBlock, Option.some.injEq] at h
                subst h
                rw [HB2.out.block _ (Array.getElem?_eq_some_iff.1 hg2).1, hg2] at hg
                cases hg
            have K : ∀ (g : Nat) (c : Array Value), w2.heap[g]? = some (.cells c 3 (0, 0)) → w7.heap[g]? = some (.cells c 3 (0, 0)) := by
              intro g c hg
              have hlt : g < w2.heap.size := (Array.getElem?_eq_some_iff.1 hg).1
              rw [hgrow7.block g (by simp; omega) (Ne.symm (hrow g c hg)), Below.heap_alloc _ _ _ hlt]
              exact hg
            have hs7 : w2.heap.size ≤ w7.heap.size := by
              have := hgrow7.size
              simp at this
              omega
            have HI7 : Hid (∀ q ∈ L ++ [(x, Value.slice sa x.segs.length sc)], Ints w7 q.2 q.1.segs ∧ IntRow w7 q.2) := by
              intro q hq
              rcases List.mem_append.1 hq with hq | hq
              · have h := HI.out q hq
                exact ints_far h.1 h.2 (fun g c hg => K g c (by rw [HB2.out.block _ (Array.getElem?_eq_some_iff.1 hg).1]; exact hg)) (by omega)
              · rw [List.mem_singleton.1 hq]
                exact ints_far HIV.out.1 HIV.out.2 K hs7
            have HO7 : Hid (w7.ownsRow w.heap.size 42 10 (.slice (some ⟨g, 0, none⟩) (i + 1) cap7) (L ++ [(x, Value.slice sa x.segs.length sc)]).length (hcells (L ++ [(x, Value.slice sa x.segs.length sc)]))) := by
              show World.ownsRow _ _ _ _ _ _ _
              rw [hcells_append, hcells_one, List.length_append, hLl]
              exact hown7
            have HL7 : Hid ((L ++ [(x, Value.slice sa x.segs.length sc)]).map (·.1) = housesAt s.data.toList (i + 1)) := by
              show _ = _
              rw [List.map_append, HL.out, HSN.out]
              rfl
            have HW7 : Hid (Below w.heap.size w w7) := by
              have h1 : Below w.heap.size w w2 := HW.out.trans (HB2.out.mono hws)
              exact (h1.alloc h1.size _).grown hgrow7 (by simp; have := h1.size; omega) (fun q hq => (HO.out.lt q hq).1)
            have HA7 : Hid (A + 21 + 80 = ((10 + 101 * (i + 1) : Nat) : Int)) := by
              show _ = _
              rw [HA.out]
              omega
            clear hown7 hgrow7 hat7 hrow K HO HI HL HW HB2 HH2 HO2 HIV r0 r1 r2 r3 r4 r5 r6 r7 r8 c9 f9 N9
            go_wp2_with fail
            exact ⟨⟨i + 1, A + 21 + 80, L ++ [(x, Value.slice sa x.segs.length sc)], by omega, by simp [hLl], by go_num, rfl, by omega, by omega, HA7, HL7, HI7, HO7, HW7⟩, by simp [intOf]; omega⟩
    · have hi16 : i = 16 := by omega
      have HHS : Hid (Houses wr u5 (getL s.data.toList)) := by
        have := houses_of_owns HO.out (fun p hp => (HI.out p hp).1)
        rw [HL.out, hi16] at this
        exact this
      obtain ⟨PS, hPS⟩ : ∃ PS, PS = putS N (getL s.data.toList) := ⟨_, rfl⟩
      obtain ⟨PB, hPB⟩ : ∃ PB, PB = putB N (getL s.data.toList) := ⟨_, rfl⟩
      have CALL := tabhid (HPUT.out N (getL s.data.toList) u5 wr HHS.out (fun x hx => getL_segs hx))
      rw [← hPS, ← hPB] at CALL
      have GB : Hid (getB s = (PB && decide (PS = s))) := by
        show _ = _
        unfold getB
        rw [← HGN.out, ← hPS, ← hPB, decide_eq_true HSZ.out, Bool.true_and]
      clear hPS hPB HL HI HO hi16
      go_wp2_with fail
      refine (NUM.out _).mono ?_
      rintro e w6 ⟨rfl, rfl⟩
      go_wp2_with fail
      refine CALL.out.mono ?_
      rintro e w2 ⟨rfl, hb2⟩
      have HW2 : Hid (Below w.heap.size w w2) := HW.out.trans (hb2.mono HW.out.size)
      have HH2 := tabhid (HHS.out.on hb2)
      clear hb2 CALL HHS HW
      cases PB
      · have G0 : Hid (getB s = false) := by rw [GB.out]; rfl
        go_wp2_with fail
        refine bodyPost_ret (v := .tuple #[.int .i64 0, .slice none 0 0, .bool false]) (by simp [results, Try.results14, go_sem]) rfl ⟨⟨.slice none 0 0, by rw [G0.out]; rfl, ?_⟩, HW2.out⟩
        rw [G0.out]
        exact ⟨none, 0, rfl, fun h => absurd h (by simp)⟩
      · by_cases he : PS = s
        · have G1 : Hid (getB s = true) := by rw [GB.out, decide_eq_true he]; rfl
          have hq : (PS.toList == s.toList) = true := by rw [he]; simp
          have hq2 : (PS.toList != s.toList) = false := by rw [bne, hq]; rfl
          clear GB he
          go_wp2_with fail
          refine (NUM.out _).mono ?_
          rintro e w6 ⟨rfl, rfl⟩
          go_wp2_with fail
          refine bodyPost_ret (v := .tuple #[.int .i64 N, u5, .bool true]) (by simp [results, Try.results14, go_sem]) rfl ⟨⟨u5, by rw [G1.out, HGN.out]; rfl, ?_⟩, HW2.out⟩
          rw [G1.out]
          exact HH2.out
        · have G0 : Hid (getB s = false) := by rw [GB.out, decide_eq_false he]; rfl
          have hq : (PS.toList == s.toList) = false := by
            rw [beq_eq_false_iff_ne]
            intro h
            apply he
            rw [ByteArray.toList_eq, ByteArray.toList_eq] at h
            exact ByteArray.ext (Array.toList_inj.1 h)
          have hq2 : (PS.toList != s.toList) = true := by rw [bne, hq]; rfl
          clear GB he
          go_wp2_with fail
          refine bodyPost_ret (v := .tuple #[.int .i64 0, .slice none 0 0, .bool false]) (by simp [results, Try.results14, go_sem]) rfl ⟨⟨.slice none 0 0, by rw [G0.out]; rfl, ?_⟩, HW2.out⟩
          rw [G0.out]
          exact ⟨none, 0, rfl, fun h => absurd h (by simp)⟩

set_option maxHeartbeats 2000000 in
theorem refGet_short (s : ByteArray) (w : World) (h : s.size ≠ 2048) :
    Calls Try.prog 14 #[.string s] w fun e w' => Got s e w' ∧ w = w' := by
  have hb : ((s.size : Int) == 2048) = false := by rw [beq_eq_false_iff_ne]; omega
  have hb2 : ((s.size : Int) != 2048) = true := by rw [bne, hb]; rfl
  have HG := tabhid (get_long h)
  clear h
  go_enter Try.func14, Try.ntmps14
  go_wp2_with fail
  refine bodyPost_ret (v := .tuple #[.int .i64 0, .slice none 0 0, .bool false]) (by simp [results, Try.results14, go_sem]) rfl ⟨⟨.slice none 0 0, by rw [HG.out]; rfl, ?_⟩, rfl⟩
  rw [HG.out]
  exact ⟨none, 0, rfl, fun h => absurd h (by simp)⟩
end Go.Proofs.Ytdhdjnpgebddmaa
