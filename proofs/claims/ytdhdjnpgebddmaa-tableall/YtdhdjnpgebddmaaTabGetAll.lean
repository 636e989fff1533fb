/- The houses of bytes: Get walked; and the laws' own awake. -/
import Derived.Test.YtdhdjnpgebddmaaTabPutAll
import Derived.Test.YtdhdjnpgebddmaaTabGet
namespace Go.Proofs.Ytdhdjnpgebddmaa
open Go.RowKit Tab

theorem Try.tabInfoH : (Try.prog.info? 42).map (fun i => (i.zero, i.size, i.bytes)) = some (some (houseV Ho.z (.slice none 0 0)), 10, 96) := by kernel_rfl

theorem houses_of_owns {w : World} {base : Nat} {v : Value} {l : List (Ho × Value)} (h : w.ownsRow base 42 10 v l.length (hcells l)) (hI : ∀ p ∈ l, Ints w p.2 p.1.segs) : Houses w v (l.map (·.1)) := by
  rcases h.2 with ⟨rfl, h0⟩ | ⟨g, cap, cur, rfl, hbg, hg, hle, hmx, hcs, htk⟩
  · exact ⟨none, 0, by simp [h0], fun h => by simp at h; omega⟩
  · refine houses_of (off := 0) (Array.getElem?_eq_some_iff.1 hg).1 (fun j u hu => ?_) hI
    have hj : j < l.length * 10 := by
      have := (List.getElem?_eq_some_iff.1 hu).1
      rw [hcells_length] at this
      exact this
    rw [cell_of_row w g _ cur _ _ hg, Nat.zero_add, ← hu, ← htk, List.getElem?_take_of_lt hj, Array.getElem?_toList]

theorem hcells_one_cell {l : List (Ho × Value)} (h : ∀ p ∈ l, p.2.oneCell' = true) : ∀ u ∈ hcells l, u.oneCell' = true := by
  intro u hu
  obtain ⟨p, hp, hm⟩ := List.mem_flatMap.1 hu
  simp only [houseCells, List.mem_cons, List.not_mem_nil, or_false] at hm
  rcases hm with rfl | rfl | rfl | rfl | rfl | rfl | rfl | rfl | rfl | rfl
  all_goals first | rfl | exact h p hp

theorem Ints.one {w : World} {v : Value} {l : List Int} (h : Ints w v l) : v.oneCell' = true := by
  obtain ⟨ad, cap, rfl, _⟩ := h
  rfl

/-- Numbers in rows of numbers stay where such rows stay. -/
theorem ints_far {w w' : World} {v : Value} {l : List Int} (hI : Ints w v l) (hR : IntRow w v) (k : ∀ (g : Nat) (c : Array Value), w.heap[g]? = some (.cells c 3 (0, 0)) → w'.heap[g]? = some (.cells c 3 (0, 0))) (hs : w.heap.size ≤ w'.heap.size) : Ints w' v l ∧ IntRow w' v := by
  obtain ⟨ad, cap, rfl, hn, hc⟩ := hI
  refine ⟨⟨ad, cap, rfl, hn, fun hl => ?_⟩, fun g hg => ?_⟩
  · obtain ⟨b, off, rfl, hb, hi⟩ := hc hl
    obtain ⟨c, hcb⟩ := hR b rfl
    refine ⟨b, off, rfl, Nat.lt_of_lt_of_le hb hs, fun i h => ?_⟩
    have e : w'.cell? ⟨b, off + i, none⟩ = w.cell? ⟨b, off + i, none⟩ := World.cell?_of_block (by show w'.heap[b]? = w.heap[b]?; rw [k b c hcb, hcb])
    rw [e]
    exact hi i h
  · obtain ⟨c, hcb⟩ := hR g hg
    exact ⟨c, k g c hcb⟩

theorem alloc_at {w : World} {o : Obj} {n : Nat} (h : w.heap.size = n) : (w.alloc o).heap[n]? = some o := by
  subst h
  exact heap_alloc_new _ _

theorem housesAt_snoc (s : List UInt8) (k : Nat) : housesAt s (k + 1) = housesAt s k ++ [houseAt s (10 + 101 * k)] := by
  simp [housesAt, List.range_succ]

theorem segsAt_length (s : List UInt8) (a k : Nat) : (segsAt s a k).length = k := by simp [segsAt]
theorem getL_segs {s : List UInt8} {x : Ho} (hx : x ∈ getL s) : x.segs.length ≤ 40 := by
  simp only [getL, housesAt, List.mem_map, List.mem_range] at hx
  obtain ⟨i, _, rfl⟩ := hx
  show (segsAt s (10 + 101 * i + 21) (min (numAt s (10 + 101 * i + 20) 1).toNat 40)).length ≤ 40
  rw [segsAt_length]
  exact Nat.min_le_right _ _

/-- What Get answers: the houses, or none. -/
def Got (s : ByteArray) (e : Ending) (w' : World) : Prop :=
  ∃ v, e = .returned (.tuple #[.int .i64 (if getB s then getN s.data.toList else 0), v, .bool (getB s)]) ∧ Houses w' v (if getB s then getL s.data.toList else [])

set_option maxHeartbeats 2000000 in
theorem tget_short (s : ByteArray) (w : World) (h : s.size ≠ 2048) :
    Calls Try.prog 13 #[.string s] w fun e w' => Got s e w' ∧ w = w' := by
  have hb : ((s.size : Int) == 2048) = false := by rw [beq_eq_false_iff_ne]; omega
  have hb2 : ((s.size : Int) != 2048) = true := by rw [bne, hb]; rfl
  have HG := tabhid (get_long h)
  clear h
  go_enter Try.func13, Try.ntmps13
  go_wp2_with fail
  refine bodyPost_ret (v := .tuple #[.int .i64 0, .slice none 0 0, .bool false]) (by simp [results, Try.results13, go_sem]) rfl ⟨⟨.slice none 0 0, by rw [HG.out]; rfl, ?_⟩, rfl⟩
  rw [HG.out]
  exact ⟨none, 0, rfl, fun h => absurd h (by simp)⟩

set_option maxRecDepth 10000 in
set_option maxHeartbeats 4000000 in
theorem tget_full (s : ByteArray) (w : World) (hs : s.size = 2048) :
    Calls Try.prog 13 #[.string s] w fun e w' => Got s e w' ∧ Below w.heap.size w w' := by
  obtain ⟨i0, hi0, hz0, hz1, hz2⟩ := info_parts Try.tabInfoH
  obtain ⟨N, hN⟩ : ∃ N, N = getN s.data.toList := ⟨_, rfl⟩
  have NUM : Hid (Calls Try.prog 33 #[.string s, .int .i64 4, .int .i64 6] w fun e w' => e = .returned (.tuple #[.int .i64 N, .int .i64 10]) ∧ w = w') := by
    have := getNumber_t s 4 6 w (by decide) (by decide) (by decide) (by omega) (by omega)
    rw [hN]
    exact this
  have hs2 : (s.size : Int) = 2048 := by omega
  have HOU := tabhid (fun (k : Nat) (w1 : World) (hk : k < 16) => getHouse_t s (10 + 101 * k) w1 (by omega) (by omega))
  have hNb := numAt_lt s.data.toList 4 6
  have HGN := tabhid hN
  clear hN
  go_enter Try.func13, Try.ntmps13
  go_wp2_with fail
  refine NUM.out.mono ?_
  rintro e w1 ⟨rfl, rfl⟩
  clear NUM
  go_wp2_with fail
  go_loopw [3, 5, 17] (fun la p c wr => ∃ (i : Nat) (L : List (Ho × Value)), i ≤ 16 ∧ L.length = i ∧ c = .int .i64 i ∧ p = .int .i64 ((10 + 101 * i : Nat) : Int) ∧ Hid (L.map (·.1) = housesAt s.data.toList i) ∧ Hid (∀ q ∈ L, Ints wr q.2 q.1.segs ∧ IntRow wr q.2) ∧ Hid (wr.ownsRow w.heap.size 42 10 la L.length (hcells L)) ∧ Hid (Below w.heap.size w wr)) (fun _ _ c _ => 16 - (intOf c).toNat)
  case atStart => exact ⟨0, [], by omega, rfl, rfl, rfl, rfl, (fun q hq => by cases hq), ⟨rfl, .inl ⟨rfl, rfl⟩⟩, Below.refl _ _⟩
  case round =>
    obtain ⟨i, L, hi, hLl, rfl, rfl, HL, HI, HO, HW⟩ := hrel
    by_cases hlt : i < 16
    · have CALL := tabhid (HOU.out i (wr.alloc (.cells (houseCells Ho.z (.slice none 0 0)) 42)) hlt)
      have HSN := tabhid (housesAt_snoc s.data.toList i)
      have hadd : Hid (((10 + 101 * i : Nat) : Int) + 101 = ((10 + 101 * (i + 1) : Nat) : Int)) := by show _ = _; omega
      obtain ⟨y, hy⟩ : ∃ y, y = houseAt s.data.toList (10 + 101 * i) := ⟨_, rfl⟩
      rw [← hy] at CALL HSN
      have hs3 := tabhid hs
      clear hy HOU hs hs2
      generalize ((10 + 101 * i : Nat) : Int) = P at *
      go_wp2_with fail
      refine CALL.out.mono ?_
      rintro e w1 ⟨v, rfl, hIv, hRv, hb1⟩
      have HIv := tabhid hIv
      have HRv := tabhid hRv
      obtain ⟨sa, sc, rfl, _, _⟩ := hIv
      have BW : Hid (Below wr.heap.size wr w1) := ((Below.refl _ _).alloc (Nat.le_refl _) _).trans (hb1.mono (by simp))
      have hbs : wr.heap.size < w1.heap.size := by have := hb1.size; simp at this; omega
      have HZ : Hid (w1.heap[wr.heap.size]? = some (.cells (houseCells Ho.z (.slice none 0 0)) 42 (0, 0))) := by
        show _ = _
        rw [hb1.block _ (by simp)]
        exact heap_alloc_new _ _
      have r0 : w1.cell? ⟨wr.heap.size, 0, none⟩ = some (.int .i64 0) := by rw [cell_of_row w1 _ _ _ _ _ HZ.out]; rfl
      have r1 : w1.cell? ⟨wr.heap.size, 1, none⟩ = some (.int .i64 0) := by rw [cell_of_row w1 _ _ _ _ _ HZ.out]; rfl
      have r2 : w1.cell? ⟨wr.heap.size, 2, none⟩ = some (.int .i64 0) := by rw [cell_of_row w1 _ _ _ _ _ HZ.out]; rfl
      have r3 : w1.cell? ⟨wr.heap.size, 3, none⟩ = some (.int .i64 0) := by rw [cell_of_row w1 _ _ _ _ _ HZ.out]; rfl
      have r4 : w1.cell? ⟨wr.heap.size, 4, none⟩ = some (.int .i64 0) := by rw [cell_of_row w1 _ _ _ _ _ HZ.out]; rfl
      have r5 : w1.cell? ⟨wr.heap.size, 5, none⟩ = some (.int .i64 0) := by rw [cell_of_row w1 _ _ _ _ _ HZ.out]; rfl
      have r6 : w1.cell? ⟨wr.heap.size, 6, none⟩ = some (.int .i64 0) := by rw [cell_of_row w1 _ _ _ _ _ HZ.out]; rfl
      have r7 : w1.cell? ⟨wr.heap.size, 7, none⟩ = some (.int .i64 0) := by rw [cell_of_row w1 _ _ _ _ _ HZ.out]; rfl
      have r8 : w1.cell? ⟨wr.heap.size, 8, none⟩ = some (.int .i64 0) := by rw [cell_of_row w1 _ _ _ _ _ HZ.out]; rfl
      have r9 : w1.cell? ⟨wr.heap.size, 9, none⟩ = some (.slice none 0 0) := by rw [cell_of_row w1 _ _ _ _ _ HZ.out]; rfl
      have fz : ∀ j, w1.frozen? ⟨wr.heap.size, j, none⟩ = false := fun j => frozen_of_row w1 _ _ _ _ HZ.out
      have hws := HW.out.size
      clear CALL hb1 hRv
      go_wp2_with (first | (refine wpList_append_lies _ rfl _ _ 22 rfl w.heap.size 42 i0 _ 10 96 Try.underlying22 hi0 hz0 hz1 hz2 rfl (by decide) _ L.length (hcells L) rfl ?_ ⟨w1.heap.size, 0, none⟩ 1 1 (houseCells y (.slice sa y.segs.length sc)).toList rfl rfl ?_ ?_ (by decide) (by unfold maxLen; omega) (by omega) ?_ (w1.heap.size + 1) (by simp) ?_) | fail)
      · refine ownsRow_on HO.out (Below.alloc ?_ (by simp [World.setCell]; omega) _)
        iterate 10 refine Below.setCell ?_ (show wr.heap.size ≤ wr.heap.size from Nat.le_refl _) _
        exact BW.out
      · exact World.news_of_block (cs := houseCells y (.slice sa y.segs.length sc)) (alloc_at (by simp [World.setCell]))
      · intro u hu
        simp only [houseCells, List.mem_cons, List.not_mem_nil, or_false] at hu
        rcases hu with rfl | rfl | rfl | rfl | rfl | rfl | rfl | rfl | rfl | rfl <;> rfl
      · simp [World.setCell]
        omega
      intro g cap w7 hown7 hgrow7 hat7 hlt7
      have hrow : ∀ (g : Nat) (c : Array Value), w1.heap[g]? = some (.cells c 3 (0, 0)) → u3.ownBlock ≠ some g := by
        intro g c hg h
        rcases HO.out.2 with ⟨rfl, _⟩ | ⟨g2, cap2, cur2, rfl, _, hg2, _⟩
        · simp [Value.ownBlock] at h
        · simp only [Value.ownBlock, Option.some.injEq] at h
          subst h
          rw [BW.out.block _ (Array.getElem?_eq_some_iff.1 hg2).1, hg2] at hg
          cases hg
      have K : ∀ (g : Nat) (c : Array Value), w1.heap[g]? = some (.cells c 3 (0, 0)) → w7.heap[g]? = some (.cells c 3 (0, 0)) := by
        intro g c hg
        have hlt : g < w1.heap.size := (Array.getElem?_eq_some_iff.1 hg).1
        have hne : g ≠ wr.heap.size := by
          intro e
          rw [e, HZ.out] at hg
          cases hg
        rw [hgrow7.block g (by simp [World.setCell]; omega) (Ne.symm (hrow g c hg)), Below.heap_alloc _ _ _ (by simp [World.setCell]; omega)]
        repeat rw [Below.heap_setCell _ _ _ _ hne]
        exact hg
      have hs7 : w1.heap.size ≤ w7.heap.size := by
        have := hgrow7.size
        simp [World.setCell] at this
        omega
      have HI7 : Hid (∀ q ∈ L ++ [(y, Value.slice sa y.segs.length sc)], Ints w7 q.2 q.1.segs ∧ IntRow w7 q.2) := by
        intro q hq
        rcases List.mem_append.1 hq with hq | hq
        · have h := HI.out q hq
          exact ints_far h.1 h.2 (fun g c hg => K g c (by rw [BW.out.block _ (Array.getElem?_eq_some_iff.1 hg).1]; exact hg)) (by omega)
        · rw [List.mem_singleton.1 hq]
          exact ints_far HIv.out HRv.out K hs7
      have HO7 : Hid (w7.ownsRow w.heap.size 42 10 (.slice (some ⟨g, 0, none⟩) (i + 1) cap) (L ++ [(y, Value.slice sa y.segs.length sc)]).length (hcells (L ++ [(y, Value.slice sa y.segs.length sc)]))) := by
        show World.ownsRow _ _ _ _ _ _ _
        rw [hcells_append, hcells_one, List.length_append, hLl]
        exact hown7
      have HL7 : Hid ((L ++ [(y, Value.slice sa y.segs.length sc)]).map (·.1) = housesAt s.data.toList (i + 1)) := by
        show _ = _
        rw [List.map_append, HL.out, HSN.out]
        rfl
      have HW7 : Hid (Below w.heap.size w w7) := by
        have h1 : Below w.heap.size w w1 := HW.out.trans (BW.out.mono hws)
        refine Below.grown (Below.alloc ?_ (by simp [World.setCell]; omega) _) hgrow7 (by simp [World.setCell]; omega) (fun q hq => (HO.out.lt q hq).1)
        iterate 10 refine Below.setCell ?_ (show w.heap.size ≤ wr.heap.size from hws) _
        exact h1
      clear hown7 hgrow7 hat7 hrow K HO HI HL HW BW HZ r0 r1 r2 r3 r4 r5 r6 r7 r8 r9 fz
      go_wp2_with fail
      exact ⟨⟨i + 1, L ++ [(y, Value.slice sa y.segs.length sc)], by omega, by simp [hLl], by go_num, by rw [hadd.out], HL7, HI7, HO7, HW7⟩, by simp [intOf]; omega⟩
    · have hi16 : i = 16 := by omega
      have HHS : Hid (Houses wr u3 (getL s.data.toList)) := by
        have := houses_of_owns HO.out (fun p hp => (HI.out p hp).1)
        rw [HL.out, hi16] at this
        exact this
      obtain ⟨PS, hPS⟩ : ∃ PS, PS = putS N (getL s.data.toList) := ⟨_, rfl⟩
      obtain ⟨PB, hPB⟩ : ∃ PB, PB = putB N (getL s.data.toList) := ⟨_, rfl⟩
      have hlen : (getL s.data.toList).length = 16 := by simp [getL, housesAt]
      have CALL := tabhid (tput_t N (getL s.data.toList) u3 wr HHS.out (by omega) (fun x hx => by have := getL_segs hx; omega))
      rw [← hPS, ← hPB] at CALL
      have GB : Hid (getB s = (PB && decide (PS = s))) := by
        show _ = _
        unfold getB
        rw [← HGN.out, ← hPS, ← hPB, decide_eq_true hs, Bool.true_and]
      clear hPS hPB hlen HL HI HO HOU hi16 hs
      go_wp2_with fail
      refine CALL.out.mono ?_
      rintro e w2 ⟨rfl, hb2⟩
      have HW2 : Hid (Below w.heap.size w w2) := HW.out.trans (hb2.mono HW.out.size)
      have HH2 := tabhid (HHS.out.on hb2)
      clear hb2 CALL HHS HW
      cases PB
      · have G0 : Hid (getB s = false) := by rw [GB.out]; rfl
        go_wp2_with fail
        refine bodyPost_ret (v := .tuple #[.int .i64 0, .slice none 0 0, .bool false]) (by simp [results, Try.results13, go_sem]) rfl ⟨⟨.slice none 0 0, by rw [G0.out]; rfl, ?_⟩, HW2.out⟩
        rw [G0.out]
        exact ⟨none, 0, rfl, fun h => absurd h (by simp)⟩
      · by_cases he : PS = s
        · have G1 : Hid (getB s = true) := by rw [GB.out, decide_eq_true he]; rfl
          have hq : (PS.toList == s.toList) = true := by rw [he]; simp
          have hq2 : (PS.toList != s.toList) = false := by rw [bne, hq]; rfl
          clear GB he
          go_wp2_with fail
          refine bodyPost_ret (v := .tuple #[.int .i64 N, u3, .bool true]) (by simp [results, Try.results13, go_sem]) rfl ⟨⟨u3, by rw [G1.out, HGN.out]; rfl, ?_⟩, HW2.out⟩
          rw [G1.out]
          exact HH2.out
        · have G0 : Hid (getB s = false) := by rw [GB.out, decide_eq_false he]; rfl
          have hq : (PS.toList == s.toList) = false := by
            rw [beq_eq_false_iff_ne]
            intro h
            apply he
            rw [ByteArray.toList_eq, ByteArray.toList_eq] at h
            exact ByteArray.ext (Array.toList_inj.1 h)
          have hq2 : (PS.toList != s.toList) = true := by rw [bne, hq]; rfl
          clear GB he
          go_wp2_with fail
          refine bodyPost_ret (v := .tuple #[.int .i64 0, .slice none 0 0, .bool false]) (by simp [results, Try.results13, go_sem]) rfl ⟨⟨.slice none 0 0, by rw [G0.out]; rfl, ?_⟩, HW2.out⟩
          rw [G0.out]
          exact ⟨none, 0, rfl, fun h => absurd h (by simp)⟩

/-- The houses of bytes, or none. -/
theorem tget_t (s : ByteArray) (w : World) : Calls Try.prog 13 #[.string s] w fun e w' => Got s e w' ∧ Below w.heap.size w w' := by
  by_cases hs : s.size = 2048
  · exact tget_full s w hs
  · exact (tget_short s w hs).mono fun _ _ ⟨h1, h2⟩ => ⟨h1, h2 ▸ Below.refl _ _⟩
end Go.Proofs.Ytdhdjnpgebddmaa
