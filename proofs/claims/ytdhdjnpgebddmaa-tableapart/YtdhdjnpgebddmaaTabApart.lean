/- TableApart walked: tables that differ in one house's one number have unlike bytes. -/
import Derived.Test.YtdhdjnpgebddmaaTabAwake
import Derived.Test.YtdhdjnpgebddmaaTabLimit
namespace Go.Proofs.Ytdhdjnpgebddmaa
open Go.RowKit Tab

def apLim : Lm := ⟨9, 7, 7, 4, 2, 0, 0⟩
/-- The house that differs in one number, which hangs on the way. -/
def apHouse (m n : Int) : Ho := ⟨if m = 5 then 1 + n % 2 else 1, if m = 0 then 1 + n else 1, ⟨9, if m = 3 then 1000 + n else 7, 7, 4, 2, if m = 1 then n else 0, if m = 2 then n else 0⟩, [0, 2, 4, 6, 8, 10, 12, 14, if m = 4 then 500 + n else 16]⟩
def apL (m : Int) (k : Nat) (n : Int) : List Ho := zero16.set k (apHouse m n)
theorem zero16_length : zero16.length = 16 := rfl

theorem set_split (k : Nat) (hk : k < 16) (x : Ho) : zero16.set k x = List.replicate k Ho.z ++ x :: List.replicate (15 - k) Ho.z := by
  rw [List.set_eq_take_append_cons_drop, if_pos (by rw [zero16_length]; exact hk), zero16, List.take_replicate, List.drop_replicate]
  congr 2
  · omega
  · congr 1
    omega
theorem none_segs (n : Nat) : (List.replicate n Ho.z).flatMap Ho.segs = [] := by
  rw [List.flatMap_eq_nil_iff]
  intro x hx
  rw [List.eq_of_mem_replicate hx]
  rfl
theorem allSegs_one (k : Nat) (hk : k < 16) (x : Ho) : allSegs (zero16.set k x) = x.segs := by
  rw [set_split k hk]
  simp only [allSegs, List.flatMap_append, List.flatMap_cons, none_segs, List.nil_append, List.append_nil]
theorem check_lone (n : Int) (k : Nat) (hk : k < 16) (x : Ho) (hx : houseB n x = true) (hn : x.segs.Nodup) : checkB n (zero16.set k x) = true := by
  have h1 : (zero16.set k x).all (houseB n) = true := by
    rw [List.all_eq_true]
    intro y hy
    rcases List.mem_or_eq_of_mem_set hy with hy | rfl
    · rw [List.eq_of_mem_replicate hy]
      rfl
    · exact hx
  unfold checkB apartB
  rw [h1, allSegs_one k hk, decide_eq_true hn, List.length_set, zero16_length]
  rfl
theorem apHouse_may {m n : Int} (h0 : 0 ≤ n) (h1 : n < 16) : houseB 65536 (apHouse m n) = true := by
  have a1 : inB (apHouse m n).st 0 2 = true := by rw [inB_iff]; show 0 ≤ (if m = 5 then 1 + n % 2 else 1) ∧ (if m = 5 then 1 + n % 2 else 1) ≤ 2; split <;> omega
  have a2 : inB (apHouse m n).gen 0 65535 = true := by rw [inB_iff]; show 0 ≤ (if m = 0 then 1 + n else 1) ∧ (if m = 0 then 1 + n else 1) ≤ 65535; split <;> omega
  have a3 : ¬ (apHouse m n).st = 0 := by show ¬ (if m = 5 then 1 + n % 2 else 1) = 0; split <;> omega
  have a4 : 0 < (apHouse m n).gen := by show 0 < (if m = 0 then 1 + n else 1); split <;> omega
  have a5 : limB (apHouse m n).lim = true := by
    simp only [limB, apHouse, Bool.and_eq_true, inB_iff]
    refine ⟨⟨⟨⟨⟨⟨?_, ?_⟩, ?_⟩, ?_⟩, ?_⟩, ?_⟩, ?_⟩ <;> (try split) <;> omega
  have a6 : rises 65536 0 (apHouse m n).segs = true := by
    simp only [apHouse, rises, Bool.and_true, Bool.and_eq_true, decide_eq_true_eq]
    refine ⟨by omega, by omega, by omega, by omega, by omega, by omega, by omega, by omega, ?_⟩
    split <;> omega
  unfold houseB
  rw [a1, a2, if_neg a3, a5, a6, decide_eq_true a4]
  rfl
theorem apL_put {m n : Int} {k : Nat} (hk : k < 16) (h0 : 0 ≤ n) (h1 : n < 16) : putB 7 (apL m k n) = true := by
  have hm := apHouse_may (m := m) h0 h1
  have hr : rises 65536 0 (apHouse m n).segs = true := by
    simp only [apHouse, rises, Bool.and_true, Bool.and_eq_true, decide_eq_true_eq]
    refine ⟨by omega, by omega, by omega, by omega, by omega, by omega, by omega, by omega, ?_⟩
    split <;> omega
  unfold putB apL
  rw [check_lone 65536 k hk _ hm (rises_nodup _ _ _ hr)]
  rfl
theorem apL_get {m n : Int} {k : Nat} (hk : k < 16) : (apL m k n)[k]'(by simp [apL, zero16_length, hk]) = apHouse m n := by
  simp [apL]
theorem apL_inj {m n n' : Int} {k : Nat} (hk : k < 16) (h0 : 0 ≤ n) (h1 : n < 16) (h0' : 0 ≤ n') (h1' : n' < 16) (e : putS 7 (apL m k n) = putS 7 (apL m k n')) : apHouse m n = apHouse m n' := by
  have h := (putS_inj (apL_put hk h0 h1) (apL_put hk h0' h1') e).2
  rw [← apL_get (m := m) (n := n) hk, ← apL_get (m := m) (n := n') hk]
  congr 1
theorem ap_eq5 {n n' : Int} : apHouse 5 n = apHouse 5 n' ↔ n % 2 = n' % 2 := by
  simp only [apHouse, Ho.mk.injEq, Lm.mk.injEq]
  constructor
  · rintro ⟨h, _⟩
    simp only [↓reduceIte] at h
    omega
  · intro h
    simp [h]
theorem ap_eq {m n n' : Int} (h0 : 0 ≤ m) (h5 : m < 5) (e : apHouse m n = apHouse m n') : n = n' := by
  have hm : m = 0 ∨ m = 1 ∨ m = 2 ∨ m = 3 ∨ m = 4 := by omega
  simp only [apHouse, Ho.mk.injEq, Lm.mk.injEq, List.cons.injEq] at e
  rcases hm with rfl | rfl | rfl | rfl | rfl
  all_goals
    simp at e
    omega

/-- So many even numbers. -/
def evens (j : Nat) : List Int := (List.range j).map fun (i : Nat) => 2 * (i : Int)
theorem evens_length (j : Nat) : (evens j).length = j := by simp [evens]
theorem evens_succ (j : Nat) : evens (j + 1) = evens j ++ [2 * (j : Int)] := by simp [evens, List.range_succ]
/-- The row while the house's segments are being told. -/
def apRow (k j : Nat) (v : Value) : List (Ho × Value) := none16.set k (⟨1, 1, apLim, evens j⟩, v)
theorem apRow_length (k j : Nat) (v : Value) : (apRow k j v).length = 16 := by simp [apRow, none16_length]
theorem apRow_get (k j : Nat) (v : Value) (hk : k < (apRow k j v).length) : (apRow k j v)[k] = (⟨1, 1, apLim, evens j⟩, v) := by simp [apRow]
theorem apRow_set (k j : Nat) (v : Value) (q : Ho × Value) : (apRow k j v).set k q = none16.set k q := by simp [apRow, List.set_set]
theorem set_ints {w : World} {k : Nat} {q : Ho × Value} (hq : Ints w q.2 q.1.segs) : ∀ p ∈ none16.set k q, Ints w p.2 p.1.segs := by
  intro p hp
  rcases List.mem_or_eq_of_mem_set hp with hp | rfl
  · exact none16_ints w p hp
  · exact hq
theorem set_segs {k : Nat} {q : Ho × Value} (hq : q.1.segs.length ≤ 1000) : ∀ p ∈ none16.set k q, p.1.segs.length ≤ 1000 := by
  intro p hp
  rcases List.mem_or_eq_of_mem_set hp with hp | rfl
  · rw [List.eq_of_mem_replicate hp]
    decide
  · exact hq
theorem set_map (k : Nat) (q : Ho × Value) : (none16.set k q).map (·.1) = zero16.set k q.1 := by
  rw [List.map_set, none16_map]

/-- Numbers that a row of one's own holds. -/
theorem ints_of_owns {w : World} {base : Nat} {v : Value} {l : List Int} (h : w.ownsRow base 3 1 v l.length (icells l)) : Ints w v l := by
  rcases h.2 with ⟨rfl, h0⟩ | ⟨g, cap, cur, rfl, hbg, hg, hle, hmx, hcs, htk⟩
  · exact ⟨none, 0, by rw [h0], fun _ => rfl, fun h => by omega⟩
  · refine ⟨some ⟨g, 0, none⟩, cap, rfl, (fun h => by cases h), fun _ => ⟨g, 0, rfl, (Array.getElem?_eq_some_iff.1 hg).1, fun j hj => ?_⟩⟩
    rw [cell_of_row w g _ cur 3 _ hg, Nat.zero_add, ← icells_get l j hj, ← htk, Nat.mul_one, List.getElem?_take_of_lt hj, Array.getElem?_toList]
/-- Houses whose cells are alike make rows that are alike. -/
theorem hcells_swap (l : List (Ho × Value)) (k : Nat) (p q : Ho × Value) (h : houseCells p.1 p.2 = houseCells q.1 q.2) : hcells (l.set k p) = hcells (l.set k q) := by
  unfold hcells
  rw [List.flatMap_def, List.flatMap_def, List.map_set, List.map_set, h]
theorem evens9 : evens 9 = [0, 2, 4, 6, 8, 10, 12, 14, 16] := by decide

/-- What stands in the two texts behind so many rounds. -/
def apS (m : Int) (k : Nat) (n : Int) (j i : Nat) : ByteArray := if j < i then putS 7 (apL m k n) else ⟨#[]⟩

set_option maxRecDepth 4000 in
set_option maxHeartbeats 16000000 in
theorem tableApart_t (how at' v y : Int) (w : World) :
    Calls Try.prog 7 #[.int .i64 how, .int .i64 at', .int .i64 v, .int .i64 y] w fun e w' => e = .returned (.bool true) ∧ Below w.heap.size w w' := by
  obtain ⟨i0, hi0, hz0, hz1, hz2⟩ := info_parts Try.tabInfo3
  have a0 := Int.emod_nonneg v (show (16 : Int) ≠ 0 by decide)
  have a1 := Int.emod_lt_of_pos v (show (0 : Int) < 16 by decide)
  have b0 := Int.emod_nonneg y (show (16 : Int) ≠ 0 by decide)
  have b1 := Int.emod_lt_of_pos y (show (0 : Int) < 16 by decide)
  have k0 := Int.emod_nonneg at' (show (16 : Int) ≠ 0 by decide)
  have k1 := Int.emod_lt_of_pos at' (show (0 : Int) < 16 by decide)
  have m0 := Int.emod_nonneg how (show (6 : Int) ≠ 0 by decide)
  have m1 := Int.emod_lt_of_pos how (show (0 : Int) < 6 by decide)
  have PLa := tabhid (fun w => gplace_t v 16 w (by decide) (by decide))
  have PLb := tabhid (fun w => gplace_t y 16 w (by decide) (by decide))
  have PLk := tabhid (fun w => gplace_t at' 16 w (by decide) (by decide))
  have PLm := tabhid (fun w => gplace_t how 6 w (by decide) (by decide))
  generalize v % 16 = a at *
  generalize y % 16 = b at *
  generalize how % 6 = m at *
  obtain ⟨k, hk⟩ : ∃ k : Nat, at' % 16 = (k : Int) := ⟨(at' % 16).toNat, by omega⟩
  rw [hk] at PLk k0 k1
  have hk16 : k < 16 := by omega
  have hkl : k < none16.length := hk16
  clear hk k0 k1
  have hix0 : ∀ w : World, (Instr.index 47 (.agg #[.int .i64 a, .int .i64 b]) (.int .i64 0)).run Try.prog w = .ok (.int .i64 a) w := fun _ => by kernel_rfl
  have hix1 : ∀ w : World, (Instr.index 47 (.agg #[.int .i64 a, .int .i64 b]) (.int .i64 1)).run Try.prog w = .ok (.int .i64 b) w := fun _ => by kernel_rfl
  go_enter Try.func7, Try.ntmps7
  go_wp2_with fail
  refine (PLa.out _).mono ?_
  rintro e w' ⟨rfl, rfl⟩
  go_wp2_with fail
  refine (PLb.out _).mono ?_
  rintro e w' ⟨rfl, rfl⟩
  go_wp2_with fail
  refine (PLk.out _).mono ?_
  rintro e w' ⟨rfl, rfl⟩
  clear PLa PLb PLk
  go_wp2_with fail
  go_loopw [13] (fun c wr => ∃ (i : Nat), i ≤ 2 ∧ c = .int .i64 i ∧ Hid (wr.heap[w.heap.size]? = some (.cells #[.string (apS m k a 0 i), .string (apS m k b 1 i)] 46 (0, 0))) ∧ Hid (Below w.heap.size w wr)) (fun c _ => 2 - (intOf c).toNat)
  case atStart => exact ⟨0, by omega, rfl, heap_alloc_new _ _, (Below.refl _ _).alloc (Nat.le_refl _) _⟩
  case round =>
    obtain ⟨i, hi, rfl, HT, HB⟩ := hrel
    have hi3 : i = 0 ∨ i = 1 ∨ i = 2 := by omega
    rcases hi3 with rfl | rfl | rfl
    · go_wp2_with fail
      refine (limit_t 5 _).mono ?_
      rintro e w1 ⟨rfl, hb1⟩
      rw [show limOf (5 % 1048576) = ⟨9, 7, 7, 4, 2, 0, 0⟩ by decide]
      have HT1 : Hid (w1.heap[w.heap.size]? = some (.cells #[.string (apS m k a 0 0), .string (apS m k b 1 0)] 46 (0, 0))) := by
        show _ = _
        rw [hb1.block _ (Array.getElem?_eq_some_iff.1 HT.out).1]
        exact HT.out
      have HB1 : Hid (Below w.heap.size w w1) := HB.out.trans (hb1.mono HB.out.size)
      clear hb1 HT HB
      go_wp2_with fail
      generalize hW : World.alloc _ _ = W
      have HLW : Hid (W.heap[w1.heap.size]? = some (.cells #[.int .i64 9, .int .i64 7, .int .i64 7, .int .i64 4, .int .i64 2, .int .i64 0, .int .i64 0] 24 (0, 0))) := by
        rw [← hW]
        exact heap_alloc_new _ _
      have ht1 : w.heap.size < w1.heap.size := (Array.getElem?_eq_some_iff.1 HT1.out).1
      have HTW : Hid (W.heap[w.heap.size]? = some (.cells #[.string (apS m k a 0 0), .string (apS m k b 1 0)] 46 (0, 0))) := by
        rw [← hW]
        show _ = _
        rw [Below.heap_alloc _ _ _ ht1]
        exact HT1.out
      have HBW : Hid (Below w.heap.size w W) := by rw [← hW]; exact HB1.out.alloc HB1.out.size _
      have hWs : w1.heap.size < W.heap.size := by rw [← hW]; simp
      clear hW HT1 HB1
      have hmk := make16 W
      obtain ⟨V, hV⟩ : ∃ V, V = W.alloc (.cells none16c 42) := ⟨_, rfl⟩
      rw [← hV] at hmk
      have HR : Hid (HRow V W.heap.size none16) := by rw [hV]; exact none16_row W
      have HLV : Hid (V.heap[w1.heap.size]? = some (.cells #[.int .i64 9, .int .i64 7, .int .i64 7, .int .i64 4, .int .i64 2, .int .i64 0, .int .i64 0] 24 (0, 0))) := by rw [hV]; show _ = _; rw [Below.heap_alloc _ _ _ (by omega)]; exact HLW.out
      have HTV : Hid (V.heap[w.heap.size]? = some (.cells #[.string (apS m k a 0 0), .string (apS m k b 1 0)] 46 (0, 0))) := by rw [hV]; show _ = _; rw [Below.heap_alloc _ _ _ (by omega)]; exact HTW.out
      have HBV : Hid (Below w.heap.size w V) := by rw [hV]; exact HBW.out.alloc HBW.out.size _
      have hVs : W.heap.size < V.heap.size := by rw [hV]; simp
      clear hV HLW HTW HBW
      have d0 : V.cell? ⟨w1.heap.size, 0, none⟩ = some (.int .i64 9) := by rw [cell_of_row V _ _ _ _ _ HLV.out]; rfl
      have d1 : V.cell? ⟨w1.heap.size, 1, none⟩ = some (.int .i64 7) := by rw [cell_of_row V _ _ _ _ _ HLV.out]; rfl
      have d2 : V.cell? ⟨w1.heap.size, 2, none⟩ = some (.int .i64 7) := by rw [cell_of_row V _ _ _ _ _ HLV.out]; rfl
      have d3 : V.cell? ⟨w1.heap.size, 3, none⟩ = some (.int .i64 4) := by rw [cell_of_row V _ _ _ _ _ HLV.out]; rfl
      have d4 : V.cell? ⟨w1.heap.size, 4, none⟩ = some (.int .i64 2) := by rw [cell_of_row V _ _ _ _ _ HLV.out]; rfl
      have d5 : V.cell? ⟨w1.heap.size, 5, none⟩ = some (.int .i64 0) := by rw [cell_of_row V _ _ _ _ _ HLV.out]; rfl
      have d6 : V.cell? ⟨w1.heap.size, 6, none⟩ = some (.int .i64 0) := by rw [cell_of_row V _ _ _ _ _ HLV.out]; rfl
      have z0 : V.cell? ⟨W.heap.size, k * 10, none⟩ = some (.int .i64 0) := by
        have := HR.out.cell k 0 hkl (by decide)
        rw [show none16[k] = (Ho.z, .slice none 0 0) from List.getElem_replicate ..] at this
        exact this
      have z1 : V.cell? ⟨W.heap.size, k * 10 + 1, none⟩ = some (.int .i64 0) := by
        have := HR.out.cell k 1 hkl (by decide)
        rw [show none16[k] = (Ho.z, .slice none 0 0) from List.getElem_replicate ..] at this
        exact this
      have z2 : V.cell? ⟨W.heap.size, k * 10 + 2, none⟩ = some (.int .i64 0) := by
        have := HR.out.cell k 2 hkl (by decide)
        rw [show none16[k] = (Ho.z, .slice none 0 0) from List.getElem_replicate ..] at this
        exact this
      have z3 : V.cell? ⟨W.heap.size, k * 10 + 3, none⟩ = some (.int .i64 0) := by
        have := HR.out.cell k 3 hkl (by decide)
        rw [show none16[k] = (Ho.z, .slice none 0 0) from List.getElem_replicate ..] at this
        exact this
      have z4 : V.cell? ⟨W.heap.size, k * 10 + 4, none⟩ = some (.int .i64 0) := by
        have := HR.out.cell k 4 hkl (by decide)
        rw [show none16[k] = (Ho.z, .slice none 0 0) from List.getElem_replicate ..] at this
        exact this
      have z5 : V.cell? ⟨W.heap.size, k * 10 + 5, none⟩ = some (.int .i64 0) := by
        have := HR.out.cell k 5 hkl (by decide)
        rw [show none16[k] = (Ho.z, .slice none 0 0) from List.getElem_replicate ..] at this
        exact this
      have z6 : V.cell? ⟨W.heap.size, k * 10 + 6, none⟩ = some (.int .i64 0) := by
        have := HR.out.cell k 6 hkl (by decide)
        rw [show none16[k] = (Ho.z, .slice none 0 0) from List.getElem_replicate ..] at this
        exact this
      have z7 : V.cell? ⟨W.heap.size, k * 10 + 7, none⟩ = some (.int .i64 0) := by
        have := HR.out.cell k 7 hkl (by decide)
        rw [show none16[k] = (Ho.z, .slice none 0 0) from List.getElem_replicate ..] at this
        exact this
      have z8 : V.cell? ⟨W.heap.size, k * 10 + 8, none⟩ = some (.int .i64 0) := by
        have := HR.out.cell k 8 hkl (by decide)
        rw [show none16[k] = (Ho.z, .slice none 0 0) from List.getElem_replicate ..] at this
        exact this
      have z9 : V.cell? ⟨W.heap.size, k * 10 + 9, none⟩ = some (.slice none 0 0) := by
        have := HR.out.cell k 9 hkl (by decide)
        rw [show none16[k] = (Ho.z, .slice none 0 0) from List.getElem_replicate ..] at this
        exact this
      have fz : ∀ j, V.frozen? ⟨W.heap.size, j, none⟩ = false := fun j => HR.out.frozen j
      rw [hmk]
      go_wp2_with fail
      go_loopw [17] (fun c w2 => ∃ (j : Nat) (sv : Value), j ≤ 9 ∧ c = .int .i64 j ∧ Hid (HRow w2 W.heap.size (apRow k j sv)) ∧ Hid (w2.ownsRow (W.heap.size + 1) 3 1 sv j (icells (evens j))) ∧ Hid (w2.heap[w1.heap.size]? = some (.cells #[.int .i64 9, .int .i64 7, .int .i64 7, .int .i64 4, .int .i64 2, .int .i64 0, .int .i64 0] 24 (0, 0))) ∧ Hid (w2.heap[w.heap.size]? = some (.cells #[.string (apS m k a 0 0), .string (apS m k b 1 0)] 46 (0, 0))) ∧ Hid (Below w.heap.size w w2)) (fun c _ => 9 - (intOf c).toNat)
      case atStart =>
        refine ⟨0, .slice none 0 0, by omega, rfl, HR.out.put k ⟨1, 1, apLim, []⟩ (.slice none 0 0) hkl, ⟨rfl, .inl ⟨rfl, rfl⟩⟩, ?_, ?_, ?_⟩
        · show _ = _
          repeat rw [Below.heap_setCell _ _ _ _ (by show w1.heap.size ≠ W.heap.size; omega)]
          exact HLV.out
        · show _ = _
          repeat rw [Below.heap_setCell _ _ _ _ (by show w.heap.size ≠ W.heap.size; omega)]
          exact HTV.out
        · iterate 10 refine Below.setCell ?_ (show w.heap.size ≤ W.heap.size by omega) _
          exact HBV.out
      case round =>
        clear d0 d1 d2 d3 d4 d5 d6 z0 z1 z2 z3 z4 z5 z6 z7 z8 z9 fz HR HLV HTV HBV hmk
        obtain ⟨j, sv, hj, rfl, HR2, HO2, HL2, HT2, HB2⟩ := hrel
        rename World => w2
        have hrl : k < (apRow k j sv).length := by rw [apRow_length]; exact hk16
        have hlt2 : W.heap.size < w2.heap.size := HR2.out.lt
        have c9 : w2.cell? ⟨W.heap.size, k * 10 + 9, none⟩ = some sv := by
          rw [HR2.out.cell k 9 hrl (by decide), apRow_get]
          rfl
        have l0 : w2.cell? ⟨w1.heap.size, 0, none⟩ = some (.int .i64 9) := by rw [cell_of_row w2 _ _ _ _ _ HL2.out]; rfl
        have hown : sv.ownBlock ≠ some W.heap.size := fun h => by have := (HO2.out.lt _ h).1; omega
        have hown2 : sv.ownBlock ≠ some w.heap.size := fun h => by have := (HO2.out.lt _ h).1; omega
        have hown3 : sv.ownBlock ≠ some w1.heap.size := fun h => by have := (HO2.out.lt _ h).1; omega
        by_cases hlt : j < 9
        · have HSN : Hid (icells (evens (j + 1)) = icells (evens j) ++ [.int .i64 (2 * (j : Int))]) := by
            show _ = _
            rw [evens_succ, icells_append]
            rfl
          go_wp2_with (first | (refine wpList_append_lies _ rfl _ _ 36 rfl (W.heap.size + 1) 3 i0 _ 1 8 Try.underlying36 hi0 hz0 hz1 hz2 rfl (by decide) sv j (icells (evens j)) rfl ?_ ⟨w2.heap.size, 0, none⟩ 1 1 [.int .i64 (2 * (j : Int))] rfl rfl ?_ (by simp [Value.oneCell']) (by decide) (by unfold maxLen; omega) (by omega) ?_ (w2.heap.size + 1) (by simp) ?_) | fail)
          · exact ownsRow_on HO2.out ((Below.refl _ _).alloc (Nat.le_refl _) _)
          · exact World.news_of_block (cs := #[.int .i64 (2 * (j : Int))]) (t := 3) (fr := (0, 0)) (heap_alloc_new w2 _)
          · simp; omega
          intro g cap w7 hown7 hgrow7 hat7 hlt7
          have hR7 : HRow w7 W.heap.size (apRow k j sv) := by
            unfold HRow
            rw [hgrow7.block _ (by simp; omega) (Ne.symm hown), Below.heap_alloc _ _ _ hlt2]
            exact HR2.out
          have c97 : w7.cell? ⟨W.heap.size, k * 10 + 9, none⟩ = some sv := by
            rw [hR7.cell k 9 hrl (by decide), apRow_get]
            rfl
          have f97 : w7.frozen? ⟨W.heap.size, k * 10 + 9, none⟩ = false := hR7.frozen _
          have HW7 : Hid (Below w.heap.size w w7) := (HB2.out.alloc HB2.out.size _).grown hgrow7 (by simp; have := HB2.out.size; omega) (fun q hq => by have := (HO2.out.lt q hq).1; omega)
          have HW8 : Hid (Below w.heap.size w (w7.setCell ⟨W.heap.size, k * 10 + 9, none⟩ (.slice (some ⟨g, 0, none⟩) (j + 1) cap))) := HW7.out.setCell (show w.heap.size ≤ W.heap.size by omega) _
          have HR8 : Hid (HRow (w7.setCell ⟨W.heap.size, k * 10 + 9, none⟩ (.slice (some ⟨g, 0, none⟩) (j + 1) cap)) W.heap.size (apRow k (j + 1) (.slice (some ⟨g, 0, none⟩) (j + 1) cap))) := by
            have := hR7.set k 9 (.slice (some ⟨g, 0, none⟩) (j + 1) cap) (⟨1, 1, apLim, evens (j + 1)⟩, .slice (some ⟨g, 0, none⟩) (j + 1) cap) hrl (by decide) (by rw [apRow_get]; rfl)
            rw [apRow_set] at this
            exact this
          have HL8 : Hid ((w7.setCell ⟨W.heap.size, k * 10 + 9, none⟩ (.slice (some ⟨g, 0, none⟩) (j + 1) cap)).heap[w1.heap.size]? = some (.cells #[.int .i64 9, .int .i64 7, .int .i64 7, .int .i64 4, .int .i64 2, .int .i64 0, .int .i64 0] 24 (0, 0))) := by
            show _ = _
            rw [Below.heap_setCell _ _ _ _ (by show w1.heap.size ≠ W.heap.size; omega), hgrow7.block _ (by simp; omega) (Ne.symm hown3), Below.heap_alloc _ _ _ (by omega)]
            exact HL2.out
          have HT8 : Hid ((w7.setCell ⟨W.heap.size, k * 10 + 9, none⟩ (.slice (some ⟨g, 0, none⟩) (j + 1) cap)).heap[w.heap.size]? = some (.cells #[.string (apS m k a 0 0), .string (apS m k b 1 0)] 46 (0, 0))) := by
            show _ = _
            rw [Below.heap_setCell _ _ _ _ (by show w.heap.size ≠ W.heap.size; omega), hgrow7.block _ (by simp; omega) (Ne.symm hown2), Below.heap_alloc _ _ _ (by omega)]
            exact HT2.out
          have HO8 : Hid ((w7.setCell ⟨W.heap.size, k * 10 + 9, none⟩ (.slice (some ⟨g, 0, none⟩) (j + 1) cap)).ownsRow (W.heap.size + 1) 3 1 (.slice (some ⟨g, 0, none⟩) (j + 1) cap) (j + 1) (icells (evens (j + 1)))) := by
            have := ownsRow_setCell_below hown7 (a := ⟨W.heap.size, k * 10 + 9, none⟩) (by show W.heap.size < W.heap.size + 1; omega) (.slice (some ⟨g, 0, none⟩) (j + 1) cap)
            show World.ownsRow _ _ _ _ _ _ _
            rw [HSN.out]
            exact this
          clear hown7 hgrow7 hat7 hR7 HW7 HB2 HR2 HO2 HL2 HT2 c9 l0 HSN hown hown2 hown3
          go_wp2_with fail
          exact ⟨⟨j + 1, _, by omega, by go_num, HR8, HO8, HL8, HT8, HW8⟩, by simp [intOf]; omega⟩
        · have hj9 : j = 9 := by omega
          subst hj9
          have HI2 : Hid (Ints w2 sv (evens 9)) := ints_of_owns (by rw [evens_length]; exact HO2.out)
          go_wp2_with fail
          refine (PLm.out _).mono ?_
          rintro e w' ⟨rfl, rfl⟩
          have hm6 : m = 0 ∨ m = 1 ∨ m = 2 ∨ m = 3 ∨ m = 4 ∨ m = 5 := by omega
          rcases hm6 with rfl | rfl | rfl | rfl | rfl | rfl
          · have z : w2.cell? ⟨W.heap.size, k * 10 + 1, none⟩ = some (.int .i64 1) := by
              have := HR2.out.cell k 1 hrl (by decide)
              rw [apRow_get] at this
              exact this
            have fz : w2.frozen? ⟨W.heap.size, k * 10 + 1, none⟩ = false := HR2.out.frozen _
            obtain ⟨U, hU⟩ : ∃ U, U = w2.setCell ⟨W.heap.size, k * 10 + 1, none⟩ (.int .i64 (1 + a)) := ⟨_, rfl⟩
            have HRU : Hid (HRow U W.heap.size (none16.set k (apHouse 0 a, sv))) := by
              have := HR2.out.set k 1 (.int .i64 (1 + a)) (apHouse 0 a, sv) hrl (by decide) (by rw [apRow_get]; rfl)
              rw [apRow_set] at this
              rw [hU]
              exact this
            have HIU : Hid (Ints U sv (apHouse 0 a).segs) := by
              obtain ⟨sa, sc, hv, hn, hc⟩ := HI2.out
              refine ⟨sa, sc, hv, hn, fun hl => ?_⟩
              obtain ⟨sb, so, ha, hb, hcell⟩ := hc hl
              subst ha
              have hne : sb ≠ W.heap.size := fun h => hown (by rw [hv, ← h]; rfl)
              refine ⟨sb, so, rfl, by rw [hU]; simpa [World.setCell] using hb, fun i h => ?_⟩
              rw [hU, World.cell?_of_block (w := w2) (by show (World.setCell _ _ _).heap[sb]? = _; rw [Below.heap_setCell _ _ _ _ hne])]
              exact hcell i h
            have HTU : Hid (U.heap[w.heap.size]? = some (.cells #[.string (apS 0 k a 0 0), .string (apS 0 k b 1 0)] 46 (0, 0))) := by
              rw [hU]
              show _ = _
              rw [Below.heap_setCell _ _ _ _ (by show w.heap.size ≠ W.heap.size; omega)]
              exact HT2.out
            have HBU : Hid (Below w.heap.size w U) := by rw [hU]; exact HB2.out.setCell (show w.heap.size ≤ W.heap.size by omega) _
            have HU := tabhid hU
            clear hU HR2 HO2 HL2 HT2 HB2 HI2 hown hown2 hown3 c9 l0
            go_wp2_with fail
            rw [← HU.out]
            refine (rput_t 7 W.heap.size _ U HRU.out (set_ints HIU.out) (by simp [none16_length]) (set_segs (by show 9 ≤ 1000; decide))).mono ?_
            rintro e w3 ⟨rfl, hb3⟩
            rw [set_map, show putB 7 (zero16.set k (apHouse 0 a)) = true from apL_put hk16 a0 a1, show putS 7 (zero16.set k (apHouse 0 a)) = putS 7 (apL 0 k a) from rfl]
            clear HRU HIU HU z fz
            have HB3 : Hid (Below w.heap.size w w3) := HBU.out.trans (hb3.mono HBU.out.size)
            have HT3 : Hid (w3.heap[w.heap.size]? = some (.cells #[.string (apS 0 k a 0 0), .string (apS 0 k b 1 0)] 46 (0, 0))) := by
              show _ = _
              rw [hb3.block _ (Array.getElem?_eq_some_iff.1 HTU.out).1]
              exact HTU.out
            have t0 : w3.cell? ⟨w.heap.size, 0, none⟩ = some (.string ⟨#[]⟩) := by rw [cell_of_row w3 _ _ _ _ _ HT3.out]; rfl
            have ft : w3.frozen? ⟨w.heap.size, 0, none⟩ = false := frozen_of_row w3 _ _ _ _ HT3.out
            have HT4 : Hid ((w3.setCell ⟨w.heap.size, 0, none⟩ (.string (putS 7 (apL 0 k a)))).heap[w.heap.size]? = some (.cells #[.string (apS 0 k a 0 1), .string (apS 0 k b 1 1)] 46 (0, 0))) := heap_setCell_same w3 w.heap.size 0 _ _ _ HT3.out
            have HB4 : Hid (Below w.heap.size w (w3.setCell ⟨w.heap.size, 0, none⟩ (.string (putS 7 (apL 0 k a))))) := HB3.out.setCell (Nat.le_refl _) _
            generalize putS 7 (apL 0 k a) = S at *
            clear HT3 HTU HBU hb3
            go_wp2_with fail
            exact ⟨⟨1, by omega, rfl, HT4, HB4⟩, by simp [intOf]⟩
          · have z : w2.cell? ⟨W.heap.size, k * 10 + 7, none⟩ = some (.int .i64 0) := by
              have := HR2.out.cell k 7 hrl (by decide)
              rw [apRow_get] at this
              exact this
            have fz : w2.frozen? ⟨W.heap.size, k * 10 + 7, none⟩ = false := HR2.out.frozen _
            obtain ⟨U, hU⟩ : ∃ U, U = w2.setCell ⟨W.heap.size, k * 10 + 7, none⟩ (.int .i64 (a)) := ⟨_, rfl⟩
            have HRU : Hid (HRow U W.heap.size (none16.set k (apHouse 1 a, sv))) := by
              have := HR2.out.set k 7 (.int .i64 (a)) (apHouse 1 a, sv) hrl (by decide) (by rw [apRow_get]; rfl)
              rw [apRow_set] at this
              rw [hU]
              exact this
            have HIU : Hid (Ints U sv (apHouse 1 a).segs) := by
              obtain ⟨sa, sc, hv, hn, hc⟩ := HI2.out
              refine ⟨sa, sc, hv, hn, fun hl => ?_⟩
              obtain ⟨sb, so, ha, hb, hcell⟩ := hc hl
              subst ha
              have hne : sb ≠ W.heap.size := fun h => hown (by rw [hv, ← h]; rfl)
              refine ⟨sb, so, rfl, by rw [hU]; simpa [World.setCell] using hb, fun i h => ?_⟩
              rw [hU, World.cell?_of_block (w := w2) (by show (World.setCell _ _ _).heap[sb]? = _; rw [Below.heap_setCell _ _ _ _ hne])]
              exact hcell i h
            have HTU : Hid (U.heap[w.heap.size]? = some (.cells #[.string (apS 1 k a 0 0), .string (apS 1 k b 1 0)] 46 (0, 0))) := by
              rw [hU]
              show _ = _
              rw [Below.heap_setCell _ _ _ _ (by show w.heap.size ≠ W.heap.size; omega)]
              exact HT2.out
            have HBU : Hid (Below w.heap.size w U) := by rw [hU]; exact HB2.out.setCell (show w.heap.size ≤ W.heap.size by omega) _
            have HU := tabhid hU
            clear hU HR2 HO2 HL2 HT2 HB2 HI2 hown hown2 hown3 c9 l0
            go_wp2_with fail
            rw [← HU.out]
            refine (rput_t 7 W.heap.size _ U HRU.out (set_ints HIU.out) (by simp [none16_length]) (set_segs (by show 9 ≤ 1000; decide))).mono ?_
            rintro e w3 ⟨rfl, hb3⟩
            rw [set_map, show putB 7 (zero16.set k (apHouse 1 a)) = true from apL_put hk16 a0 a1, show putS 7 (zero16.set k (apHouse 1 a)) = putS 7 (apL 1 k a) from rfl]
            clear HRU HIU HU z fz
            have HB3 : Hid (Below w.heap.size w w3) := HBU.out.trans (hb3.mono HBU.out.size)
            have HT3 : Hid (w3.heap[w.heap.size]? = some (.cells #[.string (apS 1 k a 0 0), .string (apS 1 k b 1 0)] 46 (0, 0))) := by
              show _ = _
              rw [hb3.block _ (Array.getElem?_eq_some_iff.1 HTU.out).1]
              exact HTU.out
            have t0 : w3.cell? ⟨w.heap.size, 0, none⟩ = some (.string ⟨#[]⟩) := by rw [cell_of_row w3 _ _ _ _ _ HT3.out]; rfl
            have ft : w3.frozen? ⟨w.heap.size, 0, none⟩ = false := frozen_of_row w3 _ _ _ _ HT3.out
            have HT4 : Hid ((w3.setCell ⟨w.heap.size, 0, none⟩ (.string (putS 7 (apL 1 k a)))).heap[w.heap.size]? = some (.cells #[.string (apS 1 k a 0 1), .string (apS 1 k b 1 1)] 46 (0, 0))) := heap_setCell_same w3 w.heap.size 0 _ _ _ HT3.out
            have HB4 : Hid (Below w.heap.size w (w3.setCell ⟨w.heap.size, 0, none⟩ (.string (putS 7 (apL 1 k a))))) := HB3.out.setCell (Nat.le_refl _) _
            generalize putS 7 (apL 1 k a) = S at *
            clear HT3 HTU HBU hb3
            go_wp2_with fail
            exact ⟨⟨1, by omega, rfl, HT4, HB4⟩, by simp [intOf]⟩
          · have z : w2.cell? ⟨W.heap.size, k * 10 + 8, none⟩ = some (.int .i64 0) := by
              have := HR2.out.cell k 8 hrl (by decide)
              rw [apRow_get] at this
              exact this
            have fz : w2.frozen? ⟨W.heap.size, k * 10 + 8, none⟩ = false := HR2.out.frozen _
            obtain ⟨U, hU⟩ : ∃ U, U = w2.setCell ⟨W.heap.size, k * 10 + 8, none⟩ (.int .i64 (a)) := ⟨_, rfl⟩
            have HRU : Hid (HRow U W.heap.size (none16.set k (apHouse 2 a, sv))) := by
              have := HR2.out.set k 8 (.int .i64 (a)) (apHouse 2 a, sv) hrl (by decide) (by rw [apRow_get]; rfl)
              rw [apRow_set] at this
              rw [hU]
              exact this
            have HIU : Hid (Ints U sv (apHouse 2 a).segs) := by
              obtain ⟨sa, sc, hv, hn, hc⟩ := HI2.out
              refine ⟨sa, sc, hv, hn, fun hl => ?_⟩
              obtain ⟨sb, so, ha, hb, hcell⟩ := hc hl
              subst ha
              have hne : sb ≠ W.heap.size := fun h => hown (by rw [hv, ← h]; rfl)
              refine ⟨sb, so, rfl, by rw [hU]; simpa [World.setCell] using hb, fun i h => ?_⟩
              rw [hU, World.cell?_of_block (w := w2) (by show (World.setCell _ _ _).heap[sb]? = _; rw [Below.heap_setCell _ _ _ _ hne])]
              exact hcell i h
            have HTU : Hid (U.heap[w.heap.size]? = some (.cells #[.string (apS 2 k a 0 0), .string (apS 2 k b 1 0)] 46 (0, 0))) := by
              rw [hU]
              show _ = _
              rw [Below.heap_setCell _ _ _ _ (by show w.heap.size ≠ W.heap.size; omega)]
              exact HT2.out
            have HBU : Hid (Below w.heap.size w U) := by rw [hU]; exact HB2.out.setCell (show w.heap.size ≤ W.heap.size by omega) _
            have HU := tabhid hU
            clear hU HR2 HO2 HL2 HT2 HB2 HI2 hown hown2 hown3 c9 l0
            go_wp2_with fail
            rw [← HU.out]
            refine (rput_t 7 W.heap.size _ U HRU.out (set_ints HIU.out) (by simp [none16_length]) (set_segs (by show 9 ≤ 1000; decide))).mono ?_
            rintro e w3 ⟨rfl, hb3⟩
            rw [set_map, show putB 7 (zero16.set k (apHouse 2 a)) = true from apL_put hk16 a0 a1, show putS 7 (zero16.set k (apHouse 2 a)) = putS 7 (apL 2 k a) from rfl]
            clear HRU HIU HU z fz
            have HB3 : Hid (Below w.heap.size w w3) := HBU.out.trans (hb3.mono HBU.out.size)
            have HT3 : Hid (w3.heap[w.heap.size]? = some (.cells #[.string (apS 2 k a 0 0), .string (apS 2 k b 1 0)] 46 (0, 0))) := by
              show _ = _
              rw [hb3.block _ (Array.getElem?_eq_some_iff.1 HTU.out).1]
              exact HTU.out
            have t0 : w3.cell? ⟨w.heap.size, 0, none⟩ = some (.string ⟨#[]⟩) := by rw [cell_of_row w3 _ _ _ _ _ HT3.out]; rfl
            have ft : w3.frozen? ⟨w.heap.size, 0, none⟩ = false := frozen_of_row w3 _ _ _ _ HT3.out
            have HT4 : Hid ((w3.setCell ⟨w.heap.size, 0, none⟩ (.string (putS 7 (apL 2 k a)))).heap[w.heap.size]? = some (.cells #[.string (apS 2 k a 0 1), .string (apS 2 k b 1 1)] 46 (0, 0))) := heap_setCell_same w3 w.heap.size 0 _ _ _ HT3.out
            have HB4 : Hid (Below w.heap.size w (w3.setCell ⟨w.heap.size, 0, none⟩ (.string (putS 7 (apL 2 k a))))) := HB3.out.setCell (Nat.le_refl _) _
            generalize putS 7 (apL 2 k a) = S at *
            clear HT3 HTU HBU hb3
            go_wp2_with fail
            exact ⟨⟨1, by omega, rfl, HT4, HB4⟩, by simp [intOf]⟩
          · have z : w2.cell? ⟨W.heap.size, k * 10 + 3, none⟩ = some (.int .i64 7) := by
              have := HR2.out.cell k 3 hrl (by decide)
              rw [apRow_get] at this
              exact this
            have fz : w2.frozen? ⟨W.heap.size, k * 10 + 3, none⟩ = false := HR2.out.frozen _
            obtain ⟨U, hU⟩ : ∃ U, U = w2.setCell ⟨W.heap.size, k * 10 + 3, none⟩ (.int .i64 (1000 + a)) := ⟨_, rfl⟩
            have HRU : Hid (HRow U W.heap.size (none16.set k (apHouse 3 a, sv))) := by
              have := HR2.out.set k 3 (.int .i64 (1000 + a)) (apHouse 3 a, sv) hrl (by decide) (by rw [apRow_get]; rfl)
              rw [apRow_set] at this
              rw [hU]
              exact this
            have HIU : Hid (Ints U sv (apHouse 3 a).segs) := by
              obtain ⟨sa, sc, hv, hn, hc⟩ := HI2.out
              refine ⟨sa, sc, hv, hn, fun hl => ?_⟩
              obtain ⟨sb, so, ha, hb, hcell⟩ := hc hl
              subst ha
              have hne : sb ≠ W.heap.size := fun h => hown (by rw [hv, ← h]; rfl)
              refine ⟨sb, so, rfl, by rw [hU]; simpa [World.setCell] using hb, fun i h => ?_⟩
              rw [hU, World.cell?_of_block (w := w2) (by show (World.setCell _ _ _).heap[sb]? = _; rw [Below.heap_setCell _ _ _ _ hne])]
              exact hcell i h
            have HTU : Hid (U.heap[w.heap.size]? = some (.cells #[.string (apS 3 k a 0 0), .string (apS 3 k b 1 0)] 46 (0, 0))) := by
              rw [hU]
              show _ = _
              rw [Below.heap_setCell _ _ _ _ (by show w.heap.size ≠ W.heap.size; omega)]
              exact HT2.out
            have HBU : Hid (Below w.heap.size w U) := by rw [hU]; exact HB2.out.setCell (show w.heap.size ≤ W.heap.size by omega) _
            have HU := tabhid hU
            clear hU HR2 HO2 HL2 HT2 HB2 HI2 hown hown2 hown3 c9 l0
            go_wp2_with fail
            rw [← HU.out]
            refine (rput_t 7 W.heap.size _ U HRU.out (set_ints HIU.out) (by simp [none16_length]) (set_segs (by show 9 ≤ 1000; decide))).mono ?_
            rintro e w3 ⟨rfl, hb3⟩
            rw [set_map, show putB 7 (zero16.set k (apHouse 3 a)) = true from apL_put hk16 a0 a1, show putS 7 (zero16.set k (apHouse 3 a)) = putS 7 (apL 3 k a) from rfl]
            clear HRU HIU HU z fz
            have HB3 : Hid (Below w.heap.size w w3) := HBU.out.trans (hb3.mono HBU.out.size)
            have HT3 : Hid (w3.heap[w.heap.size]? = some (.cells #[.string (apS 3 k a 0 0), .string (apS 3 k b 1 0)] 46 (0, 0))) := by
              show _ = _
              rw [hb3.block _ (Array.getElem?_eq_some_iff.1 HTU.out).1]
              exact HTU.out
            have t0 : w3.cell? ⟨w.heap.size, 0, none⟩ = some (.string ⟨#[]⟩) := by rw [cell_of_row w3 _ _ _ _ _ HT3.out]; rfl
            have ft : w3.frozen? ⟨w.heap.size, 0, none⟩ = false := frozen_of_row w3 _ _ _ _ HT3.out
            have HT4 : Hid ((w3.setCell ⟨w.heap.size, 0, none⟩ (.string (putS 7 (apL 3 k a)))).heap[w.heap.size]? = some (.cells #[.string (apS 3 k a 0 1), .string (apS 3 k b 1 1)] 46 (0, 0))) := heap_setCell_same w3 w.heap.size 0 _ _ _ HT3.out
            have HB4 : Hid (Below w.heap.size w (w3.setCell ⟨w.heap.size, 0, none⟩ (.string (putS 7 (apL 3 k a))))) := HB3.out.setCell (Nat.le_refl _) _
            generalize putS 7 (apL 3 k a) = S at *
            clear HT3 HTU HBU hb3
            go_wp2_with fail
            exact ⟨⟨1, by omega, rfl, HT4, HB4⟩, by simp [intOf]⟩
          · obtain ⟨ho1, ho2⟩ := HO2.out
            rcases ho2 with ⟨hsv, hz⟩ | ⟨g, cap, cur, rfl, hgb, hg, hle, hmx, hcs, htk⟩
            · exact absurd hz (by decide)
            have hgl : g < w2.heap.size := (Array.getElem?_eq_some_iff.1 hg).1
            have hcur : ∀ i (h : i < 9), cur[i]? = some (.int .i64 ((evens 9)[i]'(by rw [evens_length]; exact h))) := by
              intro i h
              rw [← icells_get (evens 9) i (by rw [evens_length]; exact h), ← htk, Nat.mul_one, List.getElem?_take_of_lt h, Array.getElem?_toList]
            have g8 : w2.cell? ⟨g, 8, none⟩ = some (.int .i64 16) := by
              rw [cell_of_row w2 g _ cur 3 _ hg, hcur 8 (by decide)]
              rfl
            have f8 : w2.frozen? ⟨g, 8, none⟩ = false := frozen_of_row w2 g _ cur 3 hg
            obtain ⟨U, hU⟩ : ∃ U, U = (w2.setCell ⟨g, 8, none⟩ (.int .i64 (500 + a))).drew := ⟨_, rfl⟩
            have hUg : U.heap[g]? = some (.cells (cur.set! 8 (.int .i64 (500 + a))) 3 (0, 0)) := by
              rw [hU]
              exact heap_setCell_same w2 g 8 cur 3 _ hg
            have HRU : Hid (HRow U W.heap.size (none16.set k (apHouse 4 a, .slice (some ⟨g, 0, none⟩) 9 cap))) := by
              rw [hU]
              show (World.setCell _ _ _).heap[W.heap.size]? = _
              rw [Below.heap_setCell _ _ _ _ (by show W.heap.size ≠ g; omega), hcells_swap none16 k (apHouse 4 a, .slice (some ⟨g, 0, none⟩) 9 cap) (⟨1, 1, apLim, evens 9⟩, .slice (some ⟨g, 0, none⟩) 9 cap) rfl]
              exact HR2.out
            have HIU : Hid (Ints U (.slice (some ⟨g, 0, none⟩) 9 cap) (apHouse 4 a).segs) := by
              refine ⟨some ⟨g, 0, none⟩, cap, rfl, (fun h => by cases h), fun _ => ⟨g, 0, rfl, (Array.getElem?_eq_some_iff.1 hUg).1, fun i h => ?_⟩⟩
              have h9 : i < 9 := h
              rw [cell_of_row U g _ _ 3 _ hUg, Nat.zero_add]
              have hsz : 8 < cur.size := by
                have := hcur 8 (by decide)
                exact (Array.getElem?_eq_some_iff.1 this).1
              rcases Nat.lt_or_ge i 8 with h8 | h8
              · rw [Array.set!_eq_setIfInBounds, Array.getElem?_setIfInBounds_ne (by omega), hcur i h9]
                have h10 : i = 0 ∨ i = 1 ∨ i = 2 ∨ i = 3 ∨ i = 4 ∨ i = 5 ∨ i = 6 ∨ i = 7 := by omega
                rcases h10 with rfl | rfl | rfl | rfl | rfl | rfl | rfl | rfl <;> rfl
              · have : i = 8 := by omega
                subst this
                rw [Array.set!_eq_setIfInBounds, Array.getElem?_setIfInBounds_self_of_lt hsz]
                rfl
            have HTU : Hid (U.heap[w.heap.size]? = some (.cells #[.string (apS 4 k a 0 0), .string (apS 4 k b 1 0)] 46 (0, 0))) := by
              rw [hU]
              show (World.setCell _ _ _).heap[w.heap.size]? = _
              rw [Below.heap_setCell _ _ _ _ (by show w.heap.size ≠ g; omega)]
              exact HT2.out
            have HBU : Hid (Below w.heap.size w U) := by rw [hU]; exact (HB2.out.setCell (show w.heap.size ≤ g by omega) _).drew
            have HU := tabhid hU
            clear hU HR2 HO2 HL2 HT2 HB2 HI2 hown hown2 hown3 hUg hcur htk hcs hmx hle hg
            go_wp2_with fail
            go_region
            rw [← HU.out]
            go_wp2_with fail
            refine (rput_t 7 W.heap.size _ U HRU.out (set_ints HIU.out) (by simp [none16_length]) (set_segs (by show 9 ≤ 1000; decide))).mono ?_
            rintro e w3 ⟨rfl, hb3⟩
            rw [set_map, show putB 7 (zero16.set k (apHouse 4 a)) = true from apL_put hk16 a0 a1, show putS 7 (zero16.set k (apHouse 4 a)) = putS 7 (apL 4 k a) from rfl]
            clear HRU HIU HU g8 f8
            have HB3 : Hid (Below w.heap.size w w3) := HBU.out.trans (hb3.mono HBU.out.size)
            have HT3 : Hid (w3.heap[w.heap.size]? = some (.cells #[.string (apS 4 k a 0 0), .string (apS 4 k b 1 0)] 46 (0, 0))) := by
              show _ = _
              rw [hb3.block _ (Array.getElem?_eq_some_iff.1 HTU.out).1]
              exact HTU.out
            have t0 : w3.cell? ⟨w.heap.size, 0, none⟩ = some (.string ⟨#[]⟩) := by rw [cell_of_row w3 _ _ _ _ _ HT3.out]; rfl
            have ft : w3.frozen? ⟨w.heap.size, 0, none⟩ = false := frozen_of_row w3 _ _ _ _ HT3.out
            have HT4 : Hid ((w3.setCell ⟨w.heap.size, 0, none⟩ (.string (putS 7 (apL 4 k a)))).heap[w.heap.size]? = some (.cells #[.string (apS 4 k a 0 1), .string (apS 4 k b 1 1)] 46 (0, 0))) := heap_setCell_same w3 w.heap.size 0 _ _ _ HT3.out
            have HB4 : Hid (Below w.heap.size w (w3.setCell ⟨w.heap.size, 0, none⟩ (.string (putS 7 (apL 4 k a))))) := HB3.out.setCell (Nat.le_refl _) _
            generalize putS 7 (apL 4 k a) = S at *
            clear HT3 HTU HBU hb3
            go_wp2_with fail
            exact ⟨⟨1, by omega, rfl, HT4, HB4⟩, by simp [intOf]⟩
          · have z : w2.cell? ⟨W.heap.size, k * 10, none⟩ = some (.int .i64 1) := by
              have := HR2.out.cell k 0 hrl (by decide)
              rw [apRow_get] at this
              exact this
            have fz : w2.frozen? ⟨W.heap.size, k * 10, none⟩ = false := HR2.out.frozen _
            obtain ⟨U, hU⟩ : ∃ U, U = w2.setCell ⟨W.heap.size, k * 10, none⟩ (.int .i64 (1 + a % 2)) := ⟨_, rfl⟩
            have HRU : Hid (HRow U W.heap.size (none16.set k (apHouse 5 a, sv))) := by
              have := HR2.out.set k 0 (.int .i64 (1 + a % 2)) (apHouse 5 a, sv) hrl (by decide) (by rw [apRow_get]; rfl)
              rw [apRow_set] at this
              rw [hU]
              exact this
            have HIU : Hid (Ints U sv (apHouse 5 a).segs) := by
              obtain ⟨sa, sc, hv, hn, hc⟩ := HI2.out
              refine ⟨sa, sc, hv, hn, fun hl => ?_⟩
              obtain ⟨sb, so, ha, hb, hcell⟩ := hc hl
              subst ha
              have hne : sb ≠ W.heap.size := fun h => hown (by rw [hv, ← h]; rfl)
              refine ⟨sb, so, rfl, by rw [hU]; simpa [World.setCell] using hb, fun i h => ?_⟩
              rw [hU, World.cell?_of_block (w := w2) (by show (World.setCell _ _ _).heap[sb]? = _; rw [Below.heap_setCell _ _ _ _ hne])]
              exact hcell i h
            have HTU : Hid (U.heap[w.heap.size]? = some (.cells #[.string (apS 5 k a 0 0), .string (apS 5 k b 1 0)] 46 (0, 0))) := by
              rw [hU]
              show _ = _
              rw [Below.heap_setCell _ _ _ _ (by show w.heap.size ≠ W.heap.size; omega)]
              exact HT2.out
            have HBU : Hid (Below w.heap.size w U) := by rw [hU]; exact HB2.out.setCell (show w.heap.size ≤ W.heap.size by omega) _
            have HU := tabhid hU
            clear hU HR2 HO2 HL2 HT2 HB2 HI2 hown hown2 hown3 c9 l0
            go_wp2_with fail
            rw [← HU.out]
            refine (rput_t 7 W.heap.size _ U HRU.out (set_ints HIU.out) (by simp [none16_length]) (set_segs (by show 9 ≤ 1000; decide))).mono ?_
            rintro e w3 ⟨rfl, hb3⟩
            rw [set_map, show putB 7 (zero16.set k (apHouse 5 a)) = true from apL_put hk16 a0 a1, show putS 7 (zero16.set k (apHouse 5 a)) = putS 7 (apL 5 k a) from rfl]
            clear HRU HIU HU z fz
            have HB3 : Hid (Below w.heap.size w w3) := HBU.out.trans (hb3.mono HBU.out.size)
            have HT3 : Hid (w3.heap[w.heap.size]? = some (.cells #[.string (apS 5 k a 0 0), .string (apS 5 k b 1 0)] 46 (0, 0))) := by
              show _ = _
              rw [hb3.block _ (Array.getElem?_eq_some_iff.1 HTU.out).1]
              exact HTU.out
            have t0 : w3.cell? ⟨w.heap.size, 0, none⟩ = some (.string ⟨#[]⟩) := by rw [cell_of_row w3 _ _ _ _ _ HT3.out]; rfl
            have ft : w3.frozen? ⟨w.heap.size, 0, none⟩ = false := frozen_of_row w3 _ _ _ _ HT3.out
            have HT4 : Hid ((w3.setCell ⟨w.heap.size, 0, none⟩ (.string (putS 7 (apL 5 k a)))).heap[w.heap.size]? = some (.cells #[.string (apS 5 k a 0 1), .string (apS 5 k b 1 1)] 46 (0, 0))) := heap_setCell_same w3 w.heap.size 0 _ _ _ HT3.out
            have HB4 : Hid (Below w.heap.size w (w3.setCell ⟨w.heap.size, 0, none⟩ (.string (putS 7 (apL 5 k a))))) := HB3.out.setCell (Nat.le_refl _) _
            generalize putS 7 (apL 5 k a) = S at *
            clear HT3 HTU HBU hb3
            go_wp2_with fail
            exact ⟨⟨1, by omega, rfl, HT4, HB4⟩, by simp [intOf]⟩
    · go_wp2_with fail
      refine (limit_t 5 _).mono ?_
      rintro e w1 ⟨rfl, hb1⟩
      rw [show limOf (5 % 1048576) = ⟨9, 7, 7, 4, 2, 0, 0⟩ by decide]
      have HT1 : Hid (w1.heap[w.heap.size]? = some (.cells #[.string (apS m k a 0 1), .string (apS m k b 1 1)] 46 (0, 0))) := by
        show _ = _
        rw [hb1.block _ (Array.getElem?_eq_some_iff.1 HT.out).1]
        exact HT.out
      have HB1 : Hid (Below w.heap.size w w1) := HB.out.trans (hb1.mono HB.out.size)
      clear hb1 HT HB
      go_wp2_with fail
      generalize hW : World.alloc _ _ = W
      have HLW : Hid (W.heap[w1.heap.size]? = some (.cells #[.int .i64 9, .int .i64 7, .int .i64 7, .int .i64 4, .int .i64 2, .int .i64 0, .int .i64 0] 24 (0, 0))) := by
        rw [← hW]
        exact heap_alloc_new _ _
      have ht1 : w.heap.size < w1.heap.size := (Array.getElem?_eq_some_iff.1 HT1.out).1
      have HTW : Hid (W.heap[w.heap.size]? = some (.cells #[.string (apS m k a 0 1), .string (apS m k b 1 1)] 46 (0, 0))) := by
        rw [← hW]
        show _ = _
        rw [Below.heap_alloc _ _ _ ht1]
        exact HT1.out
      have HBW : Hid (Below w.heap.size w W) := by rw [← hW]; exact HB1.out.alloc HB1.out.size _
      have hWs : w1.heap.size < W.heap.size := by rw [← hW]; simp
      clear hW HT1 HB1
      have hmk := make16 W
      obtain ⟨V, hV⟩ : ∃ V, V = W.alloc (.cells none16c 42) := ⟨_, rfl⟩
      rw [← hV] at hmk
      have HR : Hid (HRow V W.heap.size none16) := by rw [hV]; exact none16_row W
      have HLV : Hid (V.heap[w1.heap.size]? = some (.cells #[.int .i64 9, .int .i64 7, .int .i64 7, .int .i64 4, .int .i64 2, .int .i64 0, .int .i64 0] 24 (0, 0))) := by rw [hV]; show _ = _; rw [Below.heap_alloc _ _ _ (by omega)]; exact HLW.out
      have HTV : Hid (V.heap[w.heap.size]? = some (.cells #[.string (apS m k a 0 1), .string (apS m k b 1 1)] 46 (0, 0))) := by rw [hV]; show _ = _; rw [Below.heap_alloc _ _ _ (by omega)]; exact HTW.out
      have HBV : Hid (Below w.heap.size w V) := by rw [hV]; exact HBW.out.alloc HBW.out.size _
      have hVs : W.heap.size < V.heap.size := by rw [hV]; simp
      clear hV HLW HTW HBW
      have d0 : V.cell? ⟨w1.heap.size, 0, none⟩ = some (.int .i64 9) := by rw [cell_of_row V _ _ _ _ _ HLV.out]; rfl
      have d1 : V.cell? ⟨w1.heap.size, 1, none⟩ = some (.int .i64 7) := by rw [cell_of_row V _ _ _ _ _ HLV.out]; rfl
      have d2 : V.cell? ⟨w1.heap.size, 2, none⟩ = some (.int .i64 7) := by rw [cell_of_row V _ _ _ _ _ HLV.out]; rfl
      have d3 : V.cell? ⟨w1.heap.size, 3, none⟩ = some (.int .i64 4) := by rw [cell_of_row V _ _ _ _ _ HLV.out]; rfl
      have d4 : V.cell? ⟨w1.heap.size, 4, none⟩ = some (.int .i64 2) := by rw [cell_of_row V _ _ _ _ _ HLV.out]; rfl
      have d5 : V.cell? ⟨w1.heap.size, 5, none⟩ = some (.int .i64 0) := by rw [cell_of_row V _ _ _ _ _ HLV.out]; rfl
      have d6 : V.cell? ⟨w1.heap.size, 6, none⟩ = some (.int .i64 0) := by rw [cell_of_row V _ _ _ _ _ HLV.out]; rfl
      have z0 : V.cell? ⟨W.heap.size, k * 10, none⟩ = some (.int .i64 0) := by
        have := HR.out.cell k 0 hkl (by decide)
        rw [show none16[k] = (Ho.z, .slice none 0 0) from List.getElem_replicate ..] at this
        exact this
      have z1 : V.cell? ⟨W.heap.size, k * 10 + 1, none⟩ = some (.int .i64 0) := by
        have := HR.out.cell k 1 hkl (by decide)
        rw [show none16[k] = (Ho.z, .slice none 0 0) from List.getElem_replicate ..] at this
        exact this
      have z2 : V.cell? ⟨W.heap.size, k * 10 + 2, none⟩ = some (.int .i64 0) := by
        have := HR.out.cell k 2 hkl (by decide)
        rw [show none16[k] = (Ho.z, .slice none 0 0) from List.getElem_replicate ..] at this
        exact this
      have z3 : V.cell? ⟨W.heap.size, k * 10 + 3, none⟩ = some (.int .i64 0) := by
        have := HR.out.cell k 3 hkl (by decide)
        rw [show none16[k] = (Ho.z, .slice none 0 0) from List.getElem_replicate ..] at this
        exact this
      have z4 : V.cell? ⟨W.heap.size, k * 10 + 4, none⟩ = some (.int .i64 0) := by
        have := HR.out.cell k 4 hkl (by decide)
        rw [show none16[k] = (Ho.z, .slice none 0 0) from List.getElem_replicate ..] at this
        exact this
      have z5 : V.cell? ⟨W.heap.size, k * 10 + 5, none⟩ = some (.int .i64 0) := by
        have := HR.out.cell k 5 hkl (by decide)
        rw [show none16[k] = (Ho.z, .slice none 0 0) from List.getElem_replicate ..] at this
        exact this
      have z6 : V.cell? ⟨W.heap.size, k * 10 + 6, none⟩ = some (.int .i64 0) := by
        have := HR.out.cell k 6 hkl (by decide)
        rw [show none16[k] = (Ho.z, .slice none 0 0) from List.getElem_replicate ..] at this
        exact this
      have z7 : V.cell? ⟨W.heap.size, k * 10 + 7, none⟩ = some (.int .i64 0) := by
        have := HR.out.cell k 7 hkl (by decide)
        rw [show none16[k] = (Ho.z, .slice none 0 0) from List.getElem_replicate ..] at this
        exact this
      have z8 : V.cell? ⟨W.heap.size, k * 10 + 8, none⟩ = some (.int .i64 0) := by
        have := HR.out.cell k 8 hkl (by decide)
        rw [show none16[k] = (Ho.z, .slice none 0 0) from List.getElem_replicate ..] at this
        exact this
      have z9 : V.cell? ⟨W.heap.size, k * 10 + 9, none⟩ = some (.slice none 0 0) := by
        have := HR.out.cell k 9 hkl (by decide)
        rw [show none16[k] = (Ho.z, .slice none 0 0) from List.getElem_replicate ..] at this
        exact this
      have fz : ∀ j, V.frozen? ⟨W.heap.size, j, none⟩ = false := fun j => HR.out.frozen j
      rw [hmk]
      go_wp2_with fail
      go_loopw [17] (fun c w2 => ∃ (j : Nat) (sv : Value), j ≤ 9 ∧ c = .int .i64 j ∧ Hid (HRow w2 W.heap.size (apRow k j sv)) ∧ Hid (w2.ownsRow (W.heap.size + 1) 3 1 sv j (icells (evens j))) ∧ Hid (w2.heap[w1.heap.size]? = some (.cells #[.int .i64 9, .int .i64 7, .int .i64 7, .int .i64 4, .int .i64 2, .int .i64 0, .int .i64 0] 24 (0, 0))) ∧ Hid (w2.heap[w.heap.size]? = some (.cells #[.string (apS m k a 0 1), .string (apS m k b 1 1)] 46 (0, 0))) ∧ Hid (Below w.heap.size w w2)) (fun c _ => 9 - (intOf c).toNat)
      case atStart =>
        refine ⟨0, .slice none 0 0, by omega, rfl, HR.out.put k ⟨1, 1, apLim, []⟩ (.slice none 0 0) hkl, ⟨rfl, .inl ⟨rfl, rfl⟩⟩, ?_, ?_, ?_⟩
        · show _ = _
          repeat rw [Below.heap_setCell _ _ _ _ (by show w1.heap.size ≠ W.heap.size; omega)]
          exact HLV.out
        · show _ = _
          repeat rw [Below.heap_setCell _ _ _ _ (by show w.heap.size ≠ W.heap.size; omega)]
          exact HTV.out
        · iterate 10 refine Below.setCell ?_ (show w.heap.size ≤ W.heap.size by omega) _
          exact HBV.out
      case round =>
        clear d0 d1 d2 d3 d4 d5 d6 z0 z1 z2 z3 z4 z5 z6 z7 z8 z9 fz HR HLV HTV HBV hmk
        obtain ⟨j, sv, hj, rfl, HR2, HO2, HL2, HT2, HB2⟩ := hrel
        rename World => w2
        have hrl : k < (apRow k j sv).length := by rw [apRow_length]; exact hk16
        have hlt2 : W.heap.size < w2.heap.size := HR2.out.lt
        have c9 : w2.cell? ⟨W.heap.size, k * 10 + 9, none⟩ = some sv := by
          rw [HR2.out.cell k 9 hrl (by decide), apRow_get]
          rfl
        have l0 : w2.cell? ⟨w1.heap.size, 0, none⟩ = some (.int .i64 9) := by rw [cell_of_row w2 _ _ _ _ _ HL2.out]; rfl
        have hown : sv.ownBlock ≠ some W.heap.size := fun h => by have := (HO2.out.lt _ h).1; omega
        have hown2 : sv.ownBlock ≠ some w.heap.size := fun h => by have := (HO2.out.lt _ h).1; omega
        have hown3 : sv.ownBlock ≠ some w1.heap.size := fun h => by have := (HO2.out.lt _ h).1; omega
        by_cases hlt : j < 9
        · have HSN : Hid (icells (evens (j + 1)) = icells (evens j) ++ [.int .i64 (2 * (j : Int))]) := by
            show _ = _
            rw [evens_succ, icells_append]
            rfl
          go_wp2_with (first | (refine wpList_append_lies _ rfl _ _ 36 rfl (W.heap.size + 1) 3 i0 _ 1 8 Try.underlying36 hi0 hz0 hz1 hz2 rfl (by decide) sv j (icells (evens j)) rfl ?_ ⟨w2.heap.size, 0, none⟩ 1 1 [.int .i64 (2 * (j : Int))] rfl rfl ?_ (by simp [Value.oneCell']) (by decide) (by unfold maxLen; omega) (by omega) ?_ (w2.heap.size + 1) (by simp) ?_) | fail)
          · exact ownsRow_on HO2.out ((Below.refl _ _).alloc (Nat.le_refl _) _)
          · exact World.news_of_block (cs := #[.int .i64 (2 * (j : Int))]) (t := 3) (fr := (0, 0)) (heap_alloc_new w2 _)
          · simp; omega
          intro g cap w7 hown7 hgrow7 hat7 hlt7
          have hR7 : HRow w7 W.heap.size (apRow k j sv) := by
            unfold HRow
            rw [hgrow7.block _ (by simp; omega) (Ne.symm hown), Below.heap_alloc _ _ _ hlt2]
            exact HR2.out
          have c97 : w7.cell? ⟨W.heap.size, k * 10 + 9, none⟩ = some sv := by
            rw [hR7.cell k 9 hrl (by decide), apRow_get]
            rfl
          have f97 : w7.frozen? ⟨W.heap.size, k * 10 + 9, none⟩ = false := hR7.frozen _
          have HW7 : Hid (Below w.heap.size w w7) := (HB2.out.alloc HB2.out.size _).grown hgrow7 (by simp; have := HB2.out.size; omega) (fun q hq => by have := (HO2.out.lt q hq).1; omega)
          have HW8 : Hid (Below w.heap.size w (w7.setCell ⟨W.heap.size, k * 10 + 9, none⟩ (.slice (some ⟨g, 0, none⟩) (j + 1) cap))) := HW7.out.setCell (show w.heap.size ≤ W.heap.size by omega) _
          have HR8 : Hid (HRow (w7.setCell ⟨W.heap.size, k * 10 + 9, none⟩ (.slice (some ⟨g, 0, none⟩) (j + 1) cap)) W.heap.size (apRow k (j + 1) (.slice (some ⟨g, 0, none⟩) (j + 1) cap))) := by
            have := hR7.set k 9 (.slice (some ⟨g, 0, none⟩) (j + 1) cap) (⟨1, 1, apLim, evens (j + 1)⟩, .slice (some ⟨g, 0, none⟩) (j + 1) cap) hrl (by decide) (by rw [apRow_get]; rfl)
            rw [apRow_set] at this
            exact this
          have HL8 : Hid ((w7.setCell ⟨W.heap.size, k * 10 + 9, none⟩ (.slice (some ⟨g, 0, none⟩) (j + 1) cap)).heap[w1.heap.size]? = some (.cells #[.int .i64 9, .int .i64 7, .int .i64 7, .int .i64 4, .int .i64 2, .int .i64 0, .int .i64 0] 24 (0, 0))) := by
            show _ = _
            rw [Below.heap_setCell _ _ _ _ (by show w1.heap.size ≠ W.heap.size; omega), hgrow7.block _ (by simp; omega) (Ne.symm hown3), Below.heap_alloc _ _ _ (by omega)]
            exact HL2.out
          have HT8 : Hid ((w7.setCell ⟨W.heap.size, k * 10 + 9, none⟩ (.slice (some ⟨g, 0, none⟩) (j + 1) cap)).heap[w.heap.size]? = some (.cells #[.string (apS m k a 0 1), .string (apS m k b 1 1)] 46 (0, 0))) := by
            show _ = _
            rw [Below.heap_setCell _ _ _ _ (by show w.heap.size ≠ W.heap.size; omega), hgrow7.block _ (by simp; omega) (Ne.symm hown2), Below.heap_alloc _ _ _ (by omega)]
            exact HT2.out
          have HO8 : Hid ((w7.setCell ⟨W.heap.size, k * 10 + 9, none⟩ (.slice (some ⟨g, 0, none⟩) (j + 1) cap)).ownsRow (W.heap.size + 1) 3 1 (.slice (some ⟨g, 0, none⟩) (j + 1) cap) (j + 1) (icells (evens (j + 1)))) := by
            have := ownsRow_setCell_below hown7 (a := ⟨W.heap.size, k * 10 + 9, none⟩) (by show W.heap.size < W.heap.size + 1; omega) (.slice (some ⟨g, 0, none⟩) (j + 1) cap)
            show World.ownsRow _ _ _ _ _ _ _
            rw [HSN.out]
            exact this
          clear hown7 hgrow7 hat7 hR7 HW7 HB2 HR2 HO2 HL2 HT2 c9 l0 HSN hown hown2 hown3
          go_wp2_with fail
          exact ⟨⟨j + 1, _, by omega, by go_num, HR8, HO8, HL8, HT8, HW8⟩, by simp [intOf]; omega⟩
        · have hj9 : j = 9 := by omega
          subst hj9
          have HI2 : Hid (Ints w2 sv (evens 9)) := ints_of_owns (by rw [evens_length]; exact HO2.out)
          go_wp2_with fail
          refine (PLm.out _).mono ?_
          rintro e w' ⟨rfl, rfl⟩
          have hm6 : m = 0 ∨ m = 1 ∨ m = 2 ∨ m = 3 ∨ m = 4 ∨ m = 5 := by omega
          rcases hm6 with rfl | rfl | rfl | rfl | rfl | rfl
          · have z : w2.cell? ⟨W.heap.size, k * 10 + 1, none⟩ = some (.int .i64 1) := by
              have := HR2.out.cell k 1 hrl (by decide)
              rw [apRow_get] at this
              exact this
            have fz : w2.frozen? ⟨W.heap.size, k * 10 + 1, none⟩ = false := HR2.out.frozen _
            obtain ⟨U, hU⟩ : ∃ U, U = w2.setCell ⟨W.heap.size, k * 10 + 1, none⟩ (.int .i64 (1 + b)) := ⟨_, rfl⟩
            have HRU : Hid (HRow U W.heap.size (none16.set k (apHouse 0 b, sv))) := by
              have := HR2.out.set k 1 (.int .i64 (1 + b)) (apHouse 0 b, sv) hrl (by decide) (by rw [apRow_get]; rfl)
              rw [apRow_set] at this
              rw [hU]
              exact this
            have HIU : Hid (Ints U sv (apHouse 0 b).segs) := by
              obtain ⟨sa, sc, hv, hn, hc⟩ := HI2.out
              refine ⟨sa, sc, hv, hn, fun hl => ?_⟩
              obtain ⟨sb, so, ha, hb, hcell⟩ := hc hl
              subst ha
              have hne : sb ≠ W.heap.size := fun h => hown (by rw [hv, ← h]; rfl)
              refine ⟨sb, so, rfl, by rw [hU]; simpa [World.setCell] using hb, fun i h => ?_⟩
              rw [hU, World.cell?_of_block (w := w2) (by show (World.setCell _ _ _).heap[sb]? = _; rw [Below.heap_setCell _ _ _ _ hne])]
              exact hcell i h
            have HTU : Hid (U.heap[w.heap.size]? = some (.cells #[.string (apS 0 k a 0 1), .string (apS 0 k b 1 1)] 46 (0, 0))) := by
              rw [hU]
              show _ = _
              rw [Below.heap_setCell _ _ _ _ (by show w.heap.size ≠ W.heap.size; omega)]
              exact HT2.out
            have HBU : Hid (Below w.heap.size w U) := by rw [hU]; exact HB2.out.setCell (show w.heap.size ≤ W.heap.size by omega) _
            have HU := tabhid hU
            clear hU HR2 HO2 HL2 HT2 HB2 HI2 hown hown2 hown3 c9 l0
            go_wp2_with fail
            rw [← HU.out]
            refine (rput_t 7 W.heap.size _ U HRU.out (set_ints HIU.out) (by simp [none16_length]) (set_segs (by show 9 ≤ 1000; decide))).mono ?_
            rintro e w3 ⟨rfl, hb3⟩
            rw [set_map, show putB 7 (zero16.set k (apHouse 0 b)) = true from apL_put hk16 b0 b1, show putS 7 (zero16.set k (apHouse 0 b)) = putS 7 (apL 0 k b) from rfl]
            clear HRU HIU HU z fz
            have HB3 : Hid (Below w.heap.size w w3) := HBU.out.trans (hb3.mono HBU.out.size)
            have HT3 : Hid (w3.heap[w.heap.size]? = some (.cells #[.string (apS 0 k a 0 1), .string (apS 0 k b 1 1)] 46 (0, 0))) := by
              show _ = _
              rw [hb3.block _ (Array.getElem?_eq_some_iff.1 HTU.out).1]
              exact HTU.out
            have t0 : w3.cell? ⟨w.heap.size, 1, none⟩ = some (.string ⟨#[]⟩) := by rw [cell_of_row w3 _ _ _ _ _ HT3.out]; rfl
            have ft : w3.frozen? ⟨w.heap.size, 1, none⟩ = false := frozen_of_row w3 _ _ _ _ HT3.out
            have HT4 : Hid ((w3.setCell ⟨w.heap.size, 1, none⟩ (.string (putS 7 (apL 0 k b)))).heap[w.heap.size]? = some (.cells #[.string (apS 0 k a 0 2), .string (apS 0 k b 1 2)] 46 (0, 0))) := heap_setCell_same w3 w.heap.size 1 _ _ _ HT3.out
            have HB4 : Hid (Below w.heap.size w (w3.setCell ⟨w.heap.size, 1, none⟩ (.string (putS 7 (apL 0 k b))))) := HB3.out.setCell (Nat.le_refl _) _
            generalize putS 7 (apL 0 k b) = S at *
            clear HT3 HTU HBU hb3
            go_wp2_with fail
            exact ⟨⟨2, by omega, rfl, HT4, HB4⟩, by simp [intOf]⟩
          · have z : w2.cell? ⟨W.heap.size, k * 10 + 7, none⟩ = some (.int .i64 0) := by
              have := HR2.out.cell k 7 hrl (by decide)
              rw [apRow_get] at this
              exact this
            have fz : w2.frozen? ⟨W.heap.size, k * 10 + 7, none⟩ = false := HR2.out.frozen _
            obtain ⟨U, hU⟩ : ∃ U, U = w2.setCell ⟨W.heap.size, k * 10 + 7, none⟩ (.int .i64 (b)) := ⟨_, rfl⟩
            have HRU : Hid (HRow U W.heap.size (none16.set k (apHouse 1 b, sv))) := by
              have := HR2.out.set k 7 (.int .i64 (b)) (apHouse 1 b, sv) hrl (by decide) (by rw [apRow_get]; rfl)
              rw [apRow_set] at this
              rw [hU]
              exact this
            have HIU : Hid (Ints U sv (apHouse 1 b).segs) := by
              obtain ⟨sa, sc, hv, hn, hc⟩ := HI2.out
              refine ⟨sa, sc, hv, hn, fun hl => ?_⟩
              obtain ⟨sb, so, ha, hb, hcell⟩ := hc hl
              subst ha
              have hne : sb ≠ W.heap.size := fun h => hown (by rw [hv, ← h]; rfl)
              refine ⟨sb, so, rfl, by rw [hU]; simpa [World.setCell] using hb, fun i h => ?_⟩
              rw [hU, World.cell?_of_block (w := w2) (by show (World.setCell _ _ _).heap[sb]? = _; rw [Below.heap_setCell _ _ _ _ hne])]
              exact hcell i h
            have HTU : Hid (U.heap[w.heap.size]? = some (.cells #[.string (apS 1 k a 0 1), .string (apS 1 k b 1 1)] 46 (0, 0))) := by
              rw [hU]
              show _ = _
              rw [Below.heap_setCell _ _ _ _ (by show w.heap.size ≠ W.heap.size; omega)]
              exact HT2.out
            have HBU : Hid (Below w.heap.size w U) := by rw [hU]; exact HB2.out.setCell (show w.heap.size ≤ W.heap.size by omega) _
            have HU := tabhid hU
            clear hU HR2 HO2 HL2 HT2 HB2 HI2 hown hown2 hown3 c9 l0
            go_wp2_with fail
            rw [← HU.out]
            refine (rput_t 7 W.heap.size _ U HRU.out (set_ints HIU.out) (by simp [none16_length]) (set_segs (by show 9 ≤ 1000; decide))).mono ?_
            rintro e w3 ⟨rfl, hb3⟩
            rw [set_map, show putB 7 (zero16.set k (apHouse 1 b)) = true from apL_put hk16 b0 b1, show putS 7 (zero16.set k (apHouse 1 b)) = putS 7 (apL 1 k b) from rfl]
            clear HRU HIU HU z fz
            have HB3 : Hid (Below w.heap.size w w3) := HBU.out.trans (hb3.mono HBU.out.size)
            have HT3 : Hid (w3.heap[w.heap.size]? = some (.cells #[.string (apS 1 k a 0 1), .string (apS 1 k b 1 1)] 46 (0, 0))) := by
              show _ = _
              rw [hb3.block _ (Array.getElem?_eq_some_iff.1 HTU.out).1]
              exact HTU.out
            have t0 : w3.cell? ⟨w.heap.size, 1, none⟩ = some (.string ⟨#[]⟩) := by rw [cell_of_row w3 _ _ _ _ _ HT3.out]; rfl
            have ft : w3.frozen? ⟨w.heap.size, 1, none⟩ = false := frozen_of_row w3 _ _ _ _ HT3.out
            have HT4 : Hid ((w3.setCell ⟨w.heap.size, 1, none⟩ (.string (putS 7 (apL 1 k b)))).heap[w.heap.size]? = some (.cells #[.string (apS 1 k a 0 2), .string (apS 1 k b 1 2)] 46 (0, 0))) := heap_setCell_same w3 w.heap.size 1 _ _ _ HT3.out
            have HB4 : Hid (Below w.heap.size w (w3.setCell ⟨w.heap.size, 1, none⟩ (.string (putS 7 (apL 1 k b))))) := HB3.out.setCell (Nat.le_refl _) _
            generalize putS 7 (apL 1 k b) = S at *
            clear HT3 HTU HBU hb3
            go_wp2_with fail
            exact ⟨⟨2, by omega, rfl, HT4, HB4⟩, by simp [intOf]⟩
          · have z : w2.cell? ⟨W.heap.size, k * 10 + 8, none⟩ = some (.int .i64 0) := by
              have := HR2.out.cell k 8 hrl (by decide)
              rw [apRow_get] at this
              exact this
            have fz : w2.frozen? ⟨W.heap.size, k * 10 + 8, none⟩ = false := HR2.out.frozen _
            obtain ⟨U, hU⟩ : ∃ U, U = w2.setCell ⟨W.heap.size, k * 10 + 8, none⟩ (.int .i64 (b)) := ⟨_, rfl⟩
            have HRU : Hid (HRow U W.heap.size (none16.set k (apHouse 2 b, sv))) := by
              have := HR2.out.set k 8 (.int .i64 (b)) (apHouse 2 b, sv) hrl (by decide) (by rw [apRow_get]; rfl)
              rw [apRow_set] at this
              rw [hU]
              exact this
            have HIU : Hid (Ints U sv (apHouse 2 b).segs) := by
              obtain ⟨sa, sc, hv, hn, hc⟩ := HI2.out
              refine ⟨sa, sc, hv, hn, fun hl => ?_⟩
              obtain ⟨sb, so, ha, hb, hcell⟩ := hc hl
              subst ha
              have hne : sb ≠ W.heap.size := fun h => hown (by rw [hv, ← h]; rfl)
              refine ⟨sb, so, rfl, by rw [hU]; simpa [World.setCell] using hb, fun i h => ?_⟩
              rw [hU, World.cell?_of_block (w := w2) (by show (World.setCell _ _ _).heap[sb]? = _; rw [Below.heap_setCell _ _ _ _ hne])]
              exact hcell i h
            have HTU : Hid (U.heap[w.heap.size]? = some (.cells #[.string (apS 2 k a 0 1), .string (apS 2 k b 1 1)] 46 (0, 0))) := by
              rw [hU]
              show _ = _
              rw [Below.heap_setCell _ _ _ _ (by show w.heap.size ≠ W.heap.size; omega)]
              exact HT2.out
            have HBU : Hid (Below w.heap.size w U) := by rw [hU]; exact HB2.out.setCell (show w.heap.size ≤ W.heap.size by omega) _
            have HU := tabhid hU
            clear hU HR2 HO2 HL2 HT2 HB2 HI2 hown hown2 hown3 c9 l0
            go_wp2_with fail
            rw [← HU.out]
            refine (rput_t 7 W.heap.size _ U HRU.out (set_ints HIU.out) (by simp [none16_length]) (set_segs (by show 9 ≤ 1000; decide))).mono ?_
            rintro e w3 ⟨rfl, hb3⟩
            rw [set_map, show putB 7 (zero16.set k (apHouse 2 b)) = true from apL_put hk16 b0 b1, show putS 7 (zero16.set k (apHouse 2 b)) = putS 7 (apL 2 k b) from rfl]
            clear HRU HIU HU z fz
            have HB3 : Hid (Below w.heap.size w w3) := HBU.out.trans (hb3.mono HBU.out.size)
            have HT3 : Hid (w3.heap[w.heap.size]? = some (.cells #[.string (apS 2 k a 0 1), .string (apS 2 k b 1 1)] 46 (0, 0))) := by
              show _ = _
              rw [hb3.block _ (Array.getElem?_eq_some_iff.1 HTU.out).1]
              exact HTU.out
            have t0 : w3.cell? ⟨w.heap.size, 1, none⟩ = some (.string ⟨#[]⟩) := by rw [cell_of_row w3 _ _ _ _ _ HT3.out]; rfl
            have ft : w3.frozen? ⟨w.heap.size, 1, none⟩ = false := frozen_of_row w3 _ _ _ _ HT3.out
            have HT4 : Hid ((w3.setCell ⟨w.heap.size, 1, none⟩ (.string (putS 7 (apL 2 k b)))).heap[w.heap.size]? = some (.cells #[.string (apS 2 k a 0 2), .string (apS 2 k b 1 2)] 46 (0, 0))) := heap_setCell_same w3 w.heap.size 1 _ _ _ HT3.out
            have HB4 : Hid (Below w.heap.size w (w3.setCell ⟨w.heap.size, 1, none⟩ (.string (putS 7 (apL 2 k b))))) := HB3.out.setCell (Nat.le_refl _) _
            generalize putS 7 (apL 2 k b) = S at *
            clear HT3 HTU HBU hb3
            go_wp2_with fail
            exact ⟨⟨2, by omega, rfl, HT4, HB4⟩, by simp [intOf]⟩
          · have z : w2.cell? ⟨W.heap.size, k * 10 + 3, none⟩ = some (.int .i64 7) := by
              have := HR2.out.cell k 3 hrl (by decide)
              rw [apRow_get] at this
              exact this
            have fz : w2.frozen? ⟨W.heap.size, k * 10 + 3, none⟩ = false := HR2.out.frozen _
            obtain ⟨U, hU⟩ : ∃ U, U = w2.setCell ⟨W.heap.size, k * 10 + 3, none⟩ (.int .i64 (1000 + b)) := ⟨_, rfl⟩
            have HRU : Hid (HRow U W.heap.size (none16.set k (apHouse 3 b, sv))) := by
              have := HR2.out.set k 3 (.int .i64 (1000 + b)) (apHouse 3 b, sv) hrl (by decide) (by rw [apRow_get]; rfl)
              rw [apRow_set] at this
              rw [hU]
              exact this
            have HIU : Hid (Ints U sv (apHouse 3 b).segs) := by
              obtain ⟨sa, sc, hv, hn, hc⟩ := HI2.out
              refine ⟨sa, sc, hv, hn, fun hl => ?_⟩
              obtain ⟨sb, so, ha, hb, hcell⟩ := hc hl
              subst ha
              have hne : sb ≠ W.heap.size := fun h => hown (by rw [hv, ← h]; rfl)
              refine ⟨sb, so, rfl, by rw [hU]; simpa [World.setCell] using hb, fun i h => ?_⟩
              rw [hU, World.cell?_of_block (w := w2) (by show (World.setCell _ _ _).heap[sb]? = _; rw [Below.heap_setCell _ _ _ _ hne])]
              exact hcell i h
            have HTU : Hid (U.heap[w.heap.size]? = some (.cells #[.string (apS 3 k a 0 1), .string (apS 3 k b 1 1)] 46 (0, 0))) := by
              rw [hU]
              show _ = _
              rw [Below.heap_setCell _ _ _ _ (by show w.heap.size ≠ W.heap.size; omega)]
              exact HT2.out
            have HBU : Hid (Below w.heap.size w U) := by rw [hU]; exact HB2.out.setCell (show w.heap.size ≤ W.heap.size by omega) _
            have HU := tabhid hU
            clear hU HR2 HO2 HL2 HT2 HB2 HI2 hown hown2 hown3 c9 l0
            go_wp2_with fail
            rw [← HU.out]
            refine (rput_t 7 W.heap.size _ U HRU.out (set_ints HIU.out) (by simp [none16_length]) (set_segs (by show 9 ≤ 1000; decide))).mono ?_
            rintro e w3 ⟨rfl, hb3⟩
            rw [set_map, show putB 7 (zero16.set k (apHouse 3 b)) = true from apL_put hk16 b0 b1, show putS 7 (zero16.set k (apHouse 3 b)) = putS 7 (apL 3 k b) from rfl]
            clear HRU HIU HU z fz
            have HB3 : Hid (Below w.heap.size w w3) := HBU.out.trans (hb3.mono HBU.out.size)
            have HT3 : Hid (w3.heap[w.heap.size]? = some (.cells #[.string (apS 3 k a 0 1), .string (apS 3 k b 1 1)] 46 (0, 0))) := by
              show _ = _
              rw [hb3.block _ (Array.getElem?_eq_some_iff.1 HTU.out).1]
              exact HTU.out
            have t0 : w3.cell? ⟨w.heap.size, 1, none⟩ = some (.string ⟨#[]⟩) := by rw [cell_of_row w3 _ _ _ _ _ HT3.out]; rfl
            have ft : w3.frozen? ⟨w.heap.size, 1, none⟩ = false := frozen_of_row w3 _ _ _ _ HT3.out
            have HT4 : Hid ((w3.setCell ⟨w.heap.size, 1, none⟩ (.string (putS 7 (apL 3 k b)))).heap[w.heap.size]? = some (.cells #[.string (apS 3 k a 0 2), .string (apS 3 k b 1 2)] 46 (0, 0))) := heap_setCell_same w3 w.heap.size 1 _ _ _ HT3.out
            have HB4 : Hid (Below w.heap.size w (w3.setCell ⟨w.heap.size, 1, none⟩ (.string (putS 7 (apL 3 k b))))) := HB3.out.setCell (Nat.le_refl _) _
            generalize putS 7 (apL 3 k b) = S at *
            clear HT3 HTU HBU hb3
            go_wp2_with fail
            exact ⟨⟨2, by omega, rfl, HT4, HB4⟩, by simp [intOf]⟩
          · obtain ⟨ho1, ho2⟩ := HO2.out
            rcases ho2 with ⟨hsv, hz⟩ | ⟨g, cap, cur, rfl, hgb, hg, hle, hmx, hcs, htk⟩
            · exact absurd hz (by decide)
            have hgl : g < w2.heap.size := (Array.getElem?_eq_some_iff.1 hg).1
            have hcur : ∀ i (h : i < 9), cur[i]? = some (.int .i64 ((evens 9)[i]'(by rw [evens_length]; exact h))) := by
              intro i h
              rw [← icells_get (evens 9) i (by rw [evens_length]; exact h), ← htk, Nat.mul_one, List.getElem?_take_of_lt h, Array.getElem?_toList]
            have g8 : w2.cell? ⟨g, 8, none⟩ = some (.int .i64 16) := by
              rw [cell_of_row w2 g _ cur 3 _ hg, hcur 8 (by decide)]
              rfl
            have f8 : w2.frozen? ⟨g, 8, none⟩ = false := frozen_of_row w2 g _ cur 3 hg
            obtain ⟨U, hU⟩ : ∃ U, U = (w2.setCell ⟨g, 8, none⟩ (.int .i64 (500 + b))).drew := ⟨_, rfl⟩
            have hUg : U.heap[g]? = some (.cells (cur.set! 8 (.int .i64 (500 + b))) 3 (0, 0)) := by
              rw [hU]
              exact heap_setCell_same w2 g 8 cur 3 _ hg
            have HRU : Hid (HRow U W.heap.size (none16.set k (apHouse 4 b, .slice (some ⟨g, 0, none⟩) 9 cap))) := by
              rw [hU]
              show (World.setCell _ _ _).heap[W.heap.size]? = _
              rw [Below.heap_setCell _ _ _ _ (by show W.heap.size ≠ g; omega), hcells_swap none16 k (apHouse 4 b, .slice (some ⟨g, 0, none⟩) 9 cap) (⟨1, 1, apLim, evens 9⟩, .slice (some ⟨g, 0, none⟩) 9 cap) rfl]
              exact HR2.out
            have HIU : Hid (Ints U (.slice (some ⟨g, 0, none⟩) 9 cap) (apHouse 4 b).segs) := by
              refine ⟨some ⟨g, 0, none⟩, cap, rfl, (fun h => by cases h), fun _ => ⟨g, 0, rfl, (Array.getElem?_eq_some_iff.1 hUg).1, fun i h => ?_⟩⟩
              have h9 : i < 9 := h
              rw [cell_of_row U g _ _ 3 _ hUg, Nat.zero_add]
              have hsz : 8 < cur.size := by
                have := hcur 8 (by decide)
                exact (Array.getElem?_eq_some_iff.1 this).1
              rcases Nat.lt_or_ge i 8 with h8 | h8
              · rw [Array.set!_eq_setIfInBounds, Array.getElem?_setIfInBounds_ne (by omega), hcur i h9]
                have h10 : i = 0 ∨ i = 1 ∨ i = 2 ∨ i = 3 ∨ i = 4 ∨ i = 5 ∨ i = 6 ∨ i = 7 := by omega
                rcases h10 with rfl | rfl | rfl | rfl | rfl | rfl | rfl | rfl <;> rfl
              · have : i = 8 := by omega
                subst this
                rw [Array.set!_eq_setIfInBounds, Array.getElem?_setIfInBounds_self_of_lt hsz]
                rfl
            have HTU : Hid (U.heap[w.heap.size]? = some (.cells #[.string (apS 4 k a 0 1), .string (apS 4 k b 1 1)] 46 (0, 0))) := by
              rw [hU]
              show (World.setCell _ _ _).heap[w.heap.size]? = _
              rw [Below.heap_setCell _ _ _ _ (by show w.heap.size ≠ g; omega)]
              exact HT2.out
            have HBU : Hid (Below w.heap.size w U) := by rw [hU]; exact (HB2.out.setCell (show w.heap.size ≤ g by omega) _).drew
            have HU := tabhid hU
            clear hU HR2 HO2 HL2 HT2 HB2 HI2 hown hown2 hown3 hUg hcur htk hcs hmx hle hg
            go_wp2_with fail
            go_region
            rw [← HU.out]
            go_wp2_with fail
            refine (rput_t 7 W.heap.size _ U HRU.out (set_ints HIU.out) (by simp [none16_length]) (set_segs (by show 9 ≤ 1000; decide))).mono ?_
            rintro e w3 ⟨rfl, hb3⟩
            rw [set_map, show putB 7 (zero16.set k (apHouse 4 b)) = true from apL_put hk16 b0 b1, show putS 7 (zero16.set k (apHouse 4 b)) = putS 7 (apL 4 k b) from rfl]
            clear HRU HIU HU g8 f8
            have HB3 : Hid (Below w.heap.size w w3) := HBU.out.trans (hb3.mono HBU.out.size)
            have HT3 : Hid (w3.heap[w.heap.size]? = some (.cells #[.string (apS 4 k a 0 1), .string (apS 4 k b 1 1)] 46 (0, 0))) := by
              show _ = _
              rw [hb3.block _ (Array.getElem?_eq_some_iff.1 HTU.out).1]
              exact HTU.out
            have t0 : w3.cell? ⟨w.heap.size, 1, none⟩ = some (.string ⟨#[]⟩) := by rw [cell_of_row w3 _ _ _ _ _ HT3.out]; rfl
            have ft : w3.frozen? ⟨w.heap.size, 1, none⟩ = false := frozen_of_row w3 _ _ _ _ HT3.out
            have HT4 : Hid ((w3.setCell ⟨w.heap.size, 1, none⟩ (.string (putS 7 (apL 4 k b)))).heap[w.heap.size]? = some (.cells #[.string (apS 4 k a 0 2), .string (apS 4 k b 1 2)] 46 (0, 0))) := heap_setCell_same w3 w.heap.size 1 _ _ _ HT3.out
            have HB4 : Hid (Below w.heap.size w (w3.setCell ⟨w.heap.size, 1, none⟩ (.string (putS 7 (apL 4 k b))))) := HB3.out.setCell (Nat.le_refl _) _
            generalize putS 7 (apL 4 k b) = S at *
            clear HT3 HTU HBU hb3
            go_wp2_with fail
            exact ⟨⟨2, by omega, rfl, HT4, HB4⟩, by simp [intOf]⟩
          · have z : w2.cell? ⟨W.heap.size, k * 10, none⟩ = some (.int .i64 1) := by
              have := HR2.out.cell k 0 hrl (by decide)
              rw [apRow_get] at this
              exact this
            have fz : w2.frozen? ⟨W.heap.size, k * 10, none⟩ = false := HR2.out.frozen _
            obtain ⟨U, hU⟩ : ∃ U, U = w2.setCell ⟨W.heap.size, k * 10, none⟩ (.int .i64 (1 + b % 2)) := ⟨_, rfl⟩
            have HRU : Hid (HRow U W.heap.size (none16.set k (apHouse 5 b, sv))) := by
              have := HR2.out.set k 0 (.int .i64 (1 + b % 2)) (apHouse 5 b, sv) hrl (by decide) (by rw [apRow_get]; rfl)
              rw [apRow_set] at this
              rw [hU]
              exact this
            have HIU : Hid (Ints U sv (apHouse 5 b).segs) := by
              obtain ⟨sa, sc, hv, hn, hc⟩ := HI2.out
              refine ⟨sa, sc, hv, hn, fun hl => ?_⟩
              obtain ⟨sb, so, ha, hb, hcell⟩ := hc hl
              subst ha
              have hne : sb ≠ W.heap.size := fun h => hown (by rw [hv, ← h]; rfl)
              refine ⟨sb, so, rfl, by rw [hU]; simpa [World.setCell] using hb, fun i h => ?_⟩
              rw [hU, World.cell?_of_block (w := w2) (by show (World.setCell _ _ _).heap[sb]? = _; rw [Below.heap_setCell _ _ _ _ hne])]
              exact hcell i h
            have HTU : Hid (U.heap[w.heap.size]? = some (.cells #[.string (apS 5 k a 0 1), .string (apS 5 k b 1 1)] 46 (0, 0))) := by
              rw [hU]
              show _ = _
              rw [Below.heap_setCell _ _ _ _ (by show w.heap.size ≠ W.heap.size; omega)]
              exact HT2.out
            have HBU : Hid (Below w.heap.size w U) := by rw [hU]; exact HB2.out.setCell (show w.heap.size ≤ W.heap.size by omega) _
            have HU := tabhid hU
            clear hU HR2 HO2 HL2 HT2 HB2 HI2 hown hown2 hown3 c9 l0
            go_wp2_with fail
            rw [← HU.out]
            refine (rput_t 7 W.heap.size _ U HRU.out (set_ints HIU.out) (by simp [none16_length]) (set_segs (by show 9 ≤ 1000; decide))).mono ?_
            rintro e w3 ⟨rfl, hb3⟩
            rw [set_map, show putB 7 (zero16.set k (apHouse 5 b)) = true from apL_put hk16 b0 b1, show putS 7 (zero16.set k (apHouse 5 b)) = putS 7 (apL 5 k b) from rfl]
            clear HRU HIU HU z fz
            have HB3 : Hid (Below w.heap.size w w3) := HBU.out.trans (hb3.mono HBU.out.size)
            have HT3 : Hid (w3.heap[w.heap.size]? = some (.cells #[.string (apS 5 k a 0 1), .string (apS 5 k b 1 1)] 46 (0, 0))) := by
              show _ = _
              rw [hb3.block _ (Array.getElem?_eq_some_iff.1 HTU.out).1]
              exact HTU.out
            have t0 : w3.cell? ⟨w.heap.size, 1, none⟩ = some (.string ⟨#[]⟩) := by rw [cell_of_row w3 _ _ _ _ _ HT3.out]; rfl
            have ft : w3.frozen? ⟨w.heap.size, 1, none⟩ = false := frozen_of_row w3 _ _ _ _ HT3.out
            have HT4 : Hid ((w3.setCell ⟨w.heap.size, 1, none⟩ (.string (putS 7 (apL 5 k b)))).heap[w.heap.size]? = some (.cells #[.string (apS 5 k a 0 2), .string (apS 5 k b 1 2)] 46 (0, 0))) := heap_setCell_same w3 w.heap.size 1 _ _ _ HT3.out
            have HB4 : Hid (Below w.heap.size w (w3.setCell ⟨w.heap.size, 1, none⟩ (.string (putS 7 (apL 5 k b))))) := HB3.out.setCell (Nat.le_refl _) _
            generalize putS 7 (apL 5 k b) = S at *
            clear HT3 HTU HBU hb3
            go_wp2_with fail
            exact ⟨⟨2, by omega, rfl, HT4, HB4⟩, by simp [intOf]⟩
    · have T0 : wr.cell? ⟨w.heap.size, 0, none⟩ = some (.string (putS 7 (apL m k a))) := by rw [cell_of_row wr _ _ _ _ _ HT.out]; rfl
      have T1 : wr.cell? ⟨w.heap.size, 1, none⟩ = some (.string (putS 7 (apL m k b))) := by rw [cell_of_row wr _ _ _ _ _ HT.out]; rfl
      have INJ : Hid (putS 7 (apL m k a) = putS 7 (apL m k b) → apHouse m a = apHouse m b) := apL_inj hk16 a0 a1 b0 b1
      have CON : Hid (apHouse m a = apHouse m b → putS 7 (apL m k a) = putS 7 (apL m k b)) := fun h => by unfold apL; rw [h]
      generalize putS 7 (apL m k a) = S0 at *
      generalize putS 7 (apL m k b) = S1 at *
      clear HT
      go_wp2_with fail
      refine (PLm.out _).mono ?_
      rintro e w' ⟨rfl, rfl⟩
      by_cases h5 : m = 5
      · subst h5
        by_cases hab : a % 2 = b % 2
        · have HE : Hid (S0 = S1) := CON.out (ap_eq5.2 hab)
          have hq : (S0.toList == S1.toList) = true := by rw [HE.out]; simp
          have hab2 : (a % 2 == b % 2) = true := by rw [hab]; simp
          clear hab INJ CON
          go_wp2_with fail
          refine (awake_t _).mono ?_
          rintro e w3 ⟨rfl, hb3⟩
          have HB3 : Hid (Below w.heap.size w w3) := HB.out.trans (hb3.mono HB.out.size)
          clear hb3 HB
          go_wp2_with fail
          go_ret
          exact ⟨rfl, HB3.out⟩
        · have HN : Hid (S0 ≠ S1) := fun h => hab (ap_eq5.1 (INJ.out h))
          have hq : (S0.toList == S1.toList) = false := by
            rw [beq_eq_false_iff_ne]
            intro h
            apply HN.out
            rw [ByteArray.toList_eq, ByteArray.toList_eq] at h
            exact ByteArray.ext (Array.toList_inj.1 h)
          have hab2 : (a % 2 == b % 2) = false := by rw [beq_eq_false_iff_ne]; exact hab
          clear hab INJ CON
          go_wp2_with fail
          refine (awake_t _).mono ?_
          rintro e w3 ⟨rfl, hb3⟩
          have HB3 : Hid (Below w.heap.size w w3) := HB.out.trans (hb3.mono HB.out.size)
          clear hb3 HB
          go_wp2_with fail
          go_ret
          exact ⟨rfl, HB3.out⟩
      · have h5b : (m == 5) = false := by rw [beq_eq_false_iff_ne]; exact h5
        by_cases hab : a = b
        · have HE : Hid (S0 = S1) := CON.out (by rw [hab])
          have hq : (S0.toList == S1.toList) = true := by rw [HE.out]; simp
          have hab2 : (a == b) = true := by rw [hab]; simp
          clear hab INJ CON h5
          go_wp2_with fail
          refine (awake_t _).mono ?_
          rintro e w3 ⟨rfl, hb3⟩
          have HB3 : Hid (Below w.heap.size w w3) := HB.out.trans (hb3.mono HB.out.size)
          clear hb3 HB
          go_wp2_with fail
          go_ret
          exact ⟨rfl, HB3.out⟩
        · have HN : Hid (S0 ≠ S1) := fun h => hab (ap_eq m0 (by omega) (INJ.out h))
          have hq : (S0.toList == S1.toList) = false := by
            rw [beq_eq_false_iff_ne]
            intro h
            apply HN.out
            rw [ByteArray.toList_eq, ByteArray.toList_eq] at h
            exact ByteArray.ext (Array.toList_inj.1 h)
          have hab2 : (a == b) = false := by rw [beq_eq_false_iff_ne]; exact hab
          clear hab INJ CON h5
          go_wp2_with fail
          refine (awake_t _).mono ?_
          rintro e w3 ⟨rfl, hb3⟩
          have HB3 : Hid (Below w.heap.size w w3) := HB.out.trans (hb3.mono HB.out.size)
          clear hb3 HB
          go_wp2_with fail
          go_ret
          exact ⟨rfl, HB3.out⟩
end Go.Proofs.Ytdhdjnpgebddmaa
