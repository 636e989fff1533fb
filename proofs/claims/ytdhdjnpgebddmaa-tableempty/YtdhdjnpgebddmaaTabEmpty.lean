/- TableEmpty walked: numbers, generations, states that may be, and beyond. -/
import Derived.Test.YtdhdjnpgebddmaaTabAwake
namespace Go.Proofs.Ytdhdjnpgebddmaa
open Go.RowKit Tab

/-- Sixteen houses that are none; of the first so many the generations are told. -/
def genOne (j i : Nat) : Ho × Value := (⟨0, if i < j then 65535 - (i : Int) else 0, Lm.z, []⟩, .slice none 0 0)
def genRow (j : Nat) : List (Ho × Value) := (List.range 16).map (genOne j)
theorem genRow_zero : genRow 0 = none16 := by
  apply List.ext_getElem
  · simp [genRow, none16]
  · intro i h1 h2
    simp only [genRow, genOne, List.getElem_map, List.getElem_range]
    rw [show none16[i] = (Ho.z, .slice none 0 0) from List.getElem_replicate ..]
    simp [Ho.z]
theorem genRow_length (j : Nat) : (genRow j).length = 16 := by simp [genRow]
theorem genRow_succ (j : Nat) (_hj : j < 16) : genRow (j + 1) = (genRow j).set j (⟨0, 65535 - (j : Int), Lm.z, []⟩, .slice none 0 0) := by
  apply List.ext_getElem
  · simp [genRow]
  · intro i h1 h2
    rw [List.getElem_set]
    split
    · next h => subst h; simp [genRow, genOne]
    · next h =>
      have e : (i < j + 1) ↔ (i < j) := by omega
      simp [genRow, genOne, e]
theorem genRow_get (j i : Nat) (hi : i < (genRow j).length) : (genRow j)[i] = genOne j i := by simp [genRow]
theorem genRow_ints (j : Nat) (w : World) : ∀ p ∈ genRow j, Ints w p.2 p.1.segs := by
  intro p hp
  obtain ⟨i, _, rfl⟩ := List.mem_map.1 hp
  exact Ints.nil w
theorem genRow_segs (j : Nat) : ∀ p ∈ genRow j, p.1.segs.length ≤ 1000 := by
  intro p hp
  obtain ⟨i, _, rfl⟩ := List.mem_map.1 hp
  show 0 ≤ 1000
  decide
theorem genRow_set_ints {w : World} {k : Nat} {q : Ho × Value} (hq : Ints w q.2 q.1.segs) : ∀ p ∈ (genRow 16).set k q, Ints w p.2 p.1.segs := by
  intro p hp
  rcases List.mem_or_eq_of_mem_set hp with hp | rfl
  · exact genRow_ints 16 w p hp
  · exact hq
theorem genRow_set_segs {k : Nat} {q : Ho × Value} (hq : q.1.segs.length ≤ 1000) : ∀ p ∈ (genRow 16).set k q, p.1.segs.length ≤ 1000 := by
  intro p hp
  rcases List.mem_or_eq_of_mem_set hp with hp | rfl
  · exact genRow_segs 16 p hp
  · exact hq
/-- The houses of it. -/
def genL : List Ho := (List.range 16).map fun (i : Nat) => (⟨0, 65535 - (i : Int), Lm.z, []⟩ : Ho)
theorem genRow_map : (genRow 16).map (·.1) = genL := by
  apply List.ext_getElem
  · simp [genRow, genL]
  · intro i h1 h2
    have : i < 16 := by simpa [genRow] using h1
    simp [genRow, genL, genOne, this]
theorem genL_length : genL.length = 16 := by simp [genL]
theorem genL_put {num : Int} (h0 : 0 ≤ num) (h1 : num ≤ 1099511627776) : putB num genL = true := by
  have e : checkB 65536 genL = true := by decide
  unfold putB
  rw [inB_yes h0 h1, e]
  rfl
theorem genL_no {n : Int} {k : Nat} {q : Ho × Value} (hk : k < 16) (h : houseB n q.1 = false) : checkB n (((genRow 16).set k q).map (·.1)) = false := by
  have hl : k < (((genRow 16).set k q).map (·.1)).length := by simp [genRow_length, hk]
  refine check_one (k := k) hl ?_
  have : (((genRow 16).set k q).map (·.1))[k] = q.1 := by simp
  rw [this]
  exact h
theorem Houses.take {w : World} {ad : Option Addr} {n cap cap' c : Nat} {l : List Ho} (h : Houses w (.slice ad n cap) l) (hc : c ≤ l.length) : Houses w (.slice ad c cap') (l.take c) := by
  obtain ⟨ad', k', he, hcl⟩ := h
  simp only [Value.slice.injEq] at he
  obtain ⟨rfl, -, rfl⟩ := he
  refine ⟨ad, cap', by rw [List.length_take, Nat.min_eq_left hc], fun hp => ?_⟩
  rw [List.length_take] at hp
  obtain ⟨b, off, ha, hb, hi⟩ := hcl (by omega)
  refine ⟨b, off, ha, hb, fun i h => ?_⟩
  have : i < l.length := by rw [List.length_take] at h; omega
  rw [List.getElem_take]
  exact hi i this
theorem short_no {n : Int} {l : List Ho} (h : l.length ≠ 16) : checkB n l = false := by
  unfold checkB
  rw [decide_eq_false h]
  rfl
theorem num_no {num : Int} {l : List Ho} (h : ¬ (0 ≤ num ∧ num ≤ 1099511627776)) : putB num l = false := by
  have : inB num 0 1099511627776 = false := by simp only [inB, decide_eq_false_iff_not]; exact h
  unfold putB
  rw [this]
  rfl

set_option maxRecDepth 4000 in
set_option maxHeartbeats 4000000 in
theorem tableEmpty_t (num how v : Int) (w : World) :
    Calls Try.prog 6 #[.int .i64 num, .int .i64 how, .int .i64 v] w fun e w' => e = .returned (.bool true) ∧ Below w.heap.size w w' := by
  have h1 := Int.emod_nonneg v (show (1000 : Int) ≠ 0 by decide)
  have h2 := Int.emod_lt_of_pos v (show (0 : Int) < 1000 by decide)
  have h3 := Int.emod_nonneg how (show (6 : Int) ≠ 0 by decide)
  have h4 := Int.emod_lt_of_pos how (show (0 : Int) < 6 by decide)
  have h5 := Int.emod_nonneg num (show (1099511627776 : Int) ≠ 0 by decide)
  have h6 := Int.emod_lt_of_pos num (show (0 : Int) < 1099511627776 by decide)
  have PL1 := tabhid (fun w => gplace_t v 1000 w (by decide) (by decide))
  have PL2 := tabhid (fun w => gplace_t how 6 w (by decide) (by decide))
  have PL3 := tabhid (fun w => gplace_t num 1099511627776 w (by decide) (by decide))
  generalize v % 1000 = k at *
  generalize how % 6 = m at *
  generalize num % 1099511627776 = n at *
  have hmk := make16 w
  obtain ⟨V, hV⟩ : ∃ V, V = w.alloc (.cells none16c 42) := ⟨_, rfl⟩
  rw [← hV] at hmk
  have HR0 : Hid (HRow V w.heap.size (genRow 0)) := by rw [hV, genRow_zero]; exact none16_row w
  have HB0 : Hid (Below w.heap.size w V) := by rw [hV]; exact (Below.refl _ w).alloc (Nat.le_refl _) _
  clear hV
  go_enter Try.func6, Try.ntmps6
  go_wp2_with fail
  refine (PL1.out _).mono ?_
  rintro e w' ⟨rfl, rfl⟩
  clear PL1
  go_wp2_with fail
  go_loopw [9] (fun c wr => ∃ (i : Nat), i ≤ 16 ∧ c = .int .i64 i ∧ Hid (HRow wr w.heap.size (genRow i)) ∧ Hid (Below w.heap.size w wr)) (fun c _ => 16 - (intOf c).toNat)
  case atStart => exact ⟨0, by omega, rfl, HR0, HB0⟩
  case round =>
    clear HR0 HB0 hmk
    obtain ⟨i, hi, rfl, HR, HB⟩ := hrel
    by_cases hlt : i < 16
    · have hgl : i < (genRow i).length := by rw [genRow_length]; exact hlt
      have hz : wr.cell? ⟨w.heap.size, i * 10 + 1, none⟩ = some (.int .i64 0) := by
        rw [HR.out.cell i 1 hgl (by decide), genRow_get]
        simp [genOne, houseCells]
      have fz : wr.frozen? ⟨w.heap.size, i * 10 + 1, none⟩ = false := HR.out.frozen _
      have HR2 : Hid (HRow (wr.setCell ⟨w.heap.size, i * 10 + 1, none⟩ (.int .i64 (65535 - (i : Int)))) w.heap.size (genRow (i + 1))) := by
        show HRow _ _ _
        rw [genRow_succ i hlt]
        exact HR.out.set i 1 _ _ hgl (by decide) (by rw [genRow_get]; simp [genOne, houseCells])
      have HB2 : Hid (Below w.heap.size w (wr.setCell ⟨w.heap.size, i * 10 + 1, none⟩ (.int .i64 (65535 - (i : Int))))) := HB.out.setCell (Nat.le_refl _) _
      go_wp2_with fail
      exact ⟨⟨i + 1, by omega, by go_num, HR2, HB2⟩, by simp [intOf]; omega⟩
    · have hi16 : i = 16 := by omega
      subst hi16
      have PUT := tabhid (rput_t n w.heap.size (genRow 16) wr HR.out (genRow_ints 16 wr) (genRow_length 16) (genRow_segs 16))
      rw [genRow_map, genL_put h5 (by omega)] at PUT
      have GET := tabhid (fun w1 => rget_t n genL w1 (genL_put h5 (by omega)))
      generalize putS n genL = S at *
      go_wp2_with fail
      refine (PL3.out _).mono ?_
      rintro e w' ⟨rfl, rfl⟩
      clear PL3
      go_wp2_with fail
      refine PUT.out.mono ?_
      rintro e w1 ⟨rfl, hb1⟩
      have HR1 := tabhid (HR.out.on hb1)
      have HB1 : Hid (Below w.heap.size w w1) := HB.out.trans (hb1.mono HB.out.size)
      clear hb1 HR HB PUT
      go_wp2_with fail
      refine (GET.out _).mono ?_
      rintro e w2 ⟨⟨ad, cap, rfl, hh⟩, hb2⟩
      have HR2 := tabhid (HR1.out.on hb2)
      have HB2 : Hid (Below w.heap.size w w2) := HB1.out.trans (hb2.mono HB1.out.size)
      obtain ⟨ad', cap', he, hc⟩ := hh
      simp only [Value.slice.injEq] at he
      obtain ⟨rfl, -, rfl⟩ := he
      obtain ⟨b, off, rfl, hb, hcell⟩ := hc (by rw [genL_length]; decide)
      obtain ⟨sv, hh3⟩ := hcell 3 (by rw [genL_length]; decide)
      have g3 : w2.cell? ⟨b, off + 31, none⟩ = some (.int .i64 65532) := hh3.2.1
      have g4 : w2.cell? ⟨b, off + 30 + 1, none⟩ = some (.int .i64 65532) := g3
      clear hh3 hcell hc hb2 HR1 HB1 GET
      go_wp2_with fail
      refine (PL2.out _).mono ?_
      rintro e w' ⟨rfl, rfl⟩
      clear PL2 g3 g4
      have hm : m = 0 ∨ m = 1 ∨ m = 2 ∨ m = 3 ∨ m = 4 ∨ m = 5 := by omega
      rcases hm with rfl | rfl | rfl | rfl | rfl | rfl
      · have z : w2.cell? ⟨w.heap.size, 51, none⟩ = some (.int .i64 65530) := HR2.out.cell 5 1 (by rw [genRow_length]; decide) (by decide)
        have fz : w2.frozen? ⟨w.heap.size, 51, none⟩ = false := HR2.out.frozen _
        have HX : Hid (houseB 65536 ⟨0, 65535 + (1 + k), Lm.z, []⟩ = false) := by show _ = _; simp only [houseB, inB_no (show ¬ (0 ≤ 65535 + (1 + k) ∧ 65535 + (1 + k) ≤ 65535) by omega), Bool.and_false, Bool.false_and]
        have HR3 : Hid (HRow (w2.setCell ⟨w.heap.size, 51, none⟩ (.int .i64 (65535 + (1 + k)))) w.heap.size ((genRow 16).set 5 (⟨0, 65535 + (1 + k), Lm.z, []⟩, .slice none 0 0))) :=
          HR2.out.set 5 1 (.int .i64 (65535 + (1 + k))) (⟨0, 65535 + (1 + k), Lm.z, []⟩, .slice none 0 0) (by rw [genRow_length]; decide) (by decide) (by rw [genRow_get]; rfl)
        go_wp2_with fail
        refine (rput_t n w.heap.size _ _ HR3.out (genRow_set_ints (Ints.nil _)) (by simp [genRow_length]) (genRow_set_segs (by show 0 ≤ 1000; decide))).mono ?_
        rintro e w3 ⟨rfl, hb3⟩
        rw [put_check (genL_no (by decide) HX.out)]
        have HB3 : Hid (Below w.heap.size w w3) := (HB2.out.setCell (Nat.le_refl _) _).trans (hb3.mono (by simp [World.setCell]; have := HB2.out.size; omega))
        clear HR3 z fz HX HR2 HB2
        clear hb3
        have hmk := make16 w3
        obtain ⟨V, hV⟩ : ∃ V, V = w3.alloc (.cells none16c 42) := ⟨_, rfl⟩
        rw [← hV] at hmk
        have HR4 : Hid (HRow V w3.heap.size none16) := by rw [hV]; exact none16_row w3
        have HB4 : Hid (Below w.heap.size w V) := by rw [hV]; exact HB3.out.alloc HB3.out.size _
        clear hV HB3
        go_wp2_with fail
        refine (rput_t (-(1 + k)) w3.heap.size none16 V HR4.out (none16_ints _) none16_length (fun x hx => by rw [List.eq_of_mem_replicate hx]; decide)).mono ?_
        rintro e w5 ⟨rfl, hb5⟩
        rw [num_no (num := -(1 + k)) (by omega)]
        have HB5 : Hid (Below w.heap.size w w5) := HB4.out.trans (hb5.mono HB4.out.size)
        clear hb5 HB4 HR4 hmk
        go_wp2_with fail
        refine (awake_t _).mono ?_
        rintro e w6 ⟨rfl, hb6⟩
        have HB6 : Hid (Below w.heap.size w w6) := HB5.out.trans (hb6.mono HB5.out.size)
        clear hb6 HB5
        go_wp2_with fail
        go_ret
        exact ⟨rfl, HB6.out⟩
      · have z : w2.cell? ⟨w.heap.size, 50, none⟩ = some (.int .i64 0) := HR2.out.cell 5 0 (by rw [genRow_length]; decide) (by decide)
        have fz : w2.frozen? ⟨w.heap.size, 50, none⟩ = false := HR2.out.frozen _
        have HX : Hid (houseB 65536 ⟨2 + (1 + k), 65530, Lm.z, []⟩ = false) := by show _ = _; simp only [houseB, inB_no (show ¬ (0 ≤ 2 + (1 + k) ∧ 2 + (1 + k) ≤ 2) by omega), Bool.false_and]
        have HR3 : Hid (HRow (w2.setCell ⟨w.heap.size, 50, none⟩ (.int .i64 (2 + (1 + k)))) w.heap.size ((genRow 16).set 5 (⟨2 + (1 + k), 65530, Lm.z, []⟩, .slice none 0 0))) :=
          HR2.out.set 5 0 (.int .i64 (2 + (1 + k))) (⟨2 + (1 + k), 65530, Lm.z, []⟩, .slice none 0 0) (by rw [genRow_length]; decide) (by decide) (by rw [genRow_get]; rfl)
        go_wp2_with fail
        refine (rput_t n w.heap.size _ _ HR3.out (genRow_set_ints (Ints.nil _)) (by simp [genRow_length]) (genRow_set_segs (by show 0 ≤ 1000; decide))).mono ?_
        rintro e w3 ⟨rfl, hb3⟩
        rw [put_check (genL_no (by decide) HX.out)]
        have HB3 : Hid (Below w.heap.size w w3) := (HB2.out.setCell (Nat.le_refl _) _).trans (hb3.mono (by simp [World.setCell]; have := HB2.out.size; omega))
        clear HR3 z fz HX HR2 HB2
        clear hb3
        have hmk := make16 w3
        obtain ⟨V, hV⟩ : ∃ V, V = w3.alloc (.cells none16c 42) := ⟨_, rfl⟩
        rw [← hV] at hmk
        have HR4 : Hid (HRow V w3.heap.size none16) := by rw [hV]; exact none16_row w3
        have HB4 : Hid (Below w.heap.size w V) := by rw [hV]; exact HB3.out.alloc HB3.out.size _
        clear hV HB3
        go_wp2_with fail
        refine (rput_t (-(1 + k)) w3.heap.size none16 V HR4.out (none16_ints _) none16_length (fun x hx => by rw [List.eq_of_mem_replicate hx]; decide)).mono ?_
        rintro e w5 ⟨rfl, hb5⟩
        rw [num_no (num := -(1 + k)) (by omega)]
        have HB5 : Hid (Below w.heap.size w w5) := HB4.out.trans (hb5.mono HB4.out.size)
        clear hb5 HB4 HR4 hmk
        go_wp2_with fail
        refine (awake_t _).mono ?_
        rintro e w6 ⟨rfl, hb6⟩
        have HB6 : Hid (Below w.heap.size w w6) := HB5.out.trans (hb6.mono HB5.out.size)
        clear hb6 HB5
        go_wp2_with fail
        go_ret
        exact ⟨rfl, HB6.out⟩
      · have z : w2.cell? ⟨w.heap.size, 59, none⟩ = some (.slice none 0 0) := HR2.out.cell 5 9 (by rw [genRow_length]; decide) (by decide)
        have fz : w2.frozen? ⟨w.heap.size, 59, none⟩ = false := HR2.out.frozen _
        have hlt2 : w.heap.size < w2.heap.size := HR2.out.lt
        have hne : ¬ w.heap.size = w2.heap.size := by omega
        have HX : Hid (houseB 65536 ⟨0, 65530, Lm.z, [1 + k]⟩ = false) := by show _ = _; simp [houseB]
        obtain ⟨U, hU⟩ : ∃ U, U = (w2.setCell ⟨w.heap.size, 59, none⟩ (.slice (some ⟨w2.heap.size, 0, none⟩) 1 1)).alloc (.cells #[.int .i64 (1 + k)] 3) := ⟨_, rfl⟩
        have HI3 : Hid (Ints U (.slice (some ⟨w2.heap.size, 0, none⟩) 1 1) [1 + k]) := by
          rw [hU]
          refine ⟨some ⟨w2.heap.size, 0, none⟩, 1, rfl, (fun h => by cases h), fun _ => ⟨w2.heap.size, 0, rfl, by simp [World.setCell], fun i h => ?_⟩⟩
          have : i = 0 := by simpa using h
          subst this
          have hs : (w2.setCell ⟨w.heap.size, 59, none⟩ (.slice (some ⟨w2.heap.size, 0, none⟩) 1 1)).heap.size = w2.heap.size := by simp [World.setCell]
          rw [cell_of_row _ _ _ #[.int .i64 (1 + k)] 3 _ (alloc_at hs)]
          rfl
        have HR3 : Hid (HRow U w.heap.size ((genRow 16).set 5 (⟨0, 65530, Lm.z, [1 + k]⟩, .slice (some ⟨w2.heap.size, 0, none⟩) 1 1))) := by
          rw [hU]
          exact (HR2.out.set 5 9 _ (⟨0, 65530, Lm.z, [1 + k]⟩, .slice (some ⟨w2.heap.size, 0, none⟩) 1 1) (by rw [genRow_length]; decide) (by decide) (by rw [genRow_get]; rfl)).on ((Below.refl _ _).alloc (Nat.le_refl _) _)
        have HBU : Hid (Below w.heap.size w U) := by rw [hU]; exact (HB2.out.setCell (Nat.le_refl _) _).alloc (by simp [World.setCell]; have := HB2.out.size; omega) _
        have HU := tabhid hU
        clear hU
        go_wp2_with fail
        rw [← HU.out]
        refine (rput_t n w.heap.size _ U HR3.out (genRow_set_ints HI3.out) (by simp [genRow_length]) (genRow_set_segs (by show 1 ≤ 1000; decide))).mono ?_
        rintro e w3 ⟨rfl, hb3⟩
        rw [put_check (genL_no (by decide) HX.out)]
        have HB3 : Hid (Below w.heap.size w w3) := HBU.out.trans (hb3.mono HBU.out.size)
        clear HR3 z fz HX HR2 HB2 HI3 HBU HU
        clear hb3
        have hmk := make16 w3
        obtain ⟨V, hV⟩ : ∃ V, V = w3.alloc (.cells none16c 42) := ⟨_, rfl⟩
        rw [← hV] at hmk
        have HR4 : Hid (HRow V w3.heap.size none16) := by rw [hV]; exact none16_row w3
        have HB4 : Hid (Below w.heap.size w V) := by rw [hV]; exact HB3.out.alloc HB3.out.size _
        clear hV HB3
        go_wp2_with fail
        refine (rput_t (-(1 + k)) w3.heap.size none16 V HR4.out (none16_ints _) none16_length (fun x hx => by rw [List.eq_of_mem_replicate hx]; decide)).mono ?_
        rintro e w5 ⟨rfl, hb5⟩
        rw [num_no (num := -(1 + k)) (by omega)]
        have HB5 : Hid (Below w.heap.size w w5) := HB4.out.trans (hb5.mono HB4.out.size)
        clear hb5 HB4 HR4 hmk
        go_wp2_with fail
        refine (awake_t _).mono ?_
        rintro e w6 ⟨rfl, hb6⟩
        have HB6 : Hid (Below w.heap.size w w6) := HB5.out.trans (hb6.mono HB5.out.size)
        clear hb6 HB5
        go_wp2_with fail
        go_ret
        exact ⟨rfl, HB6.out⟩
      · have z : w2.cell? ⟨w.heap.size, 57, none⟩ = some (.int .i64 0) := HR2.out.cell 5 7 (by rw [genRow_length]; decide) (by decide)
        have fz : w2.frozen? ⟨w.heap.size, 57, none⟩ = false := HR2.out.frozen _
        have HX : Hid (houseB 65536 ⟨0, 65530, ⟨0, 0, 0, 0, 0, 1 + k, 0⟩, []⟩ = false) := by show _ = _; simp [houseB, zeroB, Lm.z, (show ¬ (1 + k = 0) by omega)]
        have HR3 : Hid (HRow (w2.setCell ⟨w.heap.size, 57, none⟩ (.int .i64 (1 + k))) w.heap.size ((genRow 16).set 5 (⟨0, 65530, ⟨0, 0, 0, 0, 0, 1 + k, 0⟩, []⟩, .slice none 0 0))) :=
          HR2.out.set 5 7 (.int .i64 (1 + k)) (⟨0, 65530, ⟨0, 0, 0, 0, 0, 1 + k, 0⟩, []⟩, .slice none 0 0) (by rw [genRow_length]; decide) (by decide) (by rw [genRow_get]; rfl)
        go_wp2_with fail
        refine (rput_t n w.heap.size _ _ HR3.out (genRow_set_ints (Ints.nil _)) (by simp [genRow_length]) (genRow_set_segs (by show 0 ≤ 1000; decide))).mono ?_
        rintro e w3 ⟨rfl, hb3⟩
        rw [put_check (genL_no (by decide) HX.out)]
        have HB3 : Hid (Below w.heap.size w w3) := (HB2.out.setCell (Nat.le_refl _) _).trans (hb3.mono (by simp [World.setCell]; have := HB2.out.size; omega))
        clear HR3 z fz HX HR2 HB2
        clear hb3
        have hmk := make16 w3
        obtain ⟨V, hV⟩ : ∃ V, V = w3.alloc (.cells none16c 42) := ⟨_, rfl⟩
        rw [← hV] at hmk
        have HR4 : Hid (HRow V w3.heap.size none16) := by rw [hV]; exact none16_row w3
        have HB4 : Hid (Below w.heap.size w V) := by rw [hV]; exact HB3.out.alloc HB3.out.size _
        clear hV HB3
        go_wp2_with fail
        refine (rput_t (-(1 + k)) w3.heap.size none16 V HR4.out (none16_ints _) none16_length (fun x hx => by rw [List.eq_of_mem_replicate hx]; decide)).mono ?_
        rintro e w5 ⟨rfl, hb5⟩
        rw [num_no (num := -(1 + k)) (by omega)]
        have HB5 : Hid (Below w.heap.size w w5) := HB4.out.trans (hb5.mono HB4.out.size)
        clear hb5 HB4 HR4 hmk
        go_wp2_with fail
        refine (awake_t _).mono ?_
        rintro e w6 ⟨rfl, hb6⟩
        have HB6 : Hid (Below w.heap.size w w6) := HB5.out.trans (hb6.mono HB5.out.size)
        clear hb6 HB5
        go_wp2_with fail
        go_ret
        exact ⟨rfl, HB6.out⟩
      · have hq0 := Int.emod_nonneg (1 + k) (show (15 : Int) ≠ 0 by decide)
        have hq1 := Int.emod_lt_of_pos (1 + k) (show (0 : Int) < 15 by decide)
        obtain ⟨c, hc⟩ : ∃ c : Nat, (c : Int) = 16 - 1 - (1 + k) % 15 := ⟨(16 - 1 - (1 + k) % 15).toNat, by omega⟩
        have hc2 : (16 : Int) - 1 - (1 + k) % 15 = (c : Int) := by omega
        have hc3 : (15 : Int) - (1 + k) % 15 = (c : Int) := by omega
        have hc1 : c ≤ 15 := by omega
        have HH3 : Hid (Houses w2 (.slice (some ⟨w.heap.size, 0, none⟩) c 16) (genL.take c)) := by
          have := HR2.out.houses (cap := 16) (genRow_ints 16 w2)
          rw [genRow_map] at this
          exact this.take (by rw [genL_length]; omega)
        have HN : Hid (checkB 65536 (genL.take c) = false) := short_no (by rw [List.length_take, genL_length]; omega)
        have hc4 : (15 - (1 + k) % 15).toNat = c := by omega
        have HC4 := tabhid hc4
        clear hc hc2 hc3 hc4
        go_wp2_with fail
        rw [HC4.out]
        refine (tput_t n (genL.take c) _ w2 HH3.out (by rw [List.length_take, genL_length]; omega) (fun x hx => by
          obtain ⟨i, _, rfl⟩ := List.mem_map.1 (List.mem_of_mem_take hx)
          show 0 ≤ _
          omega)).mono ?_
        rintro e w3 ⟨rfl, hb3⟩
        rw [put_check HN.out]
        have HB3 : Hid (Below w.heap.size w w3) := HB2.out.trans (hb3.mono HB2.out.size)
        clear HR2 HB2 HH3 HN
        clear hb3
        have hmk := make16 w3
        obtain ⟨V, hV⟩ : ∃ V, V = w3.alloc (.cells none16c 42) := ⟨_, rfl⟩
        rw [← hV] at hmk
        have HR4 : Hid (HRow V w3.heap.size none16) := by rw [hV]; exact none16_row w3
        have HB4 : Hid (Below w.heap.size w V) := by rw [hV]; exact HB3.out.alloc HB3.out.size _
        clear hV HB3
        go_wp2_with fail
        refine (rput_t (-(1 + k)) w3.heap.size none16 V HR4.out (none16_ints _) none16_length (fun x hx => by rw [List.eq_of_mem_replicate hx]; decide)).mono ?_
        rintro e w5 ⟨rfl, hb5⟩
        rw [num_no (num := -(1 + k)) (by omega)]
        have HB5 : Hid (Below w.heap.size w w5) := HB4.out.trans (hb5.mono HB4.out.size)
        clear hb5 HB4 HR4 hmk
        go_wp2_with fail
        refine (awake_t _).mono ?_
        rintro e w6 ⟨rfl, hb6⟩
        have HB6 : Hid (Below w.heap.size w w6) := HB5.out.trans (hb6.mono HB5.out.size)
        clear hb6 HB5
        go_wp2_with fail
        go_ret
        exact ⟨rfl, HB6.out⟩
      · go_wp2_with fail
        refine (rput_t (1099511627776 + (1 + k)) w.heap.size (genRow 16) _ HR2.out (genRow_ints 16 _) (genRow_length 16) (genRow_segs 16)).mono ?_
        rintro e w3 ⟨rfl, hb3⟩
        rw [num_no (num := 1099511627776 + (1 + k)) (by omega)]
        have HB3 : Hid (Below w.heap.size w w3) := HB2.out.trans (hb3.mono HB2.out.size)
        clear HR2 HB2
        clear hb3
        have hmk := make16 w3
        obtain ⟨V, hV⟩ : ∃ V, V = w3.alloc (.cells none16c 42) := ⟨_, rfl⟩
        rw [← hV] at hmk
        have HR4 : Hid (HRow V w3.heap.size none16) := by rw [hV]; exact none16_row w3
        have HB4 : Hid (Below w.heap.size w V) := by rw [hV]; exact HB3.out.alloc HB3.out.size _
        clear hV HB3
        go_wp2_with fail
        refine (rput_t (-(1 + k)) w3.heap.size none16 V HR4.out (none16_ints _) none16_length (fun x hx => by rw [List.eq_of_mem_replicate hx]; decide)).mono ?_
        rintro e w5 ⟨rfl, hb5⟩
        rw [num_no (num := -(1 + k)) (by omega)]
        have HB5 : Hid (Below w.heap.size w w5) := HB4.out.trans (hb5.mono HB4.out.size)
        clear hb5 HB4 HR4 hmk
        go_wp2_with fail
        refine (awake_t _).mono ?_
        rintro e w6 ⟨rfl, hb6⟩
        have HB6 : Hid (Below w.heap.size w w6) := HB5.out.trans (hb6.mono HB5.out.size)
        clear hb6 HB5
        go_wp2_with fail
        go_ret
        exact ⟨rfl, HB6.out⟩
end Go.Proofs.Ytdhdjnpgebddmaa
