/- The houses of bytes: getNumber, getHouse walked. -/
import Derived.Test.YtdhdjnpgebddmaaTabPut
import Derived.Deep.AppendLies
namespace Go.Proofs.Ytdhdjnpgebddmaa
open Go.RowKit Tab

theorem tabPair2 {a b c d : Int} (h1 : a = b) (h2 : c = d) : Ending.returned (.tuple #[.int .i64 a, .int .i64 c]) = .returned (.tuple #[.int .i64 b, .int .i64 d]) := by rw [h1, h2]

set_option maxHeartbeats 400000 in
theorem getNumber_t (s : ByteArray) (a n : Int) (w : World) (h0 : 0 ≤ n) (hn : n ≤ 7) (ha0 : 0 ≤ a) (ha : a + n ≤ s.size) (hl : s.size ≤ 4611686018427387904) :
    Calls Try.prog 33 #[.string s, .int .i64 a, .int .i64 n] w fun e w' => e = .returned (.tuple #[.int .i64 (numAt s.data.toList a.toNat n.toNat), .int .i64 (a + n)]) ∧ w = w' := by
  have G := tabhid (get_t s a.toNat n.toNat w (by omega) (by omega) (by omega))
  rw [show ((a.toNat : Nat) : Int) = a by omega, show ((n.toNat : Nat) : Int) = n by omega] at G
  have HN : Hid ((Bin.num (part s a.toNat n.toNat) : Nat) = numAt s.data.toList a.toNat n.toNat) := rfl
  generalize numAt s.data.toList a.toNat n.toNat = V at *
  generalize ((Bin.num (part s a.toNat n.toNat) : Nat) : Int) = V2 at *
  go_enter Try.func33, Try.ntmps33
  go_wp2_with fail
  refine G.out.mono ?_
  rintro e w1 ⟨rfl, rfl⟩
  go_wp2_with fail
  go_ret2
  exact ⟨tabPair2 HN.out rfl, rfl⟩

/-- A slice of numbers lies in a row of numbers that is nobody's text. -/
def IntRow (w : World) (v : Value) : Prop := ∀ g, v.ownBlock = some g → ∃ c, w.heap[g]? = some (.cells c 3 (0, 0))

/-- A house's cells behind k of its numbers. -/
def gotCells (x : Ho) (k : Nat) : Array Value := #[.int .i64 (if 0 < k then x.st else 0), .int .i64 (if 1 < k then x.gen else 0), .int .i64 (if 2 < k then x.lim.s else 0), .int .i64 (if 3 < k then x.lim.hb else 0), .int .i64 (if 4 < k then x.lim.sb else 0), .int .i64 (if 5 < k then x.lim.hn else 0), .int .i64 (if 6 < k then x.lim.sn else 0), .int .i64 (if 7 < k then x.lim.gr else 0), .int .i64 (if 8 < k then x.lim.bu else 0), .slice none 0 0]

set_option maxRecDepth 10000 in
set_option maxHeartbeats 4000000 in
theorem getHouse_t (s : ByteArray) (a : Nat) (w : World) (ha : a + 101 ≤ s.size) (hl : s.size ≤ 4611686018427387904) :
    Calls Try.prog 34 #[.string s, .int .i64 a] w fun e w' => ∃ v, e = .returned (.tuple #[houseV (houseAt s.data.toList a) v, .int .i64 ((a : Int) + 101)]) ∧ Ints w' v (houseAt s.data.toList a).segs ∧ IntRow w' v ∧ Below w.heap.size w w' := by
  obtain ⟨i0, hi0, hz0, hz1, hz2⟩ := info_parts Try.tabInfo3
  obtain ⟨x, hx⟩ : ∃ x, x = houseAt s.data.toList a := ⟨_, rfl⟩
  rw [← hx]
  have x0 : Hid (numAt s.data.toList a 1 = x.st) := by rw [hx]; rfl
  have x1 : Hid (numAt s.data.toList (a + 1) 2 = x.gen) := by rw [hx]; rfl
  have x2 : Hid (numAt s.data.toList (a + 3) 1 = x.lim.s) := by rw [hx]; rfl
  have x3 : Hid (numAt s.data.toList (a + 4) 3 = x.lim.hb) := by rw [hx]; rfl
  have x4 : Hid (numAt s.data.toList (a + 7) 3 = x.lim.sb) := by rw [hx]; rfl
  have x5 : Hid (numAt s.data.toList (a + 10) 1 = x.lim.hn) := by rw [hx]; rfl
  have x6 : Hid (numAt s.data.toList (a + 11) 1 = x.lim.sn) := by rw [hx]; rfl
  have x7 : Hid (numAt s.data.toList (a + 12) 6 = x.lim.gr) := by rw [hx]; rfl
  have x8 : Hid (numAt s.data.toList (a + 18) 2 = x.lim.bu) := by rw [hx]; rfl
  have x9 : Hid (x.segs = segsAt s.data.toList (a + 21) (min (numAt s.data.toList (a + 20) 1).toNat 40)) := by rw [hx]; rfl
  clear hx
  go_enter Try.func34, Try.ntmps34
  go_wp2_with fail
  refine (fields_t _).mono ?_
  rintro e w1 ⟨rfl, rfl⟩
  go_wp2_with fail
  go_loopw [1, 14] (fun p c wr => ∃ (k : Nat), k ≤ 9 ∧ c = .int .i64 k ∧ p = .int .i64 ((a : Int) + ([0, 1, 3, 4, 7, 10, 11, 12, 18, 20] : List Nat).getD k 0) ∧ Hid (Below w.heap.size w wr) ∧ Hid (wr.heap[w.heap.size + 1]? = some (.cells (gotCells x k) 42 (0, 0))) ∧ Hid (wr.heap[w.heap.size]? = some (.cells (gotCells Ho.z 9) 42 (0, 0))) ∧ Hid (wr.heap[w.heap.size + 2]? = some (.cells fieldCells 76 (0, 0)))) (fun _ c _ => 9 - (intOf c).toNat)
  case atStart =>
    refine ⟨0, by omega, rfl, ?_, ?_, ?_, ?_, ?_⟩
    · show Value.int .i64 (a : Int) = .int .i64 ((a : Int) + ((0 : Nat) : Int))
      simp
    · exact ((((Below.refl _ w).alloc (Nat.le_refl _) _).alloc (by simp) _).alloc (by simp; omega) _)
    · show _ = _
      rw [Below.heap_alloc _ _ _ (by simp)]
      have : w.heap.size + 1 = (w.alloc (.cells (gotCells Ho.z 9) 42)).heap.size := by simp
      rw [this]
      exact heap_alloc_new _ _
    · show _ = _
      rw [Below.heap_alloc _ _ _ (by simp; omega), Below.heap_alloc _ _ _ (by simp)]
      exact heap_alloc_new _ _
    · show _ = _
      have : w.heap.size + 2 = ((w.alloc (.cells (gotCells Ho.z 9) 42)).alloc (.cells (gotCells Ho.z 9) 42)).heap.size := by simp
      rw [this]
      exact heap_alloc_new _ _
  case round =>
    obtain ⟨k, hk, rfl, rfl, HW, HH, HR, HF⟩ := hrel
    by_cases hlt : k < 9
    · have hc : k = 0 ∨ k = 1 ∨ k = 2 ∨ k = 3 ∨ k = 4 ∨ k = 5 ∨ k = 6 ∨ k = 7 ∨ k = 8 := by omega
      have hhl : w.heap.size + 1 < wr.heap.size := (Array.getElem?_eq_some_iff.1 HH.out).1
      have hfl : w.heap.size + 2 < wr.heap.size := (Array.getElem?_eq_some_iff.1 HF.out).1
      have hw1s := HW.out.size
      rcases hc with rfl | rfl | rfl | rfl | rfl | rfl | rfl | rfl | rfl
      · have g0 : wr.cell? ⟨w.heap.size + 2, 0, none⟩ = some (.int .i64 1) := by rw [cell_of_row wr _ _ _ _ _ HF.out]; rfl
        have g1 : wr.cell? ⟨w.heap.size + 2, 1, none⟩ = some (.func (.func 56) #[] #[]) := by rw [cell_of_row wr _ _ _ _ _ HF.out]; rfl
        have hst := store_fn wr 1 56
        have NUM : Hid (∀ w6 : World, Calls Try.prog 33 #[.string s, .int .i64 ((a : Int) + 0), .int .i64 1] w6 fun e w' => e = .returned (.tuple #[.int .i64 x.st, .int .i64 ((a : Int) + 1)]) ∧ w6 = w') := fun w6 => by
          have := getNumber_t s ((a : Int) + 0) 1 w6 (by decide) (by decide) (by omega) (by omega) hl
          rw [show ((a : Int) + 0).toNat = a by omega, show (1 : Int).toNat = 1 from rfl, x0.out, show (a : Int) + 0 + 1 = (a : Int) + 1 by omega] at this
          exact this
        have hsl : Hid ((a : Int) + (([0, 1, 3, 4, 7, 10, 11, 12, 18, 20] : List Nat).getD 0 0 : Nat) = (a : Int) + 0) := by show _ = _; rfl
        go_wp2_with fail
        clear g0 g1 hst
        generalize hW : wr.alloc _ = W
        have s0 : W.cell? ⟨wr.heap.size, 0, none⟩ = some (.int .i64 1) := by rw [← hW]; simp
        have s1 : W.cell? ⟨wr.heap.size, 1, none⟩ = some (.func (.func 56) #[] #[]) := by rw [← hW]; simp
        have HWN : Hid (W.heap[w.heap.size + 1]? = some (.cells (gotCells x 0) 42 (0, 0))) := by rw [← hW]; show _ = _; rw [Below.heap_alloc _ _ _ hhl]; exact HH.out
        have s2 : W.cell? ⟨w.heap.size + 1, 0, none⟩ = some (.int .i64 0) := by rw [cell_of_row W _ _ _ _ _ HWN.out]; rfl
        have s3 : W.frozen? ⟨w.heap.size + 1, 0, none⟩ = false := frozen_of_row W _ _ _ _ HWN.out
        have hWs : W.heap.size = wr.heap.size + 1 := by rw [← hW]; simp
        have HWB : Hid (Below wr.heap.size wr W) := by rw [← hW]; exact (Below.refl _ wr).alloc (Nat.le_refl _) _
        have hne : ¬ (wr.heap.size = w.heap.size + 1) := by omega
        have hne2 : ¬ (w.heap.size + 1 = wr.heap.size) := by omega
        clear hW
        go_region_held3 (fun w' => w'.cell? ⟨wr.heap.size, 0, none⟩ = some (.int .i64 1) ∧ w'.cell? ⟨wr.heap.size, 1, none⟩ = some (.func (.func 56) #[] #[])) (first | go_keep)
          (first
            | (go_at_call 56; refine (field0_t _ _).mono ?_; rintro e w1 ⟨rfl, rfl⟩)
            | (go_at_call 33; refine (NUM.out _).mono ?_; rintro e w1 ⟨rfl, rfl⟩))
        have HH2 : Hid ((W.setCell ⟨w.heap.size + 1, 0, none⟩ (.int .i64 x.st)).drew.heap[w.heap.size + 1]? = some (.cells (gotCells x 1) 42 (0, 0))) := heap_setCell_same W (w.heap.size + 1) 0 _ _ _ HWN.out
        have HR2 : Hid ((W.setCell ⟨w.heap.size + 1, 0, none⟩ (.int .i64 x.st)).drew.heap[w.heap.size]? = some (.cells (gotCells Ho.z 9) 42 (0, 0))) := by
          show (W.setCell _ _).heap[w.heap.size]? = _
          rw [Below.heap_setCell _ _ _ _ (by show w.heap.size ≠ w.heap.size + 1; omega), HWB.out.block _ (by omega)]
          exact HR.out
        have HF2 : Hid ((W.setCell ⟨w.heap.size + 1, 0, none⟩ (.int .i64 x.st)).drew.heap[w.heap.size + 2]? = some (.cells fieldCells 76 (0, 0))) := by
          show (W.setCell _ _).heap[w.heap.size + 2]? = _
          rw [Below.heap_setCell _ _ _ _ (by show w.heap.size + 2 ≠ w.heap.size + 1; omega), HWB.out.block _ (by omega)]
          exact HF.out
        have HW2 : Hid (Below w.heap.size w (W.setCell ⟨w.heap.size + 1, 0, none⟩ (.int .i64 x.st)).drew) := ((HW.out.trans (HWB.out.mono hw1s)).setCell (by show w.heap.size ≤ w.heap.size + 1; omega) _).drew
        clear s0 s1 s2 s3 HWN HWB HH HR HF HW NUM
        go_wp2_with fail
        exact ⟨⟨1, by omega, rfl, rfl, HW2, HH2, HR2, HF2⟩, by simp [intOf]⟩
      · have g0 : wr.cell? ⟨w.heap.size + 2, 2, none⟩ = some (.int .i64 2) := by rw [cell_of_row wr _ _ _ _ _ HF.out]; rfl
        have g1 : wr.cell? ⟨w.heap.size + 2, 3, none⟩ = some (.func (.func 57) #[] #[]) := by rw [cell_of_row wr _ _ _ _ _ HF.out]; rfl
        have hst := store_fn wr 2 57
        have NUM : Hid (∀ w6 : World, Calls Try.prog 33 #[.string s, .int .i64 ((a : Int) + 1), .int .i64 2] w6 fun e w' => e = .returned (.tuple #[.int .i64 x.gen, .int .i64 ((a : Int) + 3)]) ∧ w6 = w') := fun w6 => by
          have := getNumber_t s ((a : Int) + 1) 2 w6 (by decide) (by decide) (by omega) (by omega) hl
          rw [show ((a : Int) + 1).toNat = a + 1 by omega, show (2 : Int).toNat = 2 from rfl, x1.out, show (a : Int) + 1 + 2 = (a : Int) + 3 by omega] at this
          exact this
        have hsl : Hid ((a : Int) + (([0, 1, 3, 4, 7, 10, 11, 12, 18, 20] : List Nat).getD 1 0 : Nat) = (a : Int) + 1) := by show _ = _; rfl
        go_wp2_with fail
        clear g0 g1 hst
        generalize hW : wr.alloc _ = W
        have s0 : W.cell? ⟨wr.heap.size, 0, none⟩ = some (.int .i64 2) := by rw [← hW]; simp
        have s1 : W.cell? ⟨wr.heap.size, 1, none⟩ = some (.func (.func 57) #[] #[]) := by rw [← hW]; simp
        have HWN : Hid (W.heap[w.heap.size + 1]? = some (.cells (gotCells x 1) 42 (0, 0))) := by rw [← hW]; show _ = _; rw [Below.heap_alloc _ _ _ hhl]; exact HH.out
        have s2 : W.cell? ⟨w.heap.size + 1, 1, none⟩ = some (.int .i64 0) := by rw [cell_of_row W _ _ _ _ _ HWN.out]; rfl
        have s3 : W.frozen? ⟨w.heap.size + 1, 1, none⟩ = false := frozen_of_row W _ _ _ _ HWN.out
        have hWs : W.heap.size = wr.heap.size + 1 := by rw [← hW]; simp
        have HWB : Hid (Below wr.heap.size wr W) := by rw [← hW]; exact (Below.refl _ wr).alloc (Nat.le_refl _) _
        have hne : ¬ (wr.heap.size = w.heap.size + 1) := by omega
        have hne2 : ¬ (w.heap.size + 1 = wr.heap.size) := by omega
        clear hW
        go_region_held3 (fun w' => w'.cell? ⟨wr.heap.size, 0, none⟩ = some (.int .i64 2) ∧ w'.cell? ⟨wr.heap.size, 1, none⟩ = some (.func (.func 57) #[] #[])) (first | go_keep)
          (first
            | (go_at_call 57; refine (field1_t _ _).mono ?_; rintro e w1 ⟨rfl, rfl⟩)
            | (go_at_call 33; refine (NUM.out _).mono ?_; rintro e w1 ⟨rfl, rfl⟩))
        have HH2 : Hid ((W.setCell ⟨w.heap.size + 1, 1, none⟩ (.int .i64 x.gen)).drew.heap[w.heap.size + 1]? = some (.cells (gotCells x 2) 42 (0, 0))) := heap_setCell_same W (w.heap.size + 1) 1 _ _ _ HWN.out
        have HR2 : Hid ((W.setCell ⟨w.heap.size + 1, 1, none⟩ (.int .i64 x.gen)).drew.heap[w.heap.size]? = some (.cells (gotCells Ho.z 9) 42 (0, 0))) := by
          show (W.setCell _ _).heap[w.heap.size]? = _
          rw [Below.heap_setCell _ _ _ _ (by show w.heap.size ≠ w.heap.size + 1; omega), HWB.out.block _ (by omega)]
          exact HR.out
        have HF2 : Hid ((W.setCell ⟨w.heap.size + 1, 1, none⟩ (.int .i64 x.gen)).drew.heap[w.heap.size + 2]? = some (.cells fieldCells 76 (0, 0))) := by
          show (W.setCell _ _).heap[w.heap.size + 2]? = _
          rw [Below.heap_setCell _ _ _ _ (by show w.heap.size + 2 ≠ w.heap.size + 1; omega), HWB.out.block _ (by omega)]
          exact HF.out
        have HW2 : Hid (Below w.heap.size w (W.setCell ⟨w.heap.size + 1, 1, none⟩ (.int .i64 x.gen)).drew) := ((HW.out.trans (HWB.out.mono hw1s)).setCell (by show w.heap.size ≤ w.heap.size + 1; omega) _).drew
        clear s0 s1 s2 s3 HWN HWB HH HR HF HW NUM
        go_wp2_with fail
        exact ⟨⟨2, by omega, rfl, rfl, HW2, HH2, HR2, HF2⟩, by simp [intOf]⟩
      · have g0 : wr.cell? ⟨w.heap.size + 2, 4, none⟩ = some (.int .i64 1) := by rw [cell_of_row wr _ _ _ _ _ HF.out]; rfl
        have g1 : wr.cell? ⟨w.heap.size + 2, 5, none⟩ = some (.func (.func 58) #[] #[]) := by rw [cell_of_row wr _ _ _ _ _ HF.out]; rfl
        have hst := store_fn wr 1 58
        have NUM : Hid (∀ w6 : World, Calls Try.prog 33 #[.string s, .int .i64 ((a : Int) + 3), .int .i64 1] w6 fun e w' => e = .returned (.tuple #[.int .i64 x.lim.s, .int .i64 ((a : Int) + 4)]) ∧ w6 = w') := fun w6 => by
          have := getNumber_t s ((a : Int) + 3) 1 w6 (by decide) (by decide) (by omega) (by omega) hl
          rw [show ((a : Int) + 3).toNat = a + 3 by omega, show (1 : Int).toNat = 1 from rfl, x2.out, show (a : Int) + 3 + 1 = (a : Int) + 4 by omega] at this
          exact this
        have hsl : Hid ((a : Int) + (([0, 1, 3, 4, 7, 10, 11, 12, 18, 20] : List Nat).getD 2 0 : Nat) = (a : Int) + 3) := by show _ = _; rfl
        go_wp2_with fail
        clear g0 g1 hst
        generalize hW : wr.alloc _ = W
        have s0 : W.cell? ⟨wr.heap.size, 0, none⟩ = some (.int .i64 1) := by rw [← hW]; simp
        have s1 : W.cell? ⟨wr.heap.size, 1, none⟩ = some (.func (.func 58) #[] #[]) := by rw [← hW]; simp
        have HWN : Hid (W.heap[w.heap.size + 1]? = some (.cells (gotCells x 2) 42 (0, 0))) := by rw [← hW]; show _ = _; rw [Below.heap_alloc _ _ _ hhl]; exact HH.out
        have s2 : W.cell? ⟨w.heap.size + 1, 2, none⟩ = some (.int .i64 0) := by rw [cell_of_row W _ _ _ _ _ HWN.out]; rfl
        have s3 : W.frozen? ⟨w.heap.size + 1, 2, none⟩ = false := frozen_of_row W _ _ _ _ HWN.out
        have hWs : W.heap.size = wr.heap.size + 1 := by rw [← hW]; simp
        have HWB : Hid (Below wr.heap.size wr W) := by rw [← hW]; exact (Below.refl _ wr).alloc (Nat.le_refl _) _
        have hne : ¬ (wr.heap.size = w.heap.size + 1) := by omega
        have hne2 : ¬ (w.heap.size + 1 = wr.heap.size) := by omega
        clear hW
        go_region_held3 (fun w' => w'.cell? ⟨wr.heap.size, 0, none⟩ = some (.int .i64 1) ∧ w'.cell? ⟨wr.heap.size, 1, none⟩ = some (.func (.func 58) #[] #[])) (first | go_keep)
          (first
            | (go_at_call 58; refine (field2_t _ _).mono ?_; rintro e w1 ⟨rfl, rfl⟩)
            | (go_at_call 33; refine (NUM.out _).mono ?_; rintro e w1 ⟨rfl, rfl⟩))
        have HH2 : Hid ((W.setCell ⟨w.heap.size + 1, 2, none⟩ (.int .i64 x.lim.s)).drew.heap[w.heap.size + 1]? = some (.cells (gotCells x 3) 42 (0, 0))) := heap_setCell_same W (w.heap.size + 1) 2 _ _ _ HWN.out
        have HR2 : Hid ((W.setCell ⟨w.heap.size + 1, 2, none⟩ (.int .i64 x.lim.s)).drew.heap[w.heap.size]? = some (.cells (gotCells Ho.z 9) 42 (0, 0))) := by
          show (W.setCell _ _).heap[w.heap.size]? = _
          rw [Below.heap_setCell _ _ _ _ (by show w.heap.size ≠ w.heap.size + 1; omega), HWB.out.block _ (by omega)]
          exact HR.out
        have HF2 : Hid ((W.setCell ⟨w.heap.size + 1, 2, none⟩ (.int .i64 x.lim.s)).drew.heap[w.heap.size + 2]? = some (.cells fieldCells 76 (0, 0))) := by
          show (W.setCell _ _).heap[w.heap.size + 2]? = _
          rw [Below.heap_setCell _ _ _ _ (by show w.heap.size + 2 ≠ w.heap.size + 1; omega), HWB.out.block _ (by omega)]
          exact HF.out
        have HW2 : Hid (Below w.heap.size w (W.setCell ⟨w.heap.size + 1, 2, none⟩ (.int .i64 x.lim.s)).drew) := ((HW.out.trans (HWB.out.mono hw1s)).setCell (by show w.heap.size ≤ w.heap.size + 1; omega) _).drew
        clear s0 s1 s2 s3 HWN HWB HH HR HF HW NUM
        go_wp2_with fail
        exact ⟨⟨3, by omega, rfl, rfl, HW2, HH2, HR2, HF2⟩, by simp [intOf]⟩
      · have g0 : wr.cell? ⟨w.heap.size + 2, 6, none⟩ = some (.int .i64 3) := by rw [cell_of_row wr _ _ _ _ _ HF.out]; rfl
        have g1 : wr.cell? ⟨w.heap.size + 2, 7, none⟩ = some (.func (.func 59) #[] #[]) := by rw [cell_of_row wr _ _ _ _ _ HF.out]; rfl
        have hst := store_fn wr 3 59
        have NUM : Hid (∀ w6 : World, Calls Try.prog 33 #[.string s, .int .i64 ((a : Int) + 4), .int .i64 3] w6 fun e w' => e = .returned (.tuple #[.int .i64 x.lim.hb, .int .i64 ((a : Int) + 7)]) ∧ w6 = w') := fun w6 => by
          have := getNumber_t s ((a : Int) + 4) 3 w6 (by decide) (by decide) (by omega) (by omega) hl
          rw [show ((a : Int) + 4).toNat = a + 4 by omega, show (3 : Int).toNat = 3 from rfl, x3.out, show (a : Int) + 4 + 3 = (a : Int) + 7 by omega] at this
          exact this
        have hsl : Hid ((a : Int) + (([0, 1, 3, 4, 7, 10, 11, 12, 18, 20] : List Nat).getD 3 0 : Nat) = (a : Int) + 4) := by show _ = _; rfl
        go_wp2_with fail
        clear g0 g1 hst
        generalize hW : wr.alloc _ = W
        have s0 : W.cell? ⟨wr.heap.size, 0, none⟩ = some (.int .i64 3) := by rw [← hW]; simp
        have s1 : W.cell? ⟨wr.heap.size, 1, none⟩ = some (.func (.func 59) #[] #[]) := by rw [← hW]; simp
        have HWN : Hid (W.heap[w.heap.size + 1]? = some (.cells (gotCells x 3) 42 (0, 0))) := by rw [← hW]; show _ = _; rw [Below.heap_alloc _ _ _ hhl]; exact HH.out
        have s2 : W.cell? ⟨w.heap.size + 1, 3, none⟩ = some (.int .i64 0) := by rw [cell_of_row W _ _ _ _ _ HWN.out]; rfl
        have s3 : W.frozen? ⟨w.heap.size + 1, 3, none⟩ = false := frozen_of_row W _ _ _ _ HWN.out
        have hWs : W.heap.size = wr.heap.size + 1 := by rw [← hW]; simp
        have HWB : Hid (Below wr.heap.size wr W) := by rw [← hW]; exact (Below.refl _ wr).alloc (Nat.le_refl _) _
        have hne : ¬ (wr.heap.size = w.heap.size + 1) := by omega
        have hne2 : ¬ (w.heap.size + 1 = wr.heap.size) := by omega
        clear hW
        go_region_held3 (fun w' => w'.cell? ⟨wr.heap.size, 0, none⟩ = some (.int .i64 3) ∧ w'.cell? ⟨wr.heap.size, 1, none⟩ = some (.func (.func 59) #[] #[])) (first | go_keep)
          (first
            | (go_at_call 59; refine (field3_t _ _).mono ?_; rintro e w1 ⟨rfl, rfl⟩)
            | (go_at_call 33; refine (NUM.out _).mono ?_; rintro e w1 ⟨rfl, rfl⟩))
        have HH2 : Hid ((W.setCell ⟨w.heap.size + 1, 3, none⟩ (.int .i64 x.lim.hb)).drew.heap[w.heap.size + 1]? = some (.cells (gotCells x 4) 42 (0, 0))) := heap_setCell_same W (w.heap.size + 1) 3 _ _ _ HWN.out
        have HR2 : Hid ((W.setCell ⟨w.heap.size + 1, 3, none⟩ (.int .i64 x.lim.hb)).drew.heap[w.heap.size]? = some (.cells (gotCells Ho.z 9) 42 (0, 0))) := by
          show (W.setCell _ _).heap[w.heap.size]? = _
          rw [Below.heap_setCell _ _ _ _ (by show w.heap.size ≠ w.heap.size + 1; omega), HWB.out.block _ (by omega)]
          exact HR.out
        have HF2 : Hid ((W.setCell ⟨w.heap.size + 1, 3, none⟩ (.int .i64 x.lim.hb)).drew.heap[w.heap.size + 2]? = some (.cells fieldCells 76 (0, 0))) := by
          show (W.setCell _ _).heap[w.heap.size + 2]? = _
          rw [Below.heap_setCell _ _ _ _ (by show w.heap.size + 2 ≠ w.heap.size + 1; omega), HWB.out.block _ (by omega)]
          exact HF.out
        have HW2 : Hid (Below w.heap.size w (W.setCell ⟨w.heap.size + 1, 3, none⟩ (.int .i64 x.lim.hb)).drew) := ((HW.out.trans (HWB.out.mono hw1s)).setCell (by show w.heap.size ≤ w.heap.size + 1; omega) _).drew
        clear s0 s1 s2 s3 HWN HWB HH HR HF HW NUM
        go_wp2_with fail
        exact ⟨⟨4, by omega, rfl, rfl, HW2, HH2, HR2, HF2⟩, by simp [intOf]⟩
      · have g0 : wr.cell? ⟨w.heap.size + 2, 8, none⟩ = some (.int .i64 3) := by rw [cell_of_row wr _ _ _ _ _ HF.out]; rfl
        have g1 : wr.cell? ⟨w.heap.size + 2, 9, none⟩ = some (.func (.func 60) #[] #[]) := by rw [cell_of_row wr _ _ _ _ _ HF.out]; rfl
        have hst := store_fn wr 3 60
        have NUM : Hid (∀ w6 : World, Calls Try.prog 33 #[.string s, .int .i64 ((a : Int) + 7), .int .i64 3] w6 fun e w' => e = .returned (.tuple #[.int .i64 x.lim.sb, .int .i64 ((a : Int) + 10)]) ∧ w6 = w') := fun w6 => by
          have := getNumber_t s ((a : Int) + 7) 3 w6 (by decide) (by decide) (by omega) (by omega) hl
          rw [show ((a : Int) + 7).toNat = a + 7 by omega, show (3 : Int).toNat = 3 from rfl, x4.out, show (a : Int) + 7 + 3 = (a : Int) + 10 by omega] at this
          exact this
        have hsl : Hid ((a : Int) + (([0, 1, 3, 4, 7, 10, 11, 12, 18, 20] : List Nat).getD 4 0 : Nat) = (a : Int) + 7) := by show _ = _; rfl
        go_wp2_with fail
        clear g0 g1 hst
        generalize hW : wr.alloc _ = W
        have s0 : W.cell? ⟨wr.heap.size, 0, none⟩ = some (.int .i64 3) := by rw [← hW]; simp
        have s1 : W.cell? ⟨wr.heap.size, 1, none⟩ = some (.func (.func 60) #[] #[]) := by rw [← hW]; simp
        have HWN : Hid (W.heap[w.heap.size + 1]? = some (.cells (gotCells x 4) 42 (0, 0))) := by rw [← hW]; show _ = _; rw [Below.heap_alloc _ _ _ hhl]; exact HH.out
        have s2 : W.cell? ⟨w.heap.size + 1, 4, none⟩ = some (.int .i64 0) := by rw [cell_of_row W _ _ _ _ _ HWN.out]; rfl
        have s3 : W.frozen? ⟨w.heap.size + 1, 4, none⟩ = false := frozen_of_row W _ _ _ _ HWN.out
        have hWs : W.heap.size = wr.heap.size + 1 := by rw [← hW]; simp
        have HWB : Hid (Below wr.heap.size wr W) := by rw [← hW]; exact (Below.refl _ wr).alloc (Nat.le_refl _) _
        have hne : ¬ (wr.heap.size = w.heap.size + 1) := by omega
        have hne2 : ¬ (w.heap.size + 1 = wr.heap.size) := by omega
        clear hW
        go_region_held3 (fun w' => w'.cell? ⟨wr.heap.size, 0, none⟩ = some (.int .i64 3) ∧ w'.cell? ⟨wr.heap.size, 1, none⟩ = some (.func (.func 60) #[] #[])) (first | go_keep)
          (first
            | (go_at_call 60; refine (field4_t _ _).mono ?_; rintro e w1 ⟨rfl, rfl⟩)
            | (go_at_call 33; refine (NUM.out _).mono ?_; rintro e w1 ⟨rfl, rfl⟩))
        have HH2 : Hid ((W.setCell ⟨w.heap.size + 1, 4, none⟩ (.int .i64 x.lim.sb)).drew.heap[w.heap.size + 1]? = some (.cells (gotCells x 5) 42 (0, 0))) := heap_setCell_same W (w.heap.size + 1) 4 _ _ _ HWN.out
        have HR2 : Hid ((W.setCell ⟨w.heap.size + 1, 4, none⟩ (.int .i64 x.lim.sb)).drew.heap[w.heap.size]? = some (.cells (gotCells Ho.z 9) 42 (0, 0))) := by
          show (W.setCell _ _).heap[w.heap.size]? = _
          rw [Below.heap_setCell _ _ _ _ (by show w.heap.size ≠ w.heap.size + 1; omega), HWB.out.block _ (by omega)]
          exact HR.out
        have HF2 : Hid ((W.setCell ⟨w.heap.size + 1, 4, none⟩ (.int .i64 x.lim.sb)).drew.heap[w.heap.size + 2]? = some (.cells fieldCells 76 (0, 0))) := by
          show (W.setCell _ _).heap[w.heap.size + 2]? = _
          rw [Below.heap_setCell _ _ _ _ (by show w.heap.size + 2 ≠ w.heap.size + 1; omega), HWB.out.block _ (by omega)]
          exact HF.out
        have HW2 : Hid (Below w.heap.size w (W.setCell ⟨w.heap.size + 1, 4, none⟩ (.int .i64 x.lim.sb)).drew) := ((HW.out.trans (HWB.out.mono hw1s)).setCell (by show w.heap.size ≤ w.heap.size + 1; omega) _).drew
        clear s0 s1 s2 s3 HWN HWB HH HR HF HW NUM
        go_wp2_with fail
        exact ⟨⟨5, by omega, rfl, rfl, HW2, HH2, HR2, HF2⟩, by simp [intOf]⟩
      · have g0 : wr.cell? ⟨w.heap.size + 2, 10, none⟩ = some (.int .i64 1) := by rw [cell_of_row wr _ _ _ _ _ HF.out]; rfl
        have g1 : wr.cell? ⟨w.heap.size + 2, 11, none⟩ = some (.func (.func 61) #[] #[]) := by rw [cell_of_row wr _ _ _ _ _ HF.out]; rfl
        have hst := store_fn wr 1 61
        have NUM : Hid (∀ w6 : World, Calls Try.prog 33 #[.string s, .int .i64 ((a : Int) + 10), .int .i64 1] w6 fun e w' => e = .returned (.tuple #[.int .i64 x.lim.hn, .int .i64 ((a : Int) + 11)]) ∧ w6 = w') := fun w6 => by
          have := getNumber_t s ((a : Int) + 10) 1 w6 (by decide) (by decide) (by omega) (by omega) hl
          rw [show ((a : Int) + 10).toNat = a + 10 by omega, show (1 : Int).toNat = 1 from rfl, x5.out, show (a : Int) + 10 + 1 = (a : Int) + 11 by omega] at this
          exact this
        have hsl : Hid ((a : Int) + (([0, 1, 3, 4, 7, 10, 11, 12, 18, 20] : List Nat).getD 5 0 : Nat) = (a : Int) + 10) := by show _ = _; rfl
        go_wp2_with fail
        clear g0 g1 hst
        generalize hW : wr.alloc _ = W
        have s0 : W.cell? ⟨wr.heap.size, 0, none⟩ = some (.int .i64 1) := by rw [← hW]; simp
        have s1 : W.cell? ⟨wr.heap.size, 1, none⟩ = some (.func (.func 61) #[] #[]) := by rw [← hW]; simp
        have HWN : Hid (W.heap[w.heap.size + 1]? = some (.cells (gotCells x 5) 42 (0, 0))) := by rw [← hW]; show _ = _; rw [Below.heap_alloc _ _ _ hhl]; exact HH.out
        have s2 : W.cell? ⟨w.heap.size + 1, 5, none⟩ = some (.int .i64 0) := by rw [cell_of_row W _ _ _ _ _ HWN.out]; rfl
        have s3 : W.frozen? ⟨w.heap.size + 1, 5, none⟩ = false := frozen_of_row W _ _ _ _ HWN.out
        have hWs : W.heap.size = wr.heap.size + 1 := by rw [← hW]; simp
        have HWB : Hid (Below wr.heap.size wr W) := by rw [← hW]; exact (Below.refl _ wr).alloc (Nat.le_refl _) _
        have hne : ¬ (wr.heap.size = w.heap.size + 1) := by omega
        have hne2 : ¬ (w.heap.size + 1 = wr.heap.size) := by omega
        clear hW
        go_region_held3 (fun w' => w'.cell? ⟨wr.heap.size, 0, none⟩ = some (.int .i64 1) ∧ w'.cell? ⟨wr.heap.size, 1, none⟩ = some (.func (.func 61) #[] #[])) (first | go_keep)
          (first
            | (go_at_call 61; refine (field5_t _ _).mono ?_; rintro e w1 ⟨rfl, rfl⟩)
            | (go_at_call 33; refine (NUM.out _).mono ?_; rintro e w1 ⟨rfl, rfl⟩))
        have HH2 : Hid ((W.setCell ⟨w.heap.size + 1, 5, none⟩ (.int .i64 x.lim.hn)).drew.heap[w.heap.size + 1]? = some (.cells (gotCells x 6) 42 (0, 0))) := heap_setCell_same W (w.heap.size + 1) 5 _ _ _ HWN.out
        have HR2 : Hid ((W.setCell ⟨w.heap.size + 1, 5, none⟩ (.int .i64 x.lim.hn)).drew.heap[w.heap.size]? = some (.cells (gotCells Ho.z 9) 42 (0, 0))) := by
          show (W.setCell _ _).heap[w.heap.size]? = _
          rw [Below.heap_setCell _ _ _ _ (by show w.heap.size ≠ w.heap.size + 1; omega), HWB.out.block _ (by omega)]
          exact HR.out
        have HF2 : Hid ((W.setCell ⟨w.heap.size + 1, 5, none⟩ (.int .i64 x.lim.hn)).drew.heap[w.heap.size + 2]? = some (.cells fieldCells 76 (0, 0))) := by
          show (W.setCell _ _).heap[w.heap.size + 2]? = _
          rw [Below.heap_setCell _ _ _ _ (by show w.heap.size + 2 ≠ w.heap.size + 1; omega), HWB.out.block _ (by omega)]
          exact HF.out
        have HW2 : Hid (Below w.heap.size w (W.setCell ⟨w.heap.size + 1, 5, none⟩ (.int .i64 x.lim.hn)).drew) := ((HW.out.trans (HWB.out.mono hw1s)).setCell (by show w.heap.size ≤ w.heap.size + 1; omega) _).drew
        clear s0 s1 s2 s3 HWN HWB HH HR HF HW NUM
        go_wp2_with fail
        exact ⟨⟨6, by omega, rfl, rfl, HW2, HH2, HR2, HF2⟩, by simp [intOf]⟩
      · have g0 : wr.cell? ⟨w.heap.size + 2, 12, none⟩ = some (.int .i64 1) := by rw [cell_of_row wr _ _ _ _ _ HF.out]; rfl
        have g1 : wr.cell? ⟨w.heap.size + 2, 13, none⟩ = some (.func (.func 62) #[] #[]) := by rw [cell_of_row wr _ _ _ _ _ HF.out]; rfl
        have hst := store_fn wr 1 62
        have NUM : Hid (∀ w6 : World, Calls Try.prog 33 #[.string s, .int .i64 ((a : Int) + 11), .int .i64 1] w6 fun e w' => e = .returned (.tuple #[.int .i64 x.lim.sn, .int .i64 ((a : Int) + 12)]) ∧ w6 = w') := fun w6 => by
          have := getNumber_t s ((a : Int) + 11) 1 w6 (by decide) (by decide) (by omega) (by omega) hl
          rw [show ((a : Int) + 11).toNat = a + 11 by omega, show (1 : Int).toNat = 1 from rfl, x6.out, show (a : Int) + 11 + 1 = (a : Int) + 12 by omega] at this
          exact this
        have hsl : Hid ((a : Int) + (([0, 1, 3, 4, 7, 10, 11, 12, 18, 20] : List Nat).getD 6 0 : Nat) = (a : Int) + 11) := by show _ = _; rfl
        go_wp2_with fail
        clear g0 g1 hst
        generalize hW : wr.alloc _ = W
        have s0 : W.cell? ⟨wr.heap.size, 0, none⟩ = some (.int .i64 1) := by rw [← hW]; simp
        have s1 : W.cell? ⟨wr.heap.size, 1, none⟩ = some (.func (.func 62) #[] #[]) := by rw [← hW]; simp
        have HWN : Hid (W.heap[w.heap.size + 1]? = some (.cells (gotCells x 6) 42 (0, 0))) := by rw [← hW]; show _ = _; rw [Below.heap_alloc _ _ _ hhl]; exact HH.out
        have s2 : W.cell? ⟨w.heap.size + 1, 6, none⟩ = some (.int .i64 0) := by rw [cell_of_row W _ _ _ _ _ HWN.out]; rfl
        have s3 : W.frozen? ⟨w.heap.size + 1, 6, none⟩ = false := frozen_of_row W _ _ _ _ HWN.out
        have hWs : W.heap.size = wr.heap.size + 1 := by rw [← hW]; simp
        have HWB : Hid (Below wr.heap.size wr W) := by rw [← hW]; exact (Below.refl _ wr).alloc (Nat.le_refl _) _
        have hne : ¬ (wr.heap.size = w.heap.size + 1) := by omega
        have hne2 : ¬ (w.heap.size + 1 = wr.heap.size) := by omega
        clear hW
        go_region_held3 (fun w' => w'.cell? ⟨wr.heap.size, 0, none⟩ = some (.int .i64 1) ∧ w'.cell? ⟨wr.heap.size, 1, none⟩ = some (.func (.func 62) #[] #[])) (first | go_keep)
          (first
            | (go_at_call 62; refine (field6_t _ _).mono ?_; rintro e w1 ⟨rfl, rfl⟩)
            | (go_at_call 33; refine (NUM.out _).mono ?_; rintro e w1 ⟨rfl, rfl⟩))
        have HH2 : Hid ((W.setCell ⟨w.heap.size + 1, 6, none⟩ (.int .i64 x.lim.sn)).drew.heap[w.heap.size + 1]? = some (.cells (gotCells x 7) 42 (0, 0))) := heap_setCell_same W (w.heap.size + 1) 6 _ _ _ HWN.out
        have HR2 : Hid ((W.setCell ⟨w.heap.size + 1, 6, none⟩ (.int .i64 x.lim.sn)).drew.heap[w.heap.size]? = some (.cells (gotCells Ho.z 9) 42 (0, 0))) := by
          show (W.setCell _ _).heap[w.heap.size]? = _
          rw [Below.heap_setCell _ _ _ _ (by show w.heap.size ≠ w.heap.size + 1; omega), HWB.out.block _ (by omega)]
          exact HR.out
        have HF2 : Hid ((W.setCell ⟨w.heap.size + 1, 6, none⟩ (.int .i64 x.lim.sn)).drew.heap[w.heap.size + 2]? = some (.cells fieldCells 76 (0, 0))) := by
          show (W.setCell _ _).heap[w.heap.size + 2]? = _
          rw [Below.heap_setCell _ _ _ _ (by show w.heap.size + 2 ≠ w.heap.size + 1; omega), HWB.out.block _ (by omega)]
          exact HF.out
        have HW2 : Hid (Below w.heap.size w (W.setCell ⟨w.heap.size + 1, 6, none⟩ (.int .i64 x.lim.sn)).drew) := ((HW.out.trans (HWB.out.mono hw1s)).setCell (by show w.heap.size ≤ w.heap.size + 1; omega) _).drew
        clear s0 s1 s2 s3 HWN HWB HH HR HF HW NUM
        go_wp2_with fail
        exact ⟨⟨7, by omega, rfl, rfl, HW2, HH2, HR2, HF2⟩, by simp [intOf]⟩
      · have g0 : wr.cell? ⟨w.heap.size + 2, 14, none⟩ = some (.int .i64 6) := by rw [cell_of_row wr _ _ _ _ _ HF.out]; rfl
        have g1 : wr.cell? ⟨w.heap.size + 2, 15, none⟩ = some (.func (.func 63) #[] #[]) := by rw [cell_of_row wr _ _ _ _ _ HF.out]; rfl
        have hst := store_fn wr 6 63
        have NUM : Hid (∀ w6 : World, Calls Try.prog 33 #[.string s, .int .i64 ((a : Int) + 12), .int .i64 6] w6 fun e w' => e = .returned (.tuple #[.int .i64 x.lim.gr, .int .i64 ((a : Int) + 18)]) ∧ w6 = w') := fun w6 => by
          have := getNumber_t s ((a : Int) + 12) 6 w6 (by decide) (by decide) (by omega) (by omega) hl
          rw [show ((a : Int) + 12).toNat = a + 12 by omega, show (6 : Int).toNat = 6 from rfl, x7.out, show (a : Int) + 12 + 6 = (a : Int) + 18 by omega] at this
          exact this
        have hsl : Hid ((a : Int) + (([0, 1, 3, 4, 7, 10, 11, 12, 18, 20] : List Nat).getD 7 0 : Nat) = (a : Int) + 12) := by show _ = _; rfl
        go_wp2_with fail
        clear g0 g1 hst
        generalize hW : wr.alloc _ = W
        have s0 : W.cell? ⟨wr.heap.size, 0, none⟩ = some (.int .i64 6) := by rw [← hW]; simp
        have s1 : W.cell? ⟨wr.heap.size, 1, none⟩ = some (.func (.func 63) #[] #[]) := by rw [← hW]; simp
        have HWN : Hid (W.heap[w.heap.size + 1]? = some (.cells (gotCells x 7) 42 (0, 0))) := by rw [← hW]; show _ = _; rw [Below.heap_alloc _ _ _ hhl]; exact HH.out
        have s2 : W.cell? ⟨w.heap.size + 1, 7, none⟩ = some (.int .i64 0) := by rw [cell_of_row W _ _ _ _ _ HWN.out]; rfl
        have s3 : W.frozen? ⟨w.heap.size + 1, 7, none⟩ = false := frozen_of_row W _ _ _ _ HWN.out
        have hWs : W.heap.size = wr.heap.size + 1 := by rw [← hW]; simp
        have HWB : Hid (Below wr.heap.size wr W) := by rw [← hW]; exact (Below.refl _ wr).alloc (Nat.le_refl _) _
        have hne : ¬ (wr.heap.size = w.heap.size + 1) := by omega
        have hne2 : ¬ (w.heap.size + 1 = wr.heap.size) := by omega
        clear hW
        go_region_held3 (fun w' => w'.cell? ⟨wr.heap.size, 0, none⟩ = some (.int .i64 6) ∧ w'.cell? ⟨wr.heap.size, 1, none⟩ = some (.func (.func 63) #[] #[])) (first | go_keep)
          (first
            | (go_at_call 63; refine (field7_t _ _).mono ?_; rintro e w1 ⟨rfl, rfl⟩)
            | (go_at_call 33; refine (NUM.out _).mono ?_; rintro e w1 ⟨rfl, rfl⟩))
        have HH2 : Hid ((W.setCell ⟨w.heap.size + 1, 7, none⟩ (.int .i64 x.lim.gr)).drew.heap[w.heap.size + 1]? = some (.cells (gotCells x 8) 42 (0, 0))) := heap_setCell_same W (w.heap.size + 1) 7 _ _ _ HWN.out
        have HR2 : Hid ((W.setCell ⟨w.heap.size + 1, 7, none⟩ (.int .i64 x.lim.gr)).drew.heap[w.heap.size]? = some (.cells (gotCells Ho.z 9) 42 (0, 0))) := by
          show (W.setCell _ _).heap[w.heap.size]? = _
          rw [Below.heap_setCell _ _ _ _ (by show w.heap.size ≠ w.heap.size + 1; omega), HWB.out.block _ (by omega)]
          exact HR.out
        have HF2 : Hid ((W.setCell ⟨w.heap.size + 1, 7, none⟩ (.int .i64 x.lim.gr)).drew.heap[w.heap.size + 2]? = some (.cells fieldCells 76 (0, 0))) := by
          show (W.setCell _ _).heap[w.heap.size + 2]? = _
          rw [Below.heap_setCell _ _ _ _ (by show w.heap.size + 2 ≠ w.heap.size + 1; omega), HWB.out.block _ (by omega)]
          exact HF.out
        have HW2 : Hid (Below w.heap.size w (W.setCell ⟨w.heap.size + 1, 7, none⟩ (.int .i64 x.lim.gr)).drew) := ((HW.out.trans (HWB.out.mono hw1s)).setCell (by show w.heap.size ≤ w.heap.size + 1; omega) _).drew
        clear s0 s1 s2 s3 HWN HWB HH HR HF HW NUM
        go_wp2_with fail
        exact ⟨⟨8, by omega, rfl, rfl, HW2, HH2, HR2, HF2⟩, by simp [intOf]⟩
      · have g0 : wr.cell? ⟨w.heap.size + 2, 16, none⟩ = some (.int .i64 2) := by rw [cell_of_row wr _ _ _ _ _ HF.out]; rfl
        have g1 : wr.cell? ⟨w.heap.size + 2, 17, none⟩ = some (.func (.func 64) #[] #[]) := by rw [cell_of_row wr _ _ _ _ _ HF.out]; rfl
        have hst := store_fn wr 2 64
        have NUM : Hid (∀ w6 : World, Calls Try.prog 33 #[.string s, .int .i64 ((a : Int) + 18), .int .i64 2] w6 fun e w' => e = .returned (.tuple #[.int .i64 x.lim.bu, .int .i64 ((a : Int) + 20)]) ∧ w6 = w') := fun w6 => by
          have := getNumber_t s ((a : Int) + 18) 2 w6 (by decide) (by decide) (by omega) (by omega) hl
          rw [show ((a : Int) + 18).toNat = a + 18 by omega, show (2 : Int).toNat = 2 from rfl, x8.out, show (a : Int) + 18 + 2 = (a : Int) + 20 by omega] at this
          exact this
        have hsl : Hid ((a : Int) + (([0, 1, 3, 4, 7, 10, 11, 12, 18, 20] : List Nat).getD 8 0 : Nat) = (a : Int) + 18) := by show _ = _; rfl
        go_wp2_with fail
        clear g0 g1 hst
        generalize hW : wr.alloc _ = W
        have s0 : W.cell? ⟨wr.heap.size, 0, none⟩ = some (.int .i64 2) := by rw [← hW]; simp
        have s1 : W.cell? ⟨wr.heap.size, 1, none⟩ = some (.func (.func 64) #[] #[]) := by rw [← hW]; simp
        have HWN : Hid (W.heap[w.heap.size + 1]? = some (.cells (gotCells x 8) 42 (0, 0))) := by rw [← hW]; show _ = _; rw [Below.heap_alloc _ _ _ hhl]; exact HH.out
        have s2 : W.cell? ⟨w.heap.size + 1, 8, none⟩ = some (.int .i64 0) := by rw [cell_of_row W _ _ _ _ _ HWN.out]; rfl
        have s3 : W.frozen? ⟨w.heap.size + 1, 8, none⟩ = false := frozen_of_row W _ _ _ _ HWN.out
        have hWs : W.heap.size = wr.heap.size + 1 := by rw [← hW]; simp
        have HWB : Hid (Below wr.heap.size wr W) := by rw [← hW]; exact (Below.refl _ wr).alloc (Nat.le_refl _) _
        have hne : ¬ (wr.heap.size = w.heap.size + 1) := by omega
        have hne2 : ¬ (w.heap.size + 1 = wr.heap.size) := by omega
        clear hW
        go_region_held3 (fun w' => w'.cell? ⟨wr.heap.size, 0, none⟩ = some (.int .i64 2) ∧ w'.cell? ⟨wr.heap.size, 1, none⟩ = some (.func (.func 64) #[] #[])) (first | go_keep)
          (first
            | (go_at_call 64; refine (field8_t _ _).mono ?_; rintro e w1 ⟨rfl, rfl⟩)
            | (go_at_call 33; refine (NUM.out _).mono ?_; rintro e w1 ⟨rfl, rfl⟩))
        have HH2 : Hid ((W.setCell ⟨w.heap.size + 1, 8, none⟩ (.int .i64 x.lim.bu)).drew.heap[w.heap.size + 1]? = some (.cells (gotCells x 9) 42 (0, 0))) := heap_setCell_same W (w.heap.size + 1) 8 _ _ _ HWN.out
        have HR2 : Hid ((W.setCell ⟨w.heap.size + 1, 8, none⟩ (.int .i64 x.lim.bu)).drew.heap[w.heap.size]? = some (.cells (gotCells Ho.z 9) 42 (0, 0))) := by
          show (W.setCell _ _).heap[w.heap.size]? = _
          rw [Below.heap_setCell _ _ _ _ (by show w.heap.size ≠ w.heap.size + 1; omega), HWB.out.block _ (by omega)]
          exact HR.out
        have HF2 : Hid ((W.setCell ⟨w.heap.size + 1, 8, none⟩ (.int .i64 x.lim.bu)).drew.heap[w.heap.size + 2]? = some (.cells fieldCells 76 (0, 0))) := by
          show (W.setCell _ _).heap[w.heap.size + 2]? = _
          rw [Below.heap_setCell _ _ _ _ (by show w.heap.size + 2 ≠ w.heap.size + 1; omega), HWB.out.block _ (by omega)]
          exact HF.out
        have HW2 : Hid (Below w.heap.size w (W.setCell ⟨w.heap.size + 1, 8, none⟩ (.int .i64 x.lim.bu)).drew) := ((HW.out.trans (HWB.out.mono hw1s)).setCell (by show w.heap.size ≤ w.heap.size + 1; omega) _).drew
        clear s0 s1 s2 s3 HWN HWB HH HR HF HW NUM
        go_wp2_with fail
        exact ⟨⟨9, by omega, rfl, rfl, HW2, HH2, HR2, HF2⟩, by simp [intOf]⟩
    · have hk9 : k = 9 := by omega
      subst hk9
      have hhl : w.heap.size + 1 < wr.heap.size := (Array.getElem?_eq_some_iff.1 HH.out).1
      have hw1s := HW.out.size
      have hfl : w.heap.size + 2 < wr.heap.size := (Array.getElem?_eq_some_iff.1 HF.out).1
      obtain ⟨M, hM⟩ : ∃ M, M = numAt s.data.toList (a + 20) 1 := ⟨_, rfl⟩
      have hMb := numAt_lt s.data.toList (a + 20) 1
      rw [← hM] at hMb x9
      have NUM : Hid (∀ w6 : World, Calls Try.prog 33 #[.string s, .int .i64 ((a : Int) + 20), .int .i64 1] w6 fun e w' => e = .returned (.tuple #[.int .i64 M, .int .i64 ((a : Int) + 21)]) ∧ w6 = w') := fun w6 => by
        have := getNumber_t s ((a : Int) + 20) 1 w6 (by decide) (by decide) (by omega) (by omega) hl
        rw [show ((a : Int) + 20).toNat = a + 20 by omega, show (1 : Int).toNat = 1 from rfl, ← hM, show (a : Int) + 20 + 1 = (a : Int) + 21 by omega] at this
        exact this
      have hM0 : 0 ≤ M := hMb.1
      have hM1 : M < 256 := by have := hMb.2; simp at this; exact this
      obtain ⟨m, hm⟩ : ∃ m, m = min M.toNat 40 := ⟨_, rfl⟩
      rw [← hm] at x9
      have hmin : min M 40 = (m : Int) := by omega
      have hm40 : m ≤ 40 := by omega
      have HG0 : Hid (wr.heap[w.heap.size + 1]? = some (.cells (houseCells x (.slice none 0 0)) 42 (0, 0))) := HH.out
      clear hM hMb hm x0 x1 x2 x3 x4 x5 x6 x7 x8 HF HH
      go_wp2_with fail
      refine (NUM.out _).mono ?_
      rintro e w6 ⟨rfl, rfl⟩
      clear NUM
      go_wp2_with fail
      go_loopw [1, 41] (fun p c w2 => ∃ (i : Nat) (va : Value), i ≤ m ∧ c = .int .i64 i ∧ p = .int .i64 ((a : Int) + 21 + 2 * (i : Int)) ∧ Hid (Below w.heap.size w w2) ∧ Hid (w2.heap[w.heap.size + 1]? = some (.cells (houseCells x va) 42 (0, 0))) ∧ Hid (w2.heap[w.heap.size]? = some (.cells (gotCells Ho.z 9) 42 (0, 0))) ∧ Hid (w2.ownsRow (w.heap.size + 2) 3 1 va i (icells (segsAt s.data.toList (a + 21) i)))) (fun _ c _ => m - (intOf c).toNat)
      case atStart => exact ⟨0, .slice none 0 0, by omega, rfl, by simp, HW, HG0, HR, ⟨rfl, .inl ⟨rfl, rfl⟩⟩⟩
      case round =>
        obtain ⟨i, va, hi, rfl, rfl, HW2, HH2, HR2, HO2⟩ := hrel
        rename World => w2
        clear HW HG0 HR
        have hhl2 : w.heap.size + 1 < w2.heap.size := (Array.getElem?_eq_some_iff.1 HH2.out).1
        have hown : va.ownBlock ≠ some (w.heap.size + 1) := fun h => by have := (HO2.out.lt _ h).1; omega
        have hown2 : va.ownBlock ≠ some w.heap.size := fun h => by have := (HO2.out.lt _ h).1; omega
        have hbs : w.heap.size + 2 ≤ w2.heap.size := by omega
        by_cases hlt : i < m
        · obtain ⟨y, hy⟩ : ∃ y, y = numAt s.data.toList (a + 21 + 2 * i) 2 := ⟨_, rfl⟩
          have NUM2 : Hid (∀ w6 : World, Calls Try.prog 33 #[.string s, .int .i64 ((a : Int) + 21 + 2 * (i : Int)), .int .i64 2] w6 fun e w' => e = .returned (.tuple #[.int .i64 y, .int .i64 ((a : Int) + 21 + 2 * ((i + 1 : Nat) : Int))]) ∧ w6 = w') := fun w6 => by
            have := getNumber_t s ((a : Int) + 21 + 2 * (i : Int)) 2 w6 (by decide) (by decide) (by omega) (by omega) hl
            rw [show ((a : Int) + 21 + 2 * (i : Int)).toNat = a + 21 + 2 * i by omega, show (2 : Int).toNat = 2 from rfl, ← hy, show (a : Int) + 21 + 2 * (i : Int) + 2 = (a : Int) + 21 + 2 * ((i + 1 : Nat) : Int) by omega] at this
            exact this
          have HSN : Hid (icells (segsAt s.data.toList (a + 21) (i + 1)) = icells (segsAt s.data.toList (a + 21) i) ++ [.int .i64 y]) := by
            show _ = _
            rw [segsAt, List.range_succ, List.map_append, icells_append, hy]
            rfl
          have c9 : w2.cell? ⟨w.heap.size + 1, 9, none⟩ = some va := by rw [cell_of_row w2 _ _ _ _ _ HH2.out]; rfl
          clear hy
          go_wp2_with fail
          refine (NUM2.out _).mono ?_
          rintro e w6 ⟨rfl, rfl⟩
          clear NUM2
          go_wp2_with (first | (refine wpList_append_lies _ rfl _ _ 36 rfl (w.heap.size + 2) 3 i0 _ 1 8 Try.underlying36 hi0 hz0 hz1 hz2 rfl (by decide) va i (icells (segsAt s.data.toList (a + 21) i)) rfl ?_ ⟨w2.heap.size, 0, none⟩ 1 1 [.int .i64 y] rfl rfl ?_ (by simp [Value.oneCell']) (by decide) (by unfold maxLen; omega) (by omega) ?_ (w2.heap.size + 1) (by simp) ?_) | fail)
          · exact ownsRow_on HO2.out ((Below.refl _ _).alloc (Nat.le_refl _) _)
          · exact World.news_of_block (cs := #[.int .i64 y]) (t := 3) (fr := (0, 0)) (heap_alloc_new w2 _)
          · simp; omega
          intro g cap w7 hown7 hgrow7 hat7 hlt7
          have c97 : w7.cell? ⟨w.heap.size + 1, 9, none⟩ = some va := by
            rw [hgrow7.cell_far _ (by simp; omega) (Ne.symm hown), ((Below.refl w2.heap.size w2).alloc (Nat.le_refl _) _).cell hhl2]
            exact c9
          have f97 : w7.frozen? ⟨w.heap.size + 1, 9, none⟩ = false := by
            rw [hgrow7.frozen_far _ (by simp; omega) (Ne.symm hown), ((Below.refl w2.heap.size w2).alloc (Nat.le_refl _) _).frozen hhl2]
            exact frozen_of_row w2 _ _ _ _ HH2.out
          have hB7 : w7.heap[w.heap.size + 1]? = some (.cells (houseCells x va) 42 (0, 0)) := by
            rw [hgrow7.block _ (by simp; omega) (Ne.symm hown), Below.heap_alloc _ _ _ hhl2]
            exact HH2.out
          have hR7 : w7.heap[w.heap.size]? = some (.cells (gotCells Ho.z 9) 42 (0, 0)) := by
            rw [hgrow7.block _ (by simp; omega) (Ne.symm hown2), Below.heap_alloc _ _ _ (by omega)]
            exact HR2.out
          have HW7 : Hid (Below w.heap.size w w7) := (HW2.out.alloc HW2.out.size _).grown hgrow7 (by simp; omega) (fun q hq => by have := (HO2.out.lt q hq).1; omega)
          have HW8 : Hid (Below w.heap.size w (w7.setCell ⟨w.heap.size + 1, 9, none⟩ (.slice (some ⟨g, 0, none⟩) (i + 1) cap))) := HW7.out.setCell (by show w.heap.size ≤ w.heap.size + 1; omega) _
          have HH8 : Hid ((w7.setCell ⟨w.heap.size + 1, 9, none⟩ (.slice (some ⟨g, 0, none⟩) (i + 1) cap)).heap[w.heap.size + 1]? = some (.cells (houseCells x (.slice (some ⟨g, 0, none⟩) (i + 1) cap)) 42 (0, 0))) := heap_setCell_same w7 (w.heap.size + 1) 9 _ _ _ hB7
          have HR8 : Hid ((w7.setCell ⟨w.heap.size + 1, 9, none⟩ (.slice (some ⟨g, 0, none⟩) (i + 1) cap)).heap[w.heap.size]? = some (.cells (gotCells Ho.z 9) 42 (0, 0))) := by
            show _ = _
            rw [Below.heap_setCell _ _ _ _ (by show w.heap.size ≠ w.heap.size + 1; omega)]
            exact hR7
          have HO8 : Hid ((w7.setCell ⟨w.heap.size + 1, 9, none⟩ (.slice (some ⟨g, 0, none⟩) (i + 1) cap)).ownsRow (w.heap.size + 2) 3 1 (.slice (some ⟨g, 0, none⟩) (i + 1) cap) (i + 1) (icells (segsAt s.data.toList (a + 21) (i + 1)))) := by
            have := ownsRow_setCell_below hown7 (a := ⟨w.heap.size + 1, 9, none⟩) (by show w.heap.size + 1 < w.heap.size + 2; omega) (.slice (some ⟨g, 0, none⟩) (i + 1) cap)
            show World.ownsRow _ _ _ _ _ _ _
            rw [HSN.out]
            exact this
          clear hown7 hgrow7 hat7 hB7 hR7 HW7 HW2 HH2 HR2 HO2 c9 HSN
          go_wp2_with fail
          exact ⟨⟨i + 1, _, by omega, by go_num, rfl, HW8, HH8, HR8, HO8⟩, by simp [intOf]; omega⟩
        · have him : i = m := by omega
          subst him
          have hxs : x.segs.length = i := by rw [x9.out]; simp [segsAt]
          have HV : Hid (∀ wf : World, (∀ j, j ≠ w.heap.size → wf.heap[j]? = w2.heap[j]?) → w2.heap.size ≤ wf.heap.size → Ints wf va x.segs ∧ IntRow wf va) := by
            intro wf hwf hsz
            obtain ⟨ho1, ho2⟩ := HO2.out
            rcases ho2 with ⟨rfl, hz⟩ | ⟨g, cap, cur, rfl, hgb, hg, hle, hmx, hcs, htk⟩
            · exact ⟨⟨none, 0, by rw [hxs, hz], fun _ => rfl, fun h => by omega⟩, fun g hg => by simp [Value.ownBlock] at hg⟩
            · refine ⟨?_, fun g2 hg2 => by simp only [Value.ownBlock, Option.some.injEq] at hg2; subst hg2; exact ⟨cur, by rw [hwf g (by omega)]; exact hg⟩⟩
              refine ⟨some ⟨g, 0, none⟩, cap, by rw [hxs], (fun h => by cases h), fun _ => ⟨g, 0, rfl, ?_, fun j hj => ?_⟩⟩
              · have := (Array.getElem?_eq_some_iff.1 hg).1
                omega
              · have hgf : wf.heap[g]? = some (.cells cur 3 (0, 0)) := by rw [hwf g (by omega)]; exact hg
                rw [cell_of_row wf g _ cur 3 _ hgf, Nat.zero_add]
                have hj2 : j < i := by omega
                have e := icells_get x.segs j hj
                rw [← e, x9.out, ← htk, Nat.mul_one, List.getElem?_take_of_lt hj2, Array.getElem?_toList]
          have HVA : va = .slice none 0 0 ∨ ∃ g cap, va = .slice (some ⟨g, 0, none⟩) i cap := by
            rcases HO2.out.2 with ⟨rfl, _⟩ | ⟨g, cap, cur, rfl, _⟩
            · exact .inl rfl
            · exact .inr ⟨g, cap, rfl⟩
          have d0 : w2.cell? ⟨w.heap.size + 1, 0, none⟩ = some (.int .i64 x.st) := by rw [cell_of_row w2 _ _ _ _ _ HH2.out]; rfl
          have d1 : w2.cell? ⟨w.heap.size + 1, 1, none⟩ = some (.int .i64 x.gen) := by rw [cell_of_row w2 _ _ _ _ _ HH2.out]; rfl
          have d2 : w2.cell? ⟨w.heap.size + 1, 2, none⟩ = some (.int .i64 x.lim.s) := by rw [cell_of_row w2 _ _ _ _ _ HH2.out]; rfl
          have d3 : w2.cell? ⟨w.heap.size + 1, 3, none⟩ = some (.int .i64 x.lim.hb) := by rw [cell_of_row w2 _ _ _ _ _ HH2.out]; rfl
          have d4 : w2.cell? ⟨w.heap.size + 1, 4, none⟩ = some (.int .i64 x.lim.sb) := by rw [cell_of_row w2 _ _ _ _ _ HH2.out]; rfl
          have d5 : w2.cell? ⟨w.heap.size + 1, 5, none⟩ = some (.int .i64 x.lim.hn) := by rw [cell_of_row w2 _ _ _ _ _ HH2.out]; rfl
          have d6 : w2.cell? ⟨w.heap.size + 1, 6, none⟩ = some (.int .i64 x.lim.sn) := by rw [cell_of_row w2 _ _ _ _ _ HH2.out]; rfl
          have d7 : w2.cell? ⟨w.heap.size + 1, 7, none⟩ = some (.int .i64 x.lim.gr) := by rw [cell_of_row w2 _ _ _ _ _ HH2.out]; rfl
          have d8 : w2.cell? ⟨w.heap.size + 1, 8, none⟩ = some (.int .i64 x.lim.bu) := by rw [cell_of_row w2 _ _ _ _ _ HH2.out]; rfl
          have d9 : w2.cell? ⟨w.heap.size + 1, 9, none⟩ = some va := by rw [cell_of_row w2 _ _ _ _ _ HH2.out]; rfl
          have r0 : w2.cell? ⟨w.heap.size, 0, none⟩ = some (.int .i64 0) := by rw [cell_of_row w2 _ _ _ _ _ HR2.out]; rfl
          have r1 : w2.cell? ⟨w.heap.size, 1, none⟩ = some (.int .i64 0) := by rw [cell_of_row w2 _ _ _ _ _ HR2.out]; rfl
          have r2 : w2.cell? ⟨w.heap.size, 2, none⟩ = some (.int .i64 0) := by rw [cell_of_row w2 _ _ _ _ _ HR2.out]; rfl
          have r3 : w2.cell? ⟨w.heap.size, 3, none⟩ = some (.int .i64 0) := by rw [cell_of_row w2 _ _ _ _ _ HR2.out]; rfl
          have r4 : w2.cell? ⟨w.heap.size, 4, none⟩ = some (.int .i64 0) := by rw [cell_of_row w2 _ _ _ _ _ HR2.out]; rfl
          have r5 : w2.cell? ⟨w.heap.size, 5, none⟩ = some (.int .i64 0) := by rw [cell_of_row w2 _ _ _ _ _ HR2.out]; rfl
          have r6 : w2.cell? ⟨w.heap.size, 6, none⟩ = some (.int .i64 0) := by rw [cell_of_row w2 _ _ _ _ _ HR2.out]; rfl
          have r7 : w2.cell? ⟨w.heap.size, 7, none⟩ = some (.int .i64 0) := by rw [cell_of_row w2 _ _ _ _ _ HR2.out]; rfl
          have r8 : w2.cell? ⟨w.heap.size, 8, none⟩ = some (.int .i64 0) := by rw [cell_of_row w2 _ _ _ _ _ HR2.out]; rfl
          have r9 : w2.cell? ⟨w.heap.size, 9, none⟩ = some (.slice none 0 0) := by rw [cell_of_row w2 _ _ _ _ _ HR2.out]; rfl
          have fz : ∀ j, w2.frozen? ⟨w.heap.size, j, none⟩ = false := fun j => frozen_of_row w2 _ _ _ _ HR2.out
          rcases HVA with rfl | ⟨g, cap, rfl⟩
          · go_wp2_with fail
            refine bodyPost_ret (v := .tuple #[houseV x (.slice none 0 0), .int .i64 ((a : Int) + 21 + 80)]) (by simp [results, Try.results34, go_sem, r0, r1, r2, r3, r4, r5, r6, r7, r8, r9]) rfl ⟨(.slice none 0 0), by rw [show (a : Int) + 21 + 80 = (a : Int) + 101 by omega], (HV.out _ ?hv1 ?hv2).1, (HV.out _ ?hv1 ?hv2).2, ?_⟩
            case hv1 =>
              intro j hj
              repeat rw [Below.heap_setCell _ _ _ _ hj]
            case hv2 => simp [World.setCell]
            · exact (((((((((HW2.out.setCell (Nat.le_refl _) _).setCell (Nat.le_refl _) _).setCell (Nat.le_refl _) _).setCell (Nat.le_refl _) _).setCell (Nat.le_refl _) _).setCell (Nat.le_refl _) _).setCell (Nat.le_refl _) _).setCell (Nat.le_refl _) _).setCell (Nat.le_refl _) _).setCell (Nat.le_refl _) _
          · go_wp2_with fail
            refine bodyPost_ret (v := .tuple #[houseV x (.slice (some ⟨g, 0, none⟩) i cap), .int .i64 ((a : Int) + 21 + 80)]) (by simp [results, Try.results34, go_sem, r0, r1, r2, r3, r4, r5, r6, r7, r8, r9]) rfl ⟨(.slice (some ⟨g, 0, none⟩) i cap), by rw [show (a : Int) + 21 + 80 = (a : Int) + 101 by omega], (HV.out _ ?hv1 ?hv2).1, (HV.out _ ?hv1 ?hv2).2, ?_⟩
            case hv1 =>
              intro j hj
              repeat rw [Below.heap_setCell _ _ _ _ hj]
            case hv2 => simp [World.setCell]
            · exact (((((((((HW2.out.setCell (Nat.le_refl _) _).setCell (Nat.le_refl _) _).setCell (Nat.le_refl _) _).setCell (Nat.le_refl _) _).setCell (Nat.le_refl _) _).setCell (Nat.le_refl _) _).setCell (Nat.le_refl _) _).setCell (Nat.le_refl _) _).setCell (Nat.le_refl _) _).setCell (Nat.le_refl _) _
end Go.Proofs.Ytdhdjnpgebddmaa
