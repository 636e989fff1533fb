/- The program's places (package geom) walked: Check, Segs, Start, SlotAt, Room; and the laws' own small functions, awake and Place. -/
import Derived.Test.YtnglimdapkhjbaaRows
import Derived.WalkKit
import Derived.WalkSpells
import Derived.WalkLawsBesides
import Derived.Below
namespace Go.Proofs.Ytnglimdapkhjbaa
open Go.RowKit

theorem geomhid {P : Prop} (h : P) : Hid P := h

theorem geomEnd {k : IntKind} {a b : Int} (h : a = b) : Ending.returned (.int k a) = .returned (.int k b) := by rw [h]

/-- A disk that may be. -/
def GeomOk (S G : Int) : Prop := 32 ≤ G ∧ G ≤ 64 ∧ 48 + 8 * G ≤ S ∧ S ≤ 16384

/-- A geometry as a value. -/
abbrev geomV (S G : Int) : Value := .agg #[.int .i64 S, .int .i64 G]

set_option maxHeartbeats 1000000 in
theorem check_yes (S G : Int) (w : World) (h : GeomOk S G) :
    Calls Try.prog 9 #[geomV S G] w fun e w' => e = .returned (.bool true) ∧ Below w.heap.size w w' := by
  obtain ⟨h1, h2, h3, h4⟩ := h
  go_enter Try.func9, Try.ntmps9
  go_wp2
  go_ret
  exact ⟨rfl, (Below.refl _ w).alloc (Nat.le_refl _) _⟩

set_option maxHeartbeats 1000000 in
theorem check_no (S G : Int) (w : World) (h : ¬ GeomOk S G) :
    Calls Try.prog 9 #[geomV S G] w fun e w' => e = .returned (.bool false) ∧ Below w.heap.size w w' := by
  by_cases h1 : G < 32
  · go_enter Try.func9, Try.ntmps9
    go_wp2
    go_ret
    exact ⟨rfl, (Below.refl _ w).alloc (Nat.le_refl _) _⟩
  · by_cases h2 : 64 < G
    · go_enter Try.func9, Try.ntmps9
      go_wp2
      go_ret
      exact ⟨rfl, (Below.refl _ w).alloc (Nat.le_refl _) _⟩
    · by_cases h3 : S < 48 + 8 * G
      · clear h
        go_enter Try.func9, Try.ntmps9
        go_wp2
        go_ret
        exact ⟨rfl, (Below.refl _ w).alloc (Nat.le_refl _) _⟩
      · have h4 : 16384 < S := by unfold GeomOk at h; omega
        have hd : decide (S ≤ 16384) = false := by simp; omega
        clear h
        go_enter Try.func9, Try.ntmps9
        go_wp2
        go_ret
        exact ⟨rfl, (Below.refl _ w).alloc (Nat.le_refl _) _⟩

set_option maxHeartbeats 1000000 in
theorem segs_yes (S G : Int) (w : World) (h : GeomOk S G) :
    Calls Try.prog 10 #[geomV S G] w fun e w' => e = .returned (.int .i64 ((S - 48) / G)) ∧ Below w.heap.size w w' := by
  have C := fun w => check_yes S G w h
  obtain ⟨h1, h2, h3, h4⟩ := h
  have hd : (S - 48).tdiv G = (S - 48) / G := Int.tdiv_eq_ediv_of_nonneg (by omega)
  have hb : 0 ≤ (S - 48) / G := Int.ediv_nonneg (by omega) (by omega)
  have hb2 : (S - 48) / G ≤ S - 48 := Int.ediv_le_self _ (by omega)
  have hz : (G == 0) = false := by simp; omega
  have HC := geomhid C
  clear C
  go_enter Try.func10, Try.ntmps10
  go_wp2_with fail
  refine (HC.out _).mono ?_
  rintro e w1 ⟨rfl, hb1⟩
  have c0 : w1.cell? ⟨w.heap.size, 0, none⟩ = some (.int .i64 S) := by rw [hb1.cell (by simp)]; simp
  have c1 : w1.cell? ⟨w.heap.size, 1, none⟩ = some (.int .i64 G) := by rw [hb1.cell (by simp)]; simp
  have HB : Hid (Below w.heap.size w w1) := ((Below.refl _ w).alloc (Nat.le_refl _) _).trans (hb1.mono (by simp))
  clear hb1 HC
  go_wp2
  go_ret
  exact ⟨rfl, HB.out⟩

set_option maxHeartbeats 1000000 in
theorem segs_no (S G : Int) (w : World) (h : ¬ GeomOk S G) :
    Calls Try.prog 10 #[geomV S G] w fun e w' => e = .returned (.int .i64 0) ∧ Below w.heap.size w w' := by
  have HC := geomhid fun w => check_no S G w h
  clear h
  go_enter Try.func10, Try.ntmps10
  go_wp2_with fail
  refine (HC.out _).mono ?_
  rintro e w1 ⟨rfl, hb1⟩
  have HB : Hid (Below w.heap.size w w1) := ((Below.refl _ w).alloc (Nat.le_refl _) _).trans (hb1.mono (by simp))
  clear hb1 HC
  go_wp2
  go_ret
  exact ⟨rfl, HB.out⟩

set_option maxHeartbeats 1000000 in
theorem slotAt_yes (h c : Int) (w : World) (h1 : 1 ≤ h) (h2 : h ≤ 16) (h3 : 0 ≤ c) (h4 : c ≤ 1) :
    Calls Try.prog 11 #[.int .i64 h, .int .i64 c] w fun e w' => e = .returned (.int .i64 (14 + 2 * h + c)) ∧ w = w' := by
  go_enter Try.func11, Try.ntmps11
  go_wp2
  go_ret
  exact ⟨geomEnd (by omega), rfl⟩

set_option maxHeartbeats 1000000 in
theorem slotAt_no (h c : Int) (w : World) (hn : h < 1 ∨ 16 < h ∨ c < 0 ∨ 1 < c) :
    Calls Try.prog 11 #[.int .i64 h, .int .i64 c] w fun e w' => e = .returned (.int .i64 0) ∧ w = w' := by
  by_cases h1 : h < 1
  · clear hn
    go_enter Try.func11, Try.ntmps11
    go_wp2
    go_ret
    exact ⟨rfl, rfl⟩
  · by_cases h2 : 16 < h
    · clear hn
      go_enter Try.func11, Try.ntmps11
      go_wp2
      go_ret
      exact ⟨rfl, rfl⟩
    · by_cases h3 : c < 0
      · clear hn
        go_enter Try.func11, Try.ntmps11
        go_wp2
        go_ret
        exact ⟨rfl, rfl⟩
      · have h4 : 1 < c := by omega
        clear hn
        go_enter Try.func11, Try.ntmps11
        go_wp2
        go_ret
        exact ⟨rfl, rfl⟩

theorem gplace_emod {v n : Int} (hn : 0 < n) : v % n = if v.tmod n < 0 then v.tmod n + n else v.tmod n := by
  rw [Int.tmod_eq_emod]
  have h1 := Int.emod_nonneg v (show n ≠ 0 by omega)
  have h2 := Int.emod_lt_of_pos v hn
  split <;> split <;> omega

set_option maxHeartbeats 400000 in
/-- Place: the number's rest. -/
theorem gplace_t (v n : Int) (w : World) (hn : 0 < n) (hn2 : n ≤ 4611686018427387904) :
    Calls Try.prog 6 #[.int .i64 v, .int .i64 n] w fun e w' => e = .returned (.int .i64 (v % n)) ∧ w = w' := by
  have hn0 : (n == 0) = false := by simp; omega
  have e := @gplace_emod v n hn
  have h1 := Int.emod_nonneg v (show n ≠ 0 by omega)
  have h2 := Int.emod_lt_of_pos v hn
  have b1 : -n ≤ v.tmod n := by split at e <;> omega
  have b2 : v.tmod n < n := by split at e <;> omega
  have H : Hid (v % n = if v.tmod n < 0 then v.tmod n + n else v.tmod n) := e
  clear e h1 h2
  go_enter Try.func6, Try.ntmps6
  go_wp2
  all_goals go_ret
  · exact ⟨geomEnd (by rw [H.out, if_pos (by assumption)]), rfl⟩
  · exact ⟨geomEnd (by rw [H.out, if_neg (by omega)]), rfl⟩

set_option maxHeartbeats 1000000 in
theorem gawake_t (w : World) : Calls Try.prog 12 #[] w fun e w' => e = .returned (.bool true) ∧ Below w.heap.size w w' := by
  have HS := geomhid fun w => segs_yes 304 32 w (by unfold GeomOk; omega)
  go_enter Try.func12, Try.ntmps12
  go_wp2_with fail
  refine (slotAt_yes 1 0 w (by decide) (by decide) (by decide) (by decide)).mono ?_
  rintro e w1 ⟨rfl, rfl⟩
  go_wp2_with fail
  refine (HS.out _).mono ?_
  rintro e w1 ⟨rfl, hb1⟩
  have HB := geomhid hb1
  clear hb1 HS
  go_wp2_with fail
  go_ret
  exact ⟨rfl, HB.out⟩

end Go.Proofs.Ytnglimdapkhjbaa
