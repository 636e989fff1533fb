/- Stores of a log's place; the sectors that Append answers, as a row. -/
import Derived.Test.YtaiebhkjkeadoaaLogAt
namespace Go.Proofs.Ytaiebhkjkeadoaa
open Go.RowKit

/-- A log's place and free ones stored. -/
def setLg (w : World) (lb : Nat) (v0 v1 v2 v3 v4 v5 v6 v7 v8 v9 v10 v11 v12 u : Value) : World := ((((((((((((((w.setCell ⟨lb, 5, none⟩ v0).setCell ⟨lb, 6, none⟩ v1).setCell ⟨lb, 7, none⟩ v2).setCell ⟨lb, 8, none⟩ v3).setCell ⟨lb, 9, none⟩ v4).setCell ⟨lb, 10, none⟩ v5).setCell ⟨lb, 11, none⟩ v6).setCell ⟨lb, 12, none⟩ v7).setCell ⟨lb, 13, none⟩ v8).setCell ⟨lb, 14, none⟩ v9).setCell ⟨lb, 15, none⟩ v10).setCell ⟨lb, 16, none⟩ v11).setCell ⟨lb, 17, none⟩ v12).setCell ⟨lb, 18, none⟩ u)
theorem setLg_row {w : World} {lb b : Nat} {S G house gen : Int} {o0 o1 o2 o3 o4 o5 o6 o7 o8 o9 o10 o11 o12 : Int} {ov : Value} {t : TypeId} (h : w.heap[lb]? = some (.cells #[.pointer (some ⟨b, 0, none⟩), .int .i64 S, .int .i64 G, .int .i64 house, .int .i64 gen, .int .i64 o0, .int .i64 o1, .int .i64 o2, .int .i64 o3, .int .i64 o4, .int .i64 o5, .int .i64 o6, .int .i64 o7, .int .i64 o8, .int .i64 o9, .int .i64 o10, .int .i64 o11, .int .i64 o12, ov] t (0, 0))) (v0 v1 v2 v3 v4 v5 v6 v7 v8 v9 v10 v11 v12 u : Value) :
    (setLg w lb v0 v1 v2 v3 v4 v5 v6 v7 v8 v9 v10 v11 v12 u).heap[lb]? = some (.cells #[.pointer (some ⟨b, 0, none⟩), .int .i64 S, .int .i64 G, .int .i64 house, .int .i64 gen, v0, v1, v2, v3, v4, v5, v6, v7, v8, v9, v10, v11, v12, u] t (0, 0)) := by
  have e2 : ((((((((((((((#[.pointer (some ⟨b, 0, none⟩), .int .i64 S, .int .i64 G, .int .i64 house, .int .i64 gen, .int .i64 o0, .int .i64 o1, .int .i64 o2, .int .i64 o3, .int .i64 o4, .int .i64 o5, .int .i64 o6, .int .i64 o7, .int .i64 o8, .int .i64 o9, .int .i64 o10, .int .i64 o11, .int .i64 o12, ov].setIfInBounds 5 v0).setIfInBounds 6 v1).setIfInBounds 7 v2).setIfInBounds 8 v3).setIfInBounds 9 v4).setIfInBounds 10 v5).setIfInBounds 11 v6).setIfInBounds 12 v7).setIfInBounds 13 v8).setIfInBounds 14 v9).setIfInBounds 15 v10).setIfInBounds 16 v11).setIfInBounds 17 v12).setIfInBounds 18 u) = #[.pointer (some ⟨b, 0, none⟩), .int .i64 S, .int .i64 G, .int .i64 house, .int .i64 gen, v0, v1, v2, v3, v4, v5, v6, v7, v8, v9, v10, v11, v12, u] := by
    apply Array.ext_getElem?
    intro i
    by_cases hi : i < 19
    · rcases (show i = 0 ∨ i = 1 ∨ i = 2 ∨ i = 3 ∨ i = 4 ∨ i = 5 ∨ i = 6 ∨ i = 7 ∨ i = 8 ∨ i = 9 ∨ i = 10 ∨ i = 11 ∨ i = 12 ∨ i = 13 ∨ i = 14 ∨ i = 15 ∨ i = 16 ∨ i = 17 ∨ i = 18 by omega) with rfl | rfl | rfl | rfl | rfl | rfl | rfl | rfl | rfl | rfl | rfl | rfl | rfl | rfl | rfl | rfl | rfl | rfl | rfl <;> simp
    · rw [Array.getElem?_eq_none (by simp; omega), Array.getElem?_eq_none (by simp; omega)]
  rw [← e2]
  generalize #[.pointer (some ⟨b, 0, none⟩), .int .i64 S, .int .i64 G, .int .i64 house, .int .i64 gen, .int .i64 o0, .int .i64 o1, .int .i64 o2, .int .i64 o3, .int .i64 o4, .int .i64 o5, .int .i64 o6, .int .i64 o7, .int .i64 o8, .int .i64 o9, .int .i64 o10, .int .i64 o11, .int .i64 o12, ov] = C at h ⊢
  unfold setLg
  exact (heap_setCell_same _ _ 18 _ _ _ (heap_setCell_same _ _ 17 _ _ _ (heap_setCell_same _ _ 16 _ _ _ (heap_setCell_same _ _ 15 _ _ _ (heap_setCell_same _ _ 14 _ _ _ (heap_setCell_same _ _ 13 _ _ _ (heap_setCell_same _ _ 12 _ _ _ (heap_setCell_same _ _ 11 _ _ _ (heap_setCell_same _ _ 10 _ _ _ (heap_setCell_same _ _ 9 _ _ _ (heap_setCell_same _ _ 8 _ _ _ (heap_setCell_same _ _ 7 _ _ _ (heap_setCell_same _ _ 6 _ _ _ (heap_setCell_same _ _ 5 _ _ _ h))))))))))))))
theorem setLg_keep (w : World) (lb : Nat) (v0 v1 v2 v3 v4 v5 v6 v7 v8 v9 v10 v11 v12 u : Value) : Keep (fun k => k = lb) w (setLg w lb v0 v1 v2 v3 v4 v5 v6 v7 v8 v9 v10 v11 v12 u) :=
  Keep.setCell (Keep.setCell (Keep.setCell (Keep.setCell (Keep.setCell (Keep.setCell (Keep.setCell (Keep.setCell (Keep.setCell (Keep.setCell (Keep.setCell (Keep.setCell (Keep.setCell (Keep.setCell (Keep.refl (fun k => k = lb) w) (p := ⟨lb, 5, none⟩) (fun _ => rfl) _) (p := ⟨lb, 6, none⟩) (fun _ => rfl) _) (p := ⟨lb, 7, none⟩) (fun _ => rfl) _) (p := ⟨lb, 8, none⟩) (fun _ => rfl) _) (p := ⟨lb, 9, none⟩) (fun _ => rfl) _) (p := ⟨lb, 10, none⟩) (fun _ => rfl) _) (p := ⟨lb, 11, none⟩) (fun _ => rfl) _) (p := ⟨lb, 12, none⟩) (fun _ => rfl) _) (p := ⟨lb, 13, none⟩) (fun _ => rfl) _) (p := ⟨lb, 14, none⟩) (fun _ => rfl) _) (p := ⟨lb, 15, none⟩) (fun _ => rfl) _) (p := ⟨lb, 16, none⟩) (fun _ => rfl) _) (p := ⟨lb, 17, none⟩) (fun _ => rfl) _) (p := ⟨lb, 18, none⟩) (fun _ => rfl) _

/-- What is free lies in no row of another kind. -/
theorem FreeAt.other {w : World} {P : Nat → Prop} {v : Value} {l : List Int} (h : FreeAt w P v l) {p : Nat} {c : Array Value} {t : TypeId} {fr : Nat × Nat} (hp : w.heap[p]? = some (.cells c t fr)) (ht : t ≠ 3) : FreeAt w (fun b => P b ∧ b ≠ p) v l := by
  obtain ⟨ad, cap, hv, h1, h2, hc⟩ := h
  refine ⟨ad, cap, hv, h1, h2, fun h0 => ?_⟩
  obtain ⟨b, off, cur, ha, hP, hg, hr⟩ := hc h0
  refine ⟨b, off, cur, ha, ⟨hP, fun e => ?_⟩, hg, hr⟩
  subst e
  rw [hg] at hp
  simp only [Option.some.injEq, Obj.cells.injEq] at hp
  exact ht hp.2.1.symm

/-- The sectors that Append answers. -/
def posL (F n : Nat) : List Int := (List.range n).map fun (i : Nat) => (F : Int) + 1 + (i : Int)
theorem posL_length (F n : Nat) : (posL F n).length = n := by simp [posL]
def posC (F n k : Nat) : Array Value := ((List.range n).map fun (i : Nat) => Value.int .i64 (if i < k then (F : Int) + 1 + (i : Int) else 0)).toArray
theorem posC_size (F n k : Nat) : (posC F n k).size = n := by simp [posC]
theorem posC_get (F n k i : Nat) (hi : i < n) : (posC F n k)[i]? = some (.int .i64 (if i < k then (F : Int) + 1 + (i : Int) else 0)) := by simp [posC, hi]
theorem posC_set (F n k : Nat) (_hk : k < n) : (posC F n k).setIfInBounds k (.int .i64 ((F : Int) + 1 + (k : Int))) = posC F n (k + 1) := by
  apply Array.ext_getElem?
  intro i
  by_cases hi : i < n
  · rw [Array.getElem?_setIfInBounds, posC_get F n (k + 1) i hi]
    by_cases e : k = i
    · subst e
      rw [if_pos rfl, if_pos (by rw [posC_size]; exact hi), if_pos (by omega)]
    · rw [if_neg e, posC_get F n k i hi]
      by_cases h : i < k
      · rw [if_pos h, if_pos (by omega)]
      · rw [if_neg h, if_neg (by omega)]
  · rw [Array.getElem?_eq_none (by simp [posC_size]; omega), Array.getElem?_eq_none (by simp [posC_size]; omega)]
theorem posC_zero (F n : Nat) : posC F n 0 = (icells (List.replicate n 0)).toArray := by
  apply Array.ext_getElem?
  intro i
  by_cases hi : i < n
  · rw [posC_get F n 0 i hi]
    simp [icells, hi]
  · rw [Array.getElem?_eq_none (by simp [posC_size]; omega), Array.getElem?_eq_none (by simp [icells]; omega)]
theorem posC_all (F n : Nat) : posC F n n = (icells (posL F n)).toArray := by
  apply Array.ext_getElem?
  intro i
  by_cases hi : i < n
  · rw [posC_get F n n i hi, if_pos hi]
    simp [icells, posL, hi]
  · rw [Array.getElem?_eq_none (by simp [posC_size]; omega), Array.getElem?_eq_none (by simp [icells, posL]; omega)]
theorem make_ints (n : Nat) (hn2 : n ≤ 16384) (w : World) : (Instr.makeSlice 22 (.int .i64 n) (.int .i64 n)).run Try.prog w = .ok (.slice (some ⟨w.heap.size, 0, none⟩) n n) (w.alloc (.cells (posC 0 n 0) 3)) := by
  obtain ⟨i0, hi, hz0, hz1, hz2⟩ := info_parts Try.numInfo3
  have := run_make (P := Try.prog) w 22 3 i0 (.int .i64 0) Try.underlying22 hi hz0 .i64 .i64 n n (by omega) (by omega) (by rw [hz2]; omega) (by omega)
  rw [this, hz1, posC_zero]
  have e : madeCells (Value.int .i64 0).cells ((n : Int).toNat * 1) = (icells (List.replicate n 0)).toArray := by
    apply Array.ext_getElem?
    intro j
    by_cases hj : j < n
    · simp [madeCells, Value.cells, icells, hj, Nat.mod_one]
    · rw [Array.getElem?_eq_none (by simp [madeCells]; omega), Array.getElem?_eq_none (by simp [icells]; omega)]
  rw [e]; simp
end Go.Proofs.Ytaiebhkjkeadoaa
