/- A state that came in: the row's reading opened. -/
import Derived.Test.YtgpjjbffndmhjaaSlotCode
import Derived.ProofKit
import Derived.OpenShut
import Derived.ShutString
import Derived.ChangeOld
import Derived.Deep.Slices
import Derived.Laws.IdiomArrays
namespace Go.Proofs.Ytgpjjbffndmhjaa
open Go.ChangeShapes Go.WideShapes Go.ChangeAt Go.RowKit Rec Slt Go.Deep

theorem Try.cells3 : Try.prog.cellsOf 3 = 1 := by kernel_rfl
theorem Try.cellsM : Try.prog.cellsOf 22 = 4 := by kernel_rfl
theorem Try.cellsS : Try.prog.cellsOf 24 = 13 := by kernel_rfl

theorem uncons {α : Type} {l : List α} {n : Nat} (h : l.length = n + 1) : ∃ a t, l = a :: t ∧ t.length = n := by
  cases l with
  | nil => simp at h
  | cons a t => exact ⟨a, t, rfl, by simpa using h⟩
theorem field_int {H : Type} {enc : TypeId × Value → H} {w : World} {base : Nat} {spare : Nat → Bool} {held : Bool} {n : Nat} {cs : List Value} {x : Option (DataW H × List MemPlace)} (hx : x.isSome = true) (h : DataW.trod enc Try.prog w base spare held n 3 cs = x) : ∃ k, cs = [.int .i64 k] := by
  obtain ⟨y, rfl⟩ := Option.isSome_iff_exists.1 hx
  obtain ⟨k, e, _⟩ := DataW.trod_int (t := 3) Try.underlying3 h
  exact ⟨k, e⟩

theorem open_slot {H : Type} {enc : TypeId × Value → H} {w : World} {base : Nat} {spare : Nat → Bool} {held : Bool} {fuel : Nat} {cs : List Value} {y : DataW H × List MemPlace} (h : DataW.trod enc Try.prog w base spare held fuel 24 cs = some y) :
    ∃ x : Sl, cs = (slotC x).toList := by
  obtain ⟨xs, n, _, _, hl, hxl, hf⟩ := DataW.trod_struct Try.underlying24 h
  rw [Try.cellsS] at hl
  have hs : ∀ i, i < 10 → (xs[i]?).isSome = true := fun i hi => by
    have : xs.length = 10 := hxl
    simp [this, hi]
  have g0 : ∃ k, (cs.drop 0).take (Try.prog.cellsOf 3) = [.int .i64 k] := field_int (hs 0 (by decide)) (hf 0 _ rfl)
  have g1 : ∃ k, (cs.drop 1).take (Try.prog.cellsOf 3) = [.int .i64 k] := field_int (hs 1 (by decide)) (hf 1 _ rfl)
  have g2 : ∃ k, (cs.drop 2).take (Try.prog.cellsOf 3) = [.int .i64 k] := field_int (hs 2 (by decide)) (hf 2 _ rfl)
  have g3 : ∃ k, (cs.drop 3).take (Try.prog.cellsOf 3) = [.int .i64 k] := field_int (hs 3 (by decide)) (hf 3 _ rfl)
  have g4 : ∃ k, (cs.drop 4).take (Try.prog.cellsOf 3) = [.int .i64 k] := field_int (hs 4 (by decide)) (hf 4 _ rfl)
  have g5 : ∃ k, (cs.drop 5).take (Try.prog.cellsOf 3) = [.int .i64 k] := field_int (hs 5 (by decide)) (hf 5 _ rfl)
  have g6 : ∃ k, (cs.drop 6).take (Try.prog.cellsOf 3) = [.int .i64 k] := field_int (hs 6 (by decide)) (hf 6 _ rfl)
  have g11 : ∃ k, (cs.drop 11).take (Try.prog.cellsOf 3) = [.int .i64 k] := field_int (hs 8 (by decide)) (hf 8 _ rfl)
  have g12 : ∃ k, (cs.drop 12).take (Try.prog.cellsOf 3) = [.int .i64 k] := field_int (hs 9 (by decide)) (hf 9 _ rfl)
  obtain ⟨y7, hy7⟩ := Option.isSome_iff_exists.1 (hs 7 (by decide))
  have g7 : DataW.trod enc Try.prog w base spare held n 22 ((cs.drop 7).take (Try.prog.cellsOf 22)) = some y7 := (hf 7 _ rfl).trans hy7
  rw [Try.cellsM] at g7
  rw [Try.cells3] at g0 g1 g2 g3 g4 g5 g6 g11 g12
  obtain ⟨c0, l0, rfl, h0'⟩ := uncons hl
  obtain ⟨c1, l1, rfl, h1'⟩ := uncons h0'
  obtain ⟨c2, l2, rfl, h2'⟩ := uncons h1'
  obtain ⟨c3, l3, rfl, h3'⟩ := uncons h2'
  obtain ⟨c4, l4, rfl, h4'⟩ := uncons h3'
  obtain ⟨c5, l5, rfl, h5'⟩ := uncons h4'
  obtain ⟨c6, l6, rfl, h6'⟩ := uncons h5'
  obtain ⟨c7, l7, rfl, h7'⟩ := uncons h6'
  obtain ⟨c8, l8, rfl, h8'⟩ := uncons h7'
  obtain ⟨c9, l9, rfl, h9'⟩ := uncons h8'
  obtain ⟨c10, l10, rfl, h10'⟩ := uncons h9'
  obtain ⟨c11, l11, rfl, h11'⟩ := uncons h10'
  obtain ⟨c12, l12, rfl, h12'⟩ := uncons h11'
  obtain rfl := List.length_eq_zero_iff.1 h12'
  simp only [List.drop_succ_cons, List.drop_zero, List.take_succ_cons, List.take_zero] at g7
  obtain ⟨z0, z1, z2, z3, m, _, e0, e1, e2, e3⟩ := trod_array4 Try.underlying22 Try.cells3 g7
  obtain ⟨k7, u0⟩ := field_int rfl e0
  obtain rfl := (List.cons.inj u0).1
  obtain ⟨k8, u1⟩ := field_int rfl e1
  obtain rfl := (List.cons.inj u1).1
  obtain ⟨k9, u2⟩ := field_int rfl e2
  obtain rfl := (List.cons.inj u2).1
  obtain ⟨k10, u3⟩ := field_int rfl e3
  obtain rfl := (List.cons.inj u3).1
  simp at g0 g1 g2 g3 g4 g5 g6 g11 g12
  obtain ⟨k0, rfl⟩ := g0
  obtain ⟨k1, rfl⟩ := g1
  obtain ⟨k2, rfl⟩ := g2
  obtain ⟨k3, rfl⟩ := g3
  obtain ⟨k4, rfl⟩ := g4
  obtain ⟨k5, rfl⟩ := g5
  obtain ⟨k6, rfl⟩ := g6
  obtain ⟨k11, rfl⟩ := g11
  obtain ⟨k12, rfl⟩ := g12
  exact ⟨⟨k0, k1, k2, k3, k4, k5, k6, k7, k8, k9, k10, k11, k12⟩, rfl⟩

/-- A state that came in, as a value. -/
theorem open_slotV {H : Type} {enc : TypeId × Value → H} {w : World} {base : Nat} {spare : Nat → Bool} {held : Bool} {fuel : Nat} {cs : Array Value} {y : DataW H × List MemPlace} (h : DataW.trod enc Try.prog w base spare held fuel 24 (Value.agg cs).cells.toList = some y) : ∃ x : Sl, Value.agg cs = slotV x := by
  obtain ⟨x, e⟩ := open_slot h
  refine ⟨x, ?_⟩
  have e2 : cs.toList = (slotC x).toList := by simpa [Value.cells] using e
  rw [Array.toList_inj.1 e2]
end Go.Proofs.Ytgpjjbffndmhjaa
