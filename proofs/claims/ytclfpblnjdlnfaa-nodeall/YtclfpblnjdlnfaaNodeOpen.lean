/- A node that came in: the row's reading opened. -/
import Derived.Test.YtclfpblnjdlnfaaNodeCode
import Derived.ProofKit
import Derived.OpenShut
import Derived.ShutString
import Derived.ChangeOld
import Derived.Deep.Slices
import Derived.Laws.IdiomArrays
namespace Go.Proofs.Ytclfpblnjdlnfaa
open Go.ChangeShapes Go.WideShapes Go.ChangeAt Go.RowKit Rec Nod Go.Deep

theorem Try.cells3 : Try.prog.cellsOf 3 = 1 := by kernel_rfl
theorem Try.cellsP : Try.prog.cellsOf 22 = 14 := by kernel_rfl
theorem Try.cellsN : Try.prog.cellsOf 24 = 19 := by kernel_rfl

theorem uncons {α : Type} {l : List α} {n : Nat} (h : l.length = n + 1) : ∃ a t, l = a :: t ∧ t.length = n := by
  cases l with
  | nil => simp at h
  | cons a t => exact ⟨a, t, rfl, by simpa using h⟩
theorem head1 {l : List Value} {i : Nat} {v : Value} (h : (l.drop i).take 1 = [v]) : l[i]? = some v := by
  have h2 : ((l.drop i).take 1)[0]? = some v := by rw [h]; rfl
  rw [List.getElem?_take_of_lt (by decide), List.getElem?_drop, Nat.add_zero] at h2
  exact h2
theorem field_int {H : Type} {enc : TypeId × Value → H} {w : World} {base : Nat} {spare : Nat → Bool} {held : Bool} {n : Nat} {cs : List Value} {x : Option (DataW H × List MemPlace)} (hx : x.isSome = true) (h : DataW.trod enc Try.prog w base spare held n 3 cs = x) : ∃ k, cs = [.int .i64 k] := by
  obtain ⟨y, rfl⟩ := Option.isSome_iff_exists.1 hx
  obtain ⟨k, e, _⟩ := DataW.trod_int (t := 3) Try.underlying3 h
  exact ⟨k, e⟩

theorem open_node {H : Type} {enc : TypeId × Value → H} {w : World} {base : Nat} {spare : Nat → Bool} {held : Bool} {fuel : Nat} {cs : List Value} {y : DataW H × List MemPlace} (h : DataW.trod enc Try.prog w base spare held fuel 24 cs = some y) :
    ∃ x : Nd, cs = (nodeC x).toList := by
  obtain ⟨xs, n, _, _, hl, hxl, hf⟩ := DataW.trod_struct Try.underlying24 h
  rw [Try.cellsN] at hl
  have hs : ∀ i, i < 6 → (xs[i]?).isSome = true := fun i hi => by
    have : xs.length = 6 := hxl
    simp [this, hi]
  have g0 : ∃ k, (cs.drop 0).take (Try.prog.cellsOf 3) = [.int .i64 k] := field_int (hs 0 (by decide)) (hf 0 _ rfl)
  rw [Try.cells3] at g0
  obtain ⟨k0, e0⟩ := g0
  have f0 := head1 e0
  clear e0
  have g1 : ∃ k, (cs.drop 1).take (Try.prog.cellsOf 3) = [.int .i64 k] := field_int (hs 1 (by decide)) (hf 1 _ rfl)
  rw [Try.cells3] at g1
  obtain ⟨k1, e1⟩ := g1
  have f1 := head1 e1
  clear e1
  have g2 : ∃ k, (cs.drop 2).take (Try.prog.cellsOf 3) = [.int .i64 k] := field_int (hs 2 (by decide)) (hf 2 _ rfl)
  rw [Try.cells3] at g2
  obtain ⟨k2, e2⟩ := g2
  have f2 := head1 e2
  clear e2
  have g3 : ∃ k, (cs.drop 3).take (Try.prog.cellsOf 3) = [.int .i64 k] := field_int (hs 3 (by decide)) (hf 3 _ rfl)
  rw [Try.cells3] at g3
  obtain ⟨k3, e3⟩ := g3
  have f3 := head1 e3
  clear e3
  have g4 : ∃ k, (cs.drop 4).take (Try.prog.cellsOf 3) = [.int .i64 k] := field_int (hs 4 (by decide)) (hf 4 _ rfl)
  rw [Try.cells3] at g4
  obtain ⟨k4, e4⟩ := g4
  have f4 := head1 e4
  clear e4
  obtain ⟨y5, hy5⟩ := Option.isSome_iff_exists.1 (hs 5 (by decide))
  have g5 : DataW.trod enc Try.prog w base spare held n 22 ((cs.drop 5).take (Try.prog.cellsOf 22)) = some y5 := (hf 5 _ rfl).trans hy5
  rw [Try.cellsP] at g5
  obtain ⟨ys, m, _, _, _, hyl, hp⟩ := DataW.trod_array Try.underlying22 g5
  rw [Try.cells3] at hp
  have fp : ∀ i, i < 14 → ∃ k, cs[5 + i]? = some (.int .i64 k) := fun i hi => by
    have h1 : (ys[i]?).isSome = true := by simp [hyl, hi]
    obtain ⟨k, e⟩ := field_int h1 (hp i hi)
    have e2 := head1 e
    rw [Nat.mul_one, List.getElem?_take_of_lt hi, List.getElem?_drop] at e2
    exact ⟨k, e2⟩
  clear hp g5 hf hs h
  obtain ⟨k5, f5⟩ := fp 0 (by decide)
  obtain ⟨k6, f6⟩ := fp 1 (by decide)
  obtain ⟨k7, f7⟩ := fp 2 (by decide)
  obtain ⟨k8, f8⟩ := fp 3 (by decide)
  obtain ⟨k9, f9⟩ := fp 4 (by decide)
  obtain ⟨k10, f10⟩ := fp 5 (by decide)
  obtain ⟨k11, f11⟩ := fp 6 (by decide)
  obtain ⟨k12, f12⟩ := fp 7 (by decide)
  obtain ⟨k13, f13⟩ := fp 8 (by decide)
  obtain ⟨k14, f14⟩ := fp 9 (by decide)
  obtain ⟨k15, f15⟩ := fp 10 (by decide)
  obtain ⟨k16, f16⟩ := fp 11 (by decide)
  obtain ⟨k17, f17⟩ := fp 12 (by decide)
  obtain ⟨k18, f18⟩ := fp 13 (by decide)
  clear fp
  obtain ⟨c0, l0, rfl, h0'⟩ := uncons hl
  obtain ⟨c1, l1, rfl, h1'⟩ := uncons h0'
  obtain ⟨c2, l2, rfl, h2'⟩ := uncons h1'
  obtain ⟨c3, l3, rfl, h3'⟩ := uncons h2'
  obtain ⟨c4, l4, rfl, h4'⟩ := uncons h3'
  obtain ⟨c5, l5, rfl, h5'⟩ := uncons h4'
  obtain ⟨c6, l6, rfl, h6'⟩ := uncons h5'
  obtain ⟨c7, l7, rfl, h7'⟩ := uncons h6'
  obtain ⟨c8, l8, rfl, h8'⟩ := uncons h7'
  obtain ⟨c9, l9, rfl, h9'⟩ := uncons h8'
  obtain ⟨c10, l10, rfl, h10'⟩ := uncons h9'
  obtain ⟨c11, l11, rfl, h11'⟩ := uncons h10'
  obtain ⟨c12, l12, rfl, h12'⟩ := uncons h11'
  obtain ⟨c13, l13, rfl, h13'⟩ := uncons h12'
  obtain ⟨c14, l14, rfl, h14'⟩ := uncons h13'
  obtain ⟨c15, l15, rfl, h15'⟩ := uncons h14'
  obtain ⟨c16, l16, rfl, h16'⟩ := uncons h15'
  obtain ⟨c17, l17, rfl, h17'⟩ := uncons h16'
  obtain ⟨c18, l18, rfl, h18'⟩ := uncons h17'
  obtain rfl := List.length_eq_zero_iff.1 h18'
  obtain rfl : c0 = .int .i64 k0 := Option.some.inj f0
  obtain rfl : c1 = .int .i64 k1 := Option.some.inj f1
  obtain rfl : c2 = .int .i64 k2 := Option.some.inj f2
  obtain rfl : c3 = .int .i64 k3 := Option.some.inj f3
  obtain rfl : c4 = .int .i64 k4 := Option.some.inj f4
  obtain rfl : c5 = .int .i64 k5 := Option.some.inj f5
  obtain rfl : c6 = .int .i64 k6 := Option.some.inj f6
  obtain rfl : c7 = .int .i64 k7 := Option.some.inj f7
  obtain rfl : c8 = .int .i64 k8 := Option.some.inj f8
  obtain rfl : c9 = .int .i64 k9 := Option.some.inj f9
  obtain rfl : c10 = .int .i64 k10 := Option.some.inj f10
  obtain rfl : c11 = .int .i64 k11 := Option.some.inj f11
  obtain rfl : c12 = .int .i64 k12 := Option.some.inj f12
  obtain rfl : c13 = .int .i64 k13 := Option.some.inj f13
  obtain rfl : c14 = .int .i64 k14 := Option.some.inj f14
  obtain rfl : c15 = .int .i64 k15 := Option.some.inj f15
  obtain rfl : c16 = .int .i64 k16 := Option.some.inj f16
  obtain rfl : c17 = .int .i64 k17 := Option.some.inj f17
  obtain rfl : c18 = .int .i64 k18 := Option.some.inj f18
  exact ⟨⟨k0, k1, k2, k3, k4, k5, k6, k7, k8, k9, k10, k11, k12, k13, k14, k15, k16, k17, k18⟩, rfl⟩

/-- A node that came in, as a value. -/
theorem open_nodeV {H : Type} {enc : TypeId × Value → H} {w : World} {base : Nat} {spare : Nat → Bool} {held : Bool} {fuel : Nat} {cs : Array Value} {y : DataW H × List MemPlace} (h : DataW.trod enc Try.prog w base spare held fuel 24 (Value.agg cs).cells.toList = some y) : ∃ x : Nd, Value.agg cs = nodeV x := by
  obtain ⟨x, e⟩ := open_node h
  refine ⟨x, ?_⟩
  have e2 : cs.toList = (nodeC x).toList := by simpa [Value.cells] using e
  rw [Array.toList_inj.1 e2]
end Go.Proofs.Ytclfpblnjdlnfaa
