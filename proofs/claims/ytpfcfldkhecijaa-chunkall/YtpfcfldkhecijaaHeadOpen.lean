/- A head that came in: the row's reading opened. -/
import Derived.Test.YtpfcfldkhecijaaHeadCode
import Derived.ProofKit
import Derived.OpenShut
import Derived.ShutString
import Derived.ChangeOld
import Derived.Deep.Slices
namespace Go.Proofs.Ytpfcfldkhecijaa
open Go.ChangeShapes Go.WideShapes Go.ChangeAt Go.RowKit Rec Hdp Go.Deep

theorem Try.cells3 : Try.prog.cellsOf 3 = 1 := by kernel_rfl
theorem Try.cellsE : Try.prog.cellsOf 43 = 3 := by kernel_rfl
theorem Try.cellsL : Try.prog.cellsOf 22 = 1 := by kernel_rfl
theorem Try.cellsH : Try.prog.cellsOf 24 = 9 := by kernel_rfl

theorem uncons {α : Type} {l : List α} {n : Nat} (h : l.length = n + 1) : ∃ a t, l = a :: t ∧ t.length = n := by
  cases l with
  | nil => simp at h
  | cons a t => exact ⟨a, t, rfl, by simpa using h⟩
theorem field_int {H : Type} {enc : TypeId × Value → H} {w : World} {base : Nat} {spare : Nat → Bool} {held : Bool} {n : Nat} {cs : List Value} {x : Option (DataW H × List MemPlace)} (hx : x.isSome = true) (h : DataW.trod enc Try.prog w base spare held n 3 cs = x) : ∃ k, cs = [.int .i64 k] := by
  obtain ⟨y, rfl⟩ := Option.isSome_iff_exists.1 hx
  obtain ⟨k, e, _⟩ := DataW.trod_int (t := 3) Try.underlying3 h
  exact ⟨k, e⟩
theorem open_addr (b off j : Nat) : (⟨b, off, none⟩ : Addr).add j = ⟨b, off + j, none⟩ := by unfold Addr.add; split <;> simp_all
theorem spot_none {w : World} {a : Addr} {v : Value} (h : w.cell? (a.add 0) = some v) : ∃ b off, a = ⟨b, off, none⟩ ∧ b < w.heap.size := by
  obtain ⟨b, off, s⟩ := a
  cases s with
  | none =>
    refine ⟨b, off, rfl, ?_⟩
    rw [open_addr, Nat.add_zero] at h
    exact block_lt_of_cell h
  | some s =>
    unfold Addr.add at h
    simp [World.cell?] at h
    split at h <;> simp at h

/-- An entry that came in. -/
theorem open_entry {H : Type} {enc : TypeId × Value → H} {w : World} {base : Nat} {spare : Nat → Bool} {held : Bool} {fuel : Nat} {cs : List Value} {y : DataW H × List MemPlace} (h : DataW.trod enc Try.prog w base spare held fuel 43 cs = some y) :
    ∃ e : En, cs = [.int .i64 e.kind, .int .i64 e.node, .int .i64 e.part] := by
  obtain ⟨xs, n, _, _, hl, hxl, hf⟩ := DataW.trod_struct Try.underlying43 h
  rw [Try.cellsE] at hl
  have hs : ∀ i, i < 3 → (xs[i]?).isSome = true := fun i hi => by
    have : xs.length = 3 := hxl
    simp [this, hi]
  have g0 : ∃ k, (cs.drop 0).take (Try.prog.cellsOf 3) = [.int .i64 k] := field_int (hs 0 (by decide)) (hf 0 _ rfl)
  have g1 : ∃ k, (cs.drop 1).take (Try.prog.cellsOf 3) = [.int .i64 k] := field_int (hs 1 (by decide)) (hf 1 _ rfl)
  have g2 : ∃ k, (cs.drop 2).take (Try.prog.cellsOf 3) = [.int .i64 k] := field_int (hs 2 (by decide)) (hf 2 _ rfl)
  rw [Try.cells3] at g0 g1 g2
  obtain ⟨c0, l0, rfl, h0'⟩ := uncons hl
  obtain ⟨c1, l1, rfl, h1'⟩ := uncons h0'
  obtain ⟨c2, l2, rfl, h2'⟩ := uncons h1'
  obtain rfl := List.length_eq_zero_iff.1 h2'
  simp at g0 g1 g2
  obtain ⟨k0, rfl⟩ := g0
  obtain ⟨k1, rfl⟩ := g1
  obtain ⟨k2, rfl⟩ := g2
  exact ⟨⟨k0, k1, k2⟩, rfl⟩

/-- Entries that came in. -/
theorem open_entries {H : Type} {enc : TypeId × Value → H} {w : World} {base : Nat} {spare : Nat → Bool} {held : Bool} {fuel : Nat} {v : Value} {y : DataW H × List MemPlace} (h : DataW.trod enc Try.prog w base spare held fuel 22 [v] = some y) :
    ∃ l : List En, Ents w v l ∧ l.length ≤ 9223372036854775807 := by
  rcases open_slice Try.underlying22 h with ⟨e, _⟩ | ⟨a, len, cap, m, n, D, Pl, e, hb, hlc, hm, hmm, _, hx⟩
  · simp at e
    subst e
    exact ⟨[], Ents.nil w, by simp⟩
  · simp at e
    subst e
    have hlm : len ≤ m := by rw [hmm]; split <;> omega
    rw [Try.cellsE] at hx
    unfold maxLen at hm
    obtain ⟨F, hF⟩ : ∃ F : Nat → En, ∀ i, i < len → ∀ j, j < 3 → w.cell? ((a.add (i * 3)).add j) = [Value.int .i64 (F i).kind, .int .i64 (F i).node, .int .i64 (F i).part][j]? := by
      have hh : ∀ i, ∃ p : En, i < len → ∀ j, j < 3 → w.cell? ((a.add (i * 3)).add j) = [Value.int .i64 p.kind, .int .i64 p.node, .int .i64 p.part][j]? := by
        intro i
        by_cases hi : i < len
        · obtain ⟨cs', h1, h2⟩ := hx i (by omega)
          obtain ⟨_, _, hc⟩ := World.cells?_some h1
          obtain ⟨x, e⟩ := open_entry h2
          refine ⟨x, fun _ j hj => ?_⟩
          rw [hc j hj, e]
        · exact ⟨⟨0, 0, 0⟩, fun h => absurd h hi⟩
      exact ⟨fun i => (hh i).choose, fun i hi => (hh i).choose_spec hi⟩
    refine ⟨(List.range len).map F, ⟨some a, cap, by simp, (fun h => by cases h), fun h0 => ?_⟩, by simp; omega⟩
    have h0' : 0 < len := by simpa using h0
    have hc0 := hF 0 h0' 0 (by decide)
    have e0 : (a.add (0 * 3)).add 0 = a.add 0 := by
      obtain ⟨b, off, s⟩ := a
      cases s <;> simp [Addr.add]
    rw [e0] at hc0
    obtain ⟨b, off, rfl, hbl⟩ := spot_none (v := .int .i64 (F 0).kind) (hc0.trans rfl)
    refine ⟨b, off, rfl, hbl, fun i hi => ?_⟩
    have hi' : i < len := by simpa using hi
    have hcell := hF i hi'
    have c : ∀ r, r < 3 → ∀ u, [Value.int .i64 (F i).kind, .int .i64 (F i).node, .int .i64 (F i).part][r]? = some u → w.cell? ⟨b, off + i * 3 + r, none⟩ = some u := by
      intro r hr u hu
      rw [← hu, ← hcell r hr, open_addr, open_addr]
    have e1 : ((List.range len).map F)[i] = F i := by simp
    rw [e1]
    exact ⟨c 0 (by omega) _ rfl, c 1 (by omega) _ rfl, c 2 (by omega) _ rfl⟩

/-- A head that came in. -/
theorem open_head {H : Type} {enc : TypeId × Value → H} {w : World} {base : Nat} {spare : Nat → Bool} {held : Bool} {fuel : Nat} {cs : List Value} {y : DataW H × List MemPlace} (h : DataW.trod enc Try.prog w base spare held fuel 24 cs = some y) :
    ∃ (x : Hd) (v : Value), cs = (headC x v).toList ∧ Ents w v x.list ∧ x.list.length ≤ 9223372036854775807 := by
  obtain ⟨xs, n, _, _, hl, hxl, hf⟩ := DataW.trod_struct Try.underlying24 h
  rw [Try.cellsH] at hl
  have hs : ∀ i, i < 9 → (xs[i]?).isSome = true := fun i hi => by
    have : xs.length = 9 := hxl
    simp [this, hi]
  have g0 : ∃ k, (cs.drop 0).take (Try.prog.cellsOf 3) = [.int .i64 k] := field_int (hs 0 (by decide)) (hf 0 _ rfl)
  have g1 : ∃ k, (cs.drop 1).take (Try.prog.cellsOf 3) = [.int .i64 k] := field_int (hs 1 (by decide)) (hf 1 _ rfl)
  have g2 : ∃ k, (cs.drop 2).take (Try.prog.cellsOf 3) = [.int .i64 k] := field_int (hs 2 (by decide)) (hf 2 _ rfl)
  have g3 : ∃ k, (cs.drop 3).take (Try.prog.cellsOf 3) = [.int .i64 k] := field_int (hs 3 (by decide)) (hf 3 _ rfl)
  have g4 : ∃ k, (cs.drop 4).take (Try.prog.cellsOf 3) = [.int .i64 k] := field_int (hs 4 (by decide)) (hf 4 _ rfl)
  have g5 : ∃ k, (cs.drop 5).take (Try.prog.cellsOf 3) = [.int .i64 k] := field_int (hs 5 (by decide)) (hf 5 _ rfl)
  have g6 : ∃ k, (cs.drop 6).take (Try.prog.cellsOf 3) = [.int .i64 k] := field_int (hs 6 (by decide)) (hf 6 _ rfl)
  have g7 : ∃ k, (cs.drop 7).take (Try.prog.cellsOf 3) = [.int .i64 k] := field_int (hs 7 (by decide)) (hf 7 _ rfl)
  obtain ⟨y8, hy8⟩ := Option.isSome_iff_exists.1 (hs 8 (by decide))
  have t8 : DataW.trod enc Try.prog w base spare held n 22 ((cs.drop 8).take (Try.prog.cellsOf 22)) = some y8 := (hf 8 _ rfl).trans hy8
  rw [Try.cellsL] at t8
  rw [Try.cells3] at g0 g1 g2 g3 g4 g5 g6 g7
  obtain ⟨c0, l0, rfl, h0'⟩ := uncons hl
  obtain ⟨c1, l1, rfl, h1'⟩ := uncons h0'
  obtain ⟨c2, l2, rfl, h2'⟩ := uncons h1'
  obtain ⟨c3, l3, rfl, h3'⟩ := uncons h2'
  obtain ⟨c4, l4, rfl, h4'⟩ := uncons h3'
  obtain ⟨c5, l5, rfl, h5'⟩ := uncons h4'
  obtain ⟨c6, l6, rfl, h6'⟩ := uncons h5'
  obtain ⟨c7, l7, rfl, h7'⟩ := uncons h6'
  obtain ⟨c8, l8, rfl, h8'⟩ := uncons h7'
  obtain rfl := List.length_eq_zero_iff.1 h8'
  simp only [List.drop_succ_cons, List.drop_zero, List.take_succ_cons, List.take_zero] at t8
  obtain ⟨l, hE, hll⟩ := open_entries t8
  simp at g0 g1 g2 g3 g4 g5 g6 g7
  obtain ⟨k0, rfl⟩ := g0
  obtain ⟨k1, rfl⟩ := g1
  obtain ⟨k2, rfl⟩ := g2
  obtain ⟨k3, rfl⟩ := g3
  obtain ⟨k4, rfl⟩ := g4
  obtain ⟨k5, rfl⟩ := g5
  obtain ⟨k6, rfl⟩ := g6
  obtain ⟨k7, rfl⟩ := g7
  exact ⟨⟨k0, k1, k2, k3, k4, k5, k6, k7, l⟩, c8, rfl, hE, hll⟩

/-- A head that came in, as a value. -/
theorem open_headV {H : Type} {enc : TypeId × Value → H} {w : World} {base : Nat} {spare : Nat → Bool} {held : Bool} {fuel : Nat} {cs : Array Value} {y : DataW H × List MemPlace} (h : DataW.trod enc Try.prog w base spare held fuel 24 (Value.agg cs).cells.toList = some y) : ∃ (x : Hd) (v : Value), Value.agg cs = headV x v ∧ Ents w v x.list ∧ x.list.length ≤ 9223372036854775807 := by
  obtain ⟨x, v, e, hE, hl⟩ := open_head h
  refine ⟨x, v, ?_, hE, hl⟩
  have e2 : cs.toList = (headC x v).toList := by simpa [Value.cells] using e
  rw [Array.toList_inj.1 e2]
end Go.Proofs.Ytpfcfldkhecijaa
