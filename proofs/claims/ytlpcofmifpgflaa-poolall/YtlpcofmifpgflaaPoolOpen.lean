/- How houses that came in lie in memory: the row's reading opened. -/
import Derived.Test.YtlpcofmifpgflaaPoolHouse
import Derived.ProofKit
import Derived.OpenShut
import Derived.ShutString
import Derived.ChangeOld
import Derived.Deep.Slices
namespace Go.Proofs.Ytlpcofmifpgflaa
open Go.ChangeShapes Go.WideShapes Go.ChangeAt Go.RowKit Pool Go.Deep

theorem Try.cells3 : Try.prog.cellsOf 3 = 1 := by kernel_rfl
theorem Try.cellsL : Try.prog.cellsOf 34 = 7 := by kernel_rfl
theorem Try.cellsH : Try.prog.cellsOf 36 = 10 := by kernel_rfl
theorem Try.cellsI : Try.prog.cellsOf 26 = 1 := by kernel_rfl

theorem uncons {α : Type} {l : List α} {n : Nat} (h : l.length = n + 1) : ∃ a t, l = a :: t ∧ t.length = n := by
  cases l with
  | nil => simp at h
  | cons a t => exact ⟨a, t, rfl, by simpa using h⟩
theorem field_int {H : Type} {enc : TypeId × Value → H} {w : World} {base : Nat} {spare : Nat → Bool} {held : Bool} {n : Nat} {cs : List Value} {x : Option (DataW H × List MemPlace)} (hx : x.isSome = true) (h : DataW.trod enc Try.prog w base spare held n 3 cs = x) : ∃ k, cs = [.int .i64 k] := by
  obtain ⟨y, rfl⟩ := Option.isSome_iff_exists.1 hx
  obtain ⟨k, e, _⟩ := DataW.trod_int (t := 3) Try.underlying3 h
  exact ⟨k, e⟩

theorem open_limit {H : Type} {enc : TypeId × Value → H} {w : World} {base : Nat} {spare : Nat → Bool} {held : Bool} {fuel : Nat} {cs : List Value} {y : DataW H × List MemPlace} (h : DataW.trod enc Try.prog w base spare held fuel 34 cs = some y) :
    ∃ x : Lm, cs = [.int .i64 x.s, .int .i64 x.hb, .int .i64 x.sb, .int .i64 x.hn, .int .i64 x.sn, .int .i64 x.gr, .int .i64 x.bu] := by
  obtain ⟨xs, n, _, _, hl, hxl, hf⟩ := DataW.trod_struct Try.underlying34 h
  rw [Try.cellsL] at hl
  have hs : ∀ i, i < 7 → (xs[i]?).isSome = true := fun i hi => by
    have : xs.length = 7 := hxl
    simp [this, hi]
  have g0 : ∃ k, (cs.drop 0).take (Try.prog.cellsOf 3) = [.int .i64 k] := field_int (hs 0 (by decide)) (hf 0 _ rfl)
  have g1 : ∃ k, (cs.drop 1).take (Try.prog.cellsOf 3) = [.int .i64 k] := field_int (hs 1 (by decide)) (hf 1 _ rfl)
  have g2 : ∃ k, (cs.drop 2).take (Try.prog.cellsOf 3) = [.int .i64 k] := field_int (hs 2 (by decide)) (hf 2 _ rfl)
  have g3 : ∃ k, (cs.drop 3).take (Try.prog.cellsOf 3) = [.int .i64 k] := field_int (hs 3 (by decide)) (hf 3 _ rfl)
  have g4 : ∃ k, (cs.drop 4).take (Try.prog.cellsOf 3) = [.int .i64 k] := field_int (hs 4 (by decide)) (hf 4 _ rfl)
  have g5 : ∃ k, (cs.drop 5).take (Try.prog.cellsOf 3) = [.int .i64 k] := field_int (hs 5 (by decide)) (hf 5 _ rfl)
  have g6 : ∃ k, (cs.drop 6).take (Try.prog.cellsOf 3) = [.int .i64 k] := field_int (hs 6 (by decide)) (hf 6 _ rfl)
  rw [Try.cells3] at g0 g1 g2 g3 g4 g5 g6
  obtain ⟨c0, l0, rfl, h0'⟩ := uncons hl
  obtain ⟨c1, l1, rfl, h1'⟩ := uncons h0'
  obtain ⟨c2, l2, rfl, h2'⟩ := uncons h1'
  obtain ⟨c3, l3, rfl, h3'⟩ := uncons h2'
  obtain ⟨c4, l4, rfl, h4'⟩ := uncons h3'
  obtain ⟨c5, l5, rfl, h5'⟩ := uncons h4'
  obtain ⟨c6, l6, rfl, h6'⟩ := uncons h5'
  obtain rfl := List.length_eq_zero_iff.1 h6'
  simp at g0 g1 g2 g3 g4 g5 g6
  obtain ⟨k0, rfl⟩ := g0
  obtain ⟨k1, rfl⟩ := g1
  obtain ⟨k2, rfl⟩ := g2
  obtain ⟨k3, rfl⟩ := g3
  obtain ⟨k4, rfl⟩ := g4
  obtain ⟨k5, rfl⟩ := g5
  obtain ⟨k6, rfl⟩ := g6
  exact ⟨⟨k0, k1, k2, k3, k4, k5, k6⟩, rfl⟩

theorem spot_none {w : World} {a : Addr} {v : Value} (h : w.cell? (a.add 0) = some v) : ∃ b off, a = ⟨b, off, none⟩ ∧ b < w.heap.size := by
  obtain ⟨b, off, s⟩ := a
  cases s with
  | none =>
    refine ⟨b, off, rfl, ?_⟩
    rw [addr_plain, Nat.add_zero] at h
    exact block_lt_of_cell h
  | some s =>
    unfold Addr.add at h
    simp [World.cell?] at h
    split at h <;> simp at h

/-- A house that came in. -/
theorem open_house {H : Type} {enc : TypeId × Value → H} {w : World} {base : Nat} {spare : Nat → Bool} {held : Bool} {fuel : Nat} {cs : List Value} {y : DataW H × List MemPlace} (h : DataW.trod enc Try.prog w base spare held fuel 36 cs = some y) :
    ∃ (x : Ho) (v : Value), cs = (houseCells x v).toList ∧ Ints w v x.segs ∧ x.segs.length ≤ 9223372036854775807 := by
  obtain ⟨xs, n, _, _, hl, hxl, hf⟩ := DataW.trod_struct Try.underlying36 h
  rw [Try.cellsH] at hl
  have hs : ∀ i, i < 4 → (xs[i]?).isSome = true := fun i hi => by
    have : xs.length = 4 := hxl
    simp [this, hi]
  have g0 : ∃ k, (cs.drop 0).take (Try.prog.cellsOf 3) = [.int .i64 k] := field_int (hs 0 (by decide)) (hf 0 _ rfl)
  have g1 : ∃ k, (cs.drop 1).take (Try.prog.cellsOf 3) = [.int .i64 k] := field_int (hs 1 (by decide)) (hf 1 _ rfl)
  obtain ⟨y2, hy2⟩ := Option.isSome_iff_exists.1 (hs 2 (by decide))
  obtain ⟨y3, hy3⟩ := Option.isSome_iff_exists.1 (hs 3 (by decide))
  have t2 : DataW.trod enc Try.prog w base spare held n 34 ((cs.drop 2).take (Try.prog.cellsOf 34)) = some y2 := (hf 2 _ rfl).trans hy2
  have t3 : DataW.trod enc Try.prog w base spare held n 26 ((cs.drop 9).take (Try.prog.cellsOf 26)) = some y3 := (hf 3 _ rfl).trans hy3
  rw [Try.cellsL] at t2
  rw [Try.cellsI] at t3
  rw [Try.cells3] at g0 g1
  obtain ⟨lm, e2⟩ := open_limit t2
  have e3 := open_ints Try.underlying26 Try.underlying3 Try.cells3 t3
  obtain ⟨c0, l0, rfl, h0'⟩ := uncons hl
  obtain ⟨c1, l1, rfl, h1'⟩ := uncons h0'
  obtain ⟨c2, l2, rfl, h2'⟩ := uncons h1'
  obtain ⟨c3, l3, rfl, h3'⟩ := uncons h2'
  obtain ⟨c4, l4, rfl, h4'⟩ := uncons h3'
  obtain ⟨c5, l5, rfl, h5'⟩ := uncons h4'
  obtain ⟨c6, l6, rfl, h6'⟩ := uncons h5'
  obtain ⟨c7, l7, rfl, h7'⟩ := uncons h6'
  obtain ⟨c8, l8, rfl, h8'⟩ := uncons h7'
  obtain ⟨c9, l9, rfl, h9'⟩ := uncons h8'
  obtain rfl := List.length_eq_zero_iff.1 h9'
  simp at g0 g1 e2 e3
  obtain ⟨k0, rfl⟩ := g0
  obtain ⟨k1, rfl⟩ := g1
  obtain ⟨rfl, rfl, rfl, rfl, rfl, rfl, rfl⟩ := e2
  rcases e3 with ⟨rfl, _⟩ | ⟨a, len, cap, rfl, _, hlc, hm, zs, hz, _, hcell, _⟩
  · exact ⟨⟨k0, k1, lm, []⟩, .slice none 0 0, rfl, Ints.nil w, by simp⟩
  · have hzl : len ≤ zs.length := by rw [hz]; split <;> omega
    have hl' : (zs.take len).length = len := by rw [List.length_take]; omega
    unfold maxLen at hm
    refine ⟨⟨k0, k1, lm, zs.take len⟩, .slice (some a) len cap, rfl, ⟨some a, cap, by rw [hl'], (fun h => by cases h), by rw [hl']; exact hlc, fun h0 => ?_⟩, by show (zs.take len).length ≤ _; omega⟩
    have h0' : 0 < (zs.take len).length := h0
    obtain ⟨b, off, rfl, hc⟩ := ints_at (zs := zs) (k := .i64) hcell (by omega)
    refine ⟨b, off, rfl, block_lt_of_cell (hc 0 (by omega)), fun i hi => ?_⟩
    have hi' : i < (zs.take len).length := hi
    have hi2 : i < zs.length := by omega
    rw [hc i hi2]
    show _ = some (Value.int .i64 (zs.take len)[i])
    rw [List.getElem_take]
    simp [List.getD, hi2]

/-- Houses that came in. -/
theorem open_houses {H : Type} {enc : TypeId × Value → H} {w : World} {base : Nat} {spare : Nat → Bool} {held : Bool} {fuel : Nat} {v : Value} {y : DataW H × List MemPlace} (h : DataW.trod enc Try.prog w base spare held fuel 22 [v] = some y) :
    ∃ l : List Ho, Houses w v l ∧ l.length ≤ 9223372036854775807 ∧ ∀ x ∈ l, x.segs.length ≤ 9223372036854775807 := by
  rcases open_slice Try.underlying22 h with ⟨e, _⟩ | ⟨a, len, cap, m, n, D, Pl, e, hb, hlc, hm, hmm, _, hx⟩
  · simp at e
    subst e
    exact ⟨[], Houses.nil w, by simp, fun x hx => by cases hx⟩
  · simp at e
    subst e
    have hlm : len ≤ m := by rw [hmm]; split <;> omega
    rw [Try.cellsH] at hx
    unfold maxLen at hm
    obtain ⟨F, hF⟩ : ∃ F : Nat → Ho × Value, ∀ i, i < len → (∀ j, j < 10 → w.cell? ((a.add (i * 10)).add j) = (houseCells (F i).1 (F i).2)[j]?) ∧ Ints w (F i).2 (F i).1.segs ∧ (F i).1.segs.length ≤ 9223372036854775807 := by
      have hh : ∀ i, ∃ p : Ho × Value, i < len → (∀ j, j < 10 → w.cell? ((a.add (i * 10)).add j) = (houseCells p.1 p.2)[j]?) ∧ Ints w p.2 p.1.segs ∧ p.1.segs.length ≤ 9223372036854775807 := by
        intro i
        by_cases hi : i < len
        · obtain ⟨cs', h1, h2⟩ := hx i (by omega)
          obtain ⟨_, _, hc⟩ := World.cells?_some h1
          obtain ⟨x, v, e, hI, hl⟩ := open_house h2
          refine ⟨(x, v), fun _ => ⟨fun j hj => ?_, hI, hl⟩⟩
          rw [hc j hj, e]
          simp
        · exact ⟨(Ho.z, .slice none 0 0), fun h => absurd h hi⟩
      exact ⟨fun i => (hh i).choose, fun i hi => (hh i).choose_spec hi⟩
    refine ⟨(List.range len).map fun i => (F i).1, ⟨some a, cap, by simp, by simpa using hlc, fun h0 => ?_⟩, by simp; omega, fun x hx => ?_⟩
    · have h0' : 0 < len := by simpa using h0
      have hc0 := (hF 0 h0').1 0 (by decide)
      have e0 : (a.add (0 * 10)).add 0 = a.add 0 := by
        obtain ⟨b, off, s⟩ := a
        cases s <;> simp [Addr.add]
      rw [e0] at hc0
      obtain ⟨b, off, rfl, hbl⟩ := spot_none (v := .int .i64 (F 0).1.st) (hc0.trans rfl)
      refine ⟨b, off, rfl, hbl, fun i hi => ⟨(F i).2, ?_⟩⟩
      have hi' : i < len := by simpa using hi
      have hcell := (hF i hi').1
      have c : ∀ r, r < 10 → ∀ u, (houseCells (F i).1 (F i).2)[r]? = some u → w.cell? ⟨b, off + i * 10 + r, none⟩ = some u := by
        intro r hr u hu
        rw [← hu, ← hcell r hr, addr_plain, addr_plain]
      have e1 : ((List.range len).map fun i => (F i).1)[i] = (F i).1 := by simp
      rw [e1]
      exact ⟨c 0 (by omega) _ rfl, c 1 (by omega) _ rfl, c 2 (by omega) _ rfl, c 3 (by omega) _ rfl, c 4 (by omega) _ rfl, c 5 (by omega) _ rfl, c 6 (by omega) _ rfl, c 7 (by omega) _ rfl, c 8 (by omega) _ rfl, c 9 (by omega) _ rfl, (hF i hi').2.1⟩
    · obtain ⟨i, hi, rfl⟩ := List.mem_map.1 hx
      exact (hF i (List.mem_range.1 hi)).2.2
end Go.Proofs.Ytlpcofmifpgflaa
