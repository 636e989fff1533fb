/- Places that came in: the row's reading opened. -/
import Derived.Test.YtpgbnfolekanmaaDoorLeafCode
import Derived.ProofKit
import Derived.OpenShut
import Derived.ShutString
import Derived.ChangeOld
import Derived.Deep.SlicePairs
namespace Go.Proofs.YtpgbnfolekanmaaDoor
open Go.ChangeShapes Go.WideShapes Go.ChangeAt Go.RowKit Lf Go.Deep

theorem lf_addr (b off j : Nat) : (⟨b, off, none⟩ : Addr).add j = ⟨b, off + j, none⟩ := by unfold Addr.add; split <;> simp_all
theorem lf_spot {w : World} {a : Addr} {v : Value} (h : w.cell? (a.add 0) = some v) : ∃ b off, a = ⟨b, off, none⟩ ∧ b < w.heap.size := by
  obtain ⟨b, off, s⟩ := a
  cases s with
  | none =>
    refine ⟨b, off, rfl, ?_⟩
    rw [lf_addr, Nat.add_zero] at h
    exact block_lt_of_cell h
  | some s =>
    unfold Addr.add at h
    simp [World.cell?] at h
    split at h <;> simp at h

/-- Places that came in. -/
theorem open_nams {H : Type} {enc : TypeId × Value → H} {w : World} {base : Nat} {spare : Nat → Bool} {held : Bool} {fuel : Nat} {a0 : Option Addr} {len0 cap0 : Nat} {y : DataW H × List MemPlace} (h : DataW.trod enc Tryd.prog w base spare held fuel 22 (Value.slice a0 len0 cap0).cells.toList = some y) :
    ∃ l : List Nm, Nams w (.slice a0 len0 cap0) l ∧ l.length ≤ 9223372036854775807 := by
  rcases open_slice_pairs Tryd.underlying22 Tryd.underlying41 (by kernel_rfl) (by kernel_rfl) (by kernel_rfl) (by kernel_rfl) (by kernel_rfl) h with ⟨e, _⟩ | ⟨a, len, cap, m, n, V0, V1, D0, D1, P0, P1, e, hb, hlc, hm, hmm, _, hx⟩
  · simp [Value.cells] at e
    obtain ⟨rfl, rfl, rfl⟩ := e
    exact ⟨[], Nams.nil w, by simp⟩
  · simp [Value.cells] at e
    obtain ⟨rfl, rfl, rfl⟩ := e
    have hlm : len0 ≤ m := by rw [hmm]; split <;> omega
    unfold maxLen at hm
    have hh : ∀ i, ∃ p : Nm, i < len0 → w.cell? (a.add (i * 2)) = some (.string p.name) ∧ w.cell? (a.add (i * 2 + 1)) = some (.int .i64 p.node) := by
      intro i
      by_cases hi : i < len0
      · obtain ⟨c0, c1, t0, t1⟩ := hx i (by omega)
        obtain ⟨s, e0, _⟩ := DataW.trod_string Tryd.underlying9 t0
        obtain ⟨k, e1, _⟩ := DataW.trod_int (t := 3) Tryd.underlying3 t1
        simp only [List.cons.injEq, and_true] at e0 e1
        exact ⟨⟨s, k⟩, fun _ => ⟨by rw [c0, e0], by rw [c1, e1]⟩⟩
      · exact ⟨z, fun h => absurd h hi⟩
    obtain ⟨F, hF⟩ : ∃ F : Nat → Nm, ∀ i, i < len0 → w.cell? (a.add (i * 2)) = some (.string (F i).name) ∧ w.cell? (a.add (i * 2 + 1)) = some (.int .i64 (F i).node) := ⟨fun i => (hh i).choose, fun i => (hh i).choose_spec⟩
    refine ⟨(List.range len0).map F, ⟨some a, cap0, by simp, (fun h => by cases h), by simpa using hlc, fun h0 => ?_⟩, by simp; omega⟩
    have h0' : 0 < len0 := by simpa using h0
    have hc0 := (hF 0 h0').1
    rw [Nat.zero_mul] at hc0
    obtain ⟨b, off, rfl, hbl⟩ := lf_spot hc0
    refine ⟨b, off, rfl, hbl, fun i hi => ?_⟩
    have hi' : i < len0 := by simpa using hi
    obtain ⟨c0, c1⟩ := hF i hi'
    rw [lf_addr] at c0 c1
    have e1 : ((List.range len0).map F)[i] = F i := by simp
    rw [e1]
    exact ⟨c0, by rw [Nat.add_assoc]; exact c1⟩
end Go.Proofs.YtpgbnfolekanmaaDoor
