/- Entries whose row is another block. -/
import Derived.Test.YtaiebhkjkeadoaaHeadRow
import Derived.Laws.AppendOwnNone
namespace Go.Proofs.Ytaiebhkjkeadoaa
open Go.RowKit Rec Hdp

/-- Entries whose row is another block than the one that is turned. -/
def EFar (w : World) (m : Nat) (v : Value) (l : List En) : Prop :=
  ∃ ad cap, v = .slice ad l.length cap ∧ (ad = none → cap = 0) ∧ (0 < l.length → ∃ b off, ad = some ⟨b, off, none⟩ ∧ m ≤ b ∧ b < w.heap.size ∧ ∀ i (h : i < l.length), w.cell? ⟨b, off + i * 3, none⟩ = some (.int .i64 l[i].kind) ∧ w.cell? ⟨b, off + i * 3 + 1, none⟩ = some (.int .i64 l[i].node) ∧ w.cell? ⟨b, off + i * 3 + 2, none⟩ = some (.int .i64 l[i].part))
theorem EFar.ents {w : World} {m : Nat} {v : Value} {l : List En} (h : EFar w m v l) : Ents w v l := by
  obtain ⟨ad, cap, hv, hn, hc⟩ := h
  refine ⟨ad, cap, hv, hn, fun hl => ?_⟩
  obtain ⟨b, off, ha, _, hb, hi⟩ := hc hl
  exact ⟨b, off, ha, hb, hi⟩
theorem EFar.turned {w : World} {m : Nat} {v : Value} {l : List En} {p : Addr} (h : EFar w m v l) (hp : p.block < m) (u : Value) : EFar (w.setCell p u) m v l := by
  obtain ⟨ad, cap, hv, hn, hc⟩ := h
  refine ⟨ad, cap, hv, hn, fun hl => ?_⟩
  obtain ⟨b, off, ha, hm, hb, hi⟩ := hc hl
  refine ⟨b, off, ha, hm, by simpa using hb, fun i h => ?_⟩
  obtain ⟨h0, h1, h2⟩ := hi i h
  have hne : ∀ q, p ≠ (⟨b, q, none⟩ : Addr) := fun q e => by rw [e] at hp; dsimp only at hp; omega
  exact ⟨by rw [World.cell?_setCell_other _ _ _ _ (hne _)]; exact h0, by rw [World.cell?_setCell_other _ _ _ _ (hne _)]; exact h1, by rw [World.cell?_setCell_other _ _ _ _ (hne _)]; exact h2⟩
theorem EOwn.far {w : World} {base : Nat} {v : Value} {l : List En} (h : EOwn w base v l) : EFar w base v l := by
  have hE := h.ents
  have hL := h.lt
  obtain ⟨ad, cap, rfl, hn, hc⟩ := hE
  refine ⟨ad, cap, rfl, hn, fun hl => ?_⟩
  obtain ⟨b, off, rfl, hb, hi⟩ := hc hl
  refine ⟨b, off, rfl, ?_, hb, hi⟩
  obtain ⟨h1, h2⟩ := h
  rcases h2 with ⟨hv, _⟩ | ⟨g, cap, cur, hv, hg, _⟩
  · cases hv
  · cases hv
    exact hg

theorem addr_at (b off j : Nat) : (⟨b, off, none⟩ : Addr).add j = ⟨b, off + j, none⟩ := by unfold Addr.add; split <;> simp_all

end Go.Proofs.Ytaiebhkjkeadoaa
