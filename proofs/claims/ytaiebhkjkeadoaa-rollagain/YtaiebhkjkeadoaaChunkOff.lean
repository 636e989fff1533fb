/- Entries apart from a result's own cell; no chunk. -/
import Derived.Test.YtaiebhkjkeadoaaChunkRes
import Derived.Test.YtaiebhkjkeadoaaHeadInfo
namespace Go.Proofs.Ytaiebhkjkeadoaa
open Go.RowKit Rec Hdp Chk

/-- Entries that lie in another block than that one. -/
def EOff (w : World) (g : Nat) (v : Value) (l : List En) : Prop :=
  ∃ ad cap, v = .slice ad l.length cap ∧ (ad = none → cap = 0) ∧ (0 < l.length → ∃ b off, ad = some ⟨b, off, none⟩ ∧ b ≠ g ∧ b < w.heap.size ∧ ∀ i (h : i < l.length), w.cell? ⟨b, off + i * 3, none⟩ = some (.int .i64 l[i].kind) ∧ w.cell? ⟨b, off + i * 3 + 1, none⟩ = some (.int .i64 l[i].node) ∧ w.cell? ⟨b, off + i * 3 + 2, none⟩ = some (.int .i64 l[i].part))
theorem EOff.ents {w : World} {g : Nat} {v : Value} {l : List En} (h : EOff w g v l) : Ents w v l := by
  obtain ⟨ad, cap, hv, hn, hc⟩ := h
  refine ⟨ad, cap, hv, hn, fun hl => ?_⟩
  obtain ⟨b, off, ha, _, hb, hi⟩ := hc hl
  exact ⟨b, off, ha, hb, hi⟩
theorem EOff.turned {w : World} {g : Nat} {v : Value} {l : List En} {p : Addr} (h : EOff w g v l) (hp : p.block = g) (u : Value) : EOff (w.setCell p u) g v l := by
  obtain ⟨ad, cap, hv, hn, hc⟩ := h
  refine ⟨ad, cap, hv, hn, fun hl => ?_⟩
  obtain ⟨b, off, ha, hm, hb, hi⟩ := hc hl
  refine ⟨b, off, ha, hm, by simpa using hb, fun i h => ?_⟩
  obtain ⟨h0, h1, h2⟩ := hi i h
  have hne : ∀ q, p ≠ (⟨b, q, none⟩ : Addr) := fun q e => by rw [e] at hp; exact hm hp
  exact ⟨by rw [World.cell?_setCell_other _ _ _ _ (hne _)]; exact h0, by rw [World.cell?_setCell_other _ _ _ _ (hne _)]; exact h1, by rw [World.cell?_setCell_other _ _ _ _ (hne _)]; exact h2⟩
theorem EOff.on {w w' : World} {g : Nat} {v : Value} {l : List En} (h : EOff w g v l) (k : Below w.heap.size w w') : EOff w' g v l := by
  obtain ⟨ad, cap, hv, hn, hc⟩ := h
  refine ⟨ad, cap, hv, hn, fun hl => ?_⟩
  obtain ⟨b, off, ha, hm, hb, hi⟩ := hc hl
  exact ⟨b, off, ha, hm, Nat.lt_of_lt_of_le hb k.size, fun i h => by rw [k.cell hb, k.cell hb, k.cell hb]; exact hi i h⟩
/-- Entries that may be lie in no row of zeros. -/
theorem Ents.off {w : World} {v : Value} {X : Hd} (h : Ents w v X.list) {g : Nat} {t : TypeId} {fr : Nat × Nat} (hg : w.heap[g]? = some (.cells (headC Hd.z (.slice none 0 0)) t fr)) (hok : okB X = true) : EOff w g v X.list := by
  obtain ⟨ad, cap, hv, hn, hc⟩ := h
  refine ⟨ad, cap, hv, hn, fun hl => ?_⟩
  obtain ⟨b, off, ha, hb, hi⟩ := hc hl
  refine ⟨b, off, ha, fun e => ?_, hb, hi⟩
  subst e
  have hk := en_kind (okB_all hok _ (List.getElem_mem hl))
  obtain ⟨h0, -, -⟩ := hi 0 hl
  rw [Nat.zero_mul, Nat.add_zero, cell_of_row w b off _ _ _ hg] at h0
  have h9 : off < 9 := (Array.getElem?_eq_some_iff.1 h0).1
  have hcs : off = 0 ∨ off = 1 ∨ off = 2 ∨ off = 3 ∨ off = 4 ∨ off = 5 ∨ off = 6 ∨ off = 7 ∨ off = 8 := by omega
  rcases hcs with rfl | rfl | rfl | rfl | rfl | rfl | rfl | rfl | rfl <;> simp [headC, Hd.z] at h0 <;> omega
theorem TOwn.other {w : World} {base : Nat} {v : Value} {l : List ByteArray} (h : TOwn w base v l) {p : Addr} (hp : p.block < base) (u : Value) : TOwn (w.setCell p u) base v l := by
  obtain ⟨h1, h2⟩ := h
  refine ⟨h1, ?_⟩
  rcases h2 with h2 | ⟨g, cap, cur, rfl, hg, hh, r⟩
  · exact Or.inl h2
  · refine Or.inr ⟨g, cap, cur, rfl, hg, ?_, r⟩
    rw [heap_setCell_other _ _ _ _ (by omega)]
    exact hh

/-- No chunk. -/
def noChunk : Value := .tuple #[headV Hd.z (.slice none 0 0), .slice none 0 0, .bool false]

theorem EOff.keep {w w' : World} {g : Nat} {v : Value} {l : List En} (h : EOff w g v l) (hg : w.grownBy w' (some g)) : Ents w' v l := by
  obtain ⟨ad, cap, hv, hn, hc⟩ := h
  refine ⟨ad, cap, hv, hn, fun hl => ?_⟩
  obtain ⟨b, off, ha, hm, hb, hi⟩ := hc hl
  have hne : ∀ q, some (⟨b, q, none⟩ : Addr).block ≠ some g := fun q e => hm (Option.some.inj e)
  exact ⟨b, off, ha, Nat.lt_of_lt_of_le hb hg.size, fun i h => ⟨hg.cell (hi i h).1 (hne _), hg.cell (hi i h).2.1 (hne _), hg.cell (hi i h).2.2 (hne _)⟩⟩

theorem piece_at (s : ByteArray) (i n : Nat) (hi : i < n) : (s.extract 256 (256 * (1 + n))).extract (256 * i) (256 * i + 256) = s.extract (256 * (1 + i)) (256 * (1 + i) + 256) := by
  apply bytes_ext
  rw [extract_list, extract_list, extract_list, List.take_drop, List.take_take, List.drop_drop]
  rw [Nat.min_eq_left (by omega)]
  have e1 : 256 + (256 * i + 256) = 256 * (1 + i) + 256 := by omega
  have e2 : 256 + 256 * i = 256 * (1 + i) := by omega
  rw [e1, e2]

end Go.Proofs.Ytaiebhkjkeadoaa
