/- Entries that a row of the call's own holds: as cells, appended to, turned. -/
import Derived.Test.YtaiebhkjkeadoaaHeadInfo
import Derived.Deep.AppendLies
import Derived.Deep.RegionLaw
namespace Go.Proofs.Ytaiebhkjkeadoaa
open Go.RowKit Rec Hdp

/-- Entries as cells. -/
def ecells (l : List En) : List Value := l.flatMap fun e => [.int .i64 e.kind, .int .i64 e.node, .int .i64 e.part]
theorem ecells_nil : ecells [] = [] := rfl
theorem ecells_cons (e : En) (l : List En) : ecells (e :: l) = [.int .i64 e.kind, .int .i64 e.node, .int .i64 e.part] ++ ecells l := rfl
theorem ecells_append (a b : List En) : ecells (a ++ b) = ecells a ++ ecells b := by simp [ecells]
theorem ecells_one (e : En) : ecells [e] = [.int .i64 e.kind, .int .i64 e.node, .int .i64 e.part] := by simp [ecells]
theorem ecells_length : ∀ l : List En, (ecells l).length = l.length * 3
  | [] => rfl
  | e :: l => by
    rw [ecells_cons, List.length_append, ecells_length l]
    simp only [List.length_cons, List.length_nil]
    omega
theorem ecells_get : ∀ (l : List En) (i j : Nat) (hi : i < l.length) (_ : j < 3), (ecells l)[i * 3 + j]? = [Value.int .i64 l[i].kind, .int .i64 l[i].node, .int .i64 l[i].part][j]?
  | e :: l, 0, j, hi, hj => by
    rw [ecells_cons, List.getElem?_append_left (by show 0 * 3 + j < 3; omega), Nat.zero_mul, Nat.zero_add]
    rfl
  | e :: l, i + 1, j, hi, hj => by
    have h : i < l.length := by simpa using hi
    have e3 : (i + 1) * 3 + j - 3 = i * 3 + j := by omega
    rw [ecells_cons, List.getElem?_append_right (by show 3 ≤ _; omega)]
    show (ecells l)[(i + 1) * 3 + j - 3]? = _
    rw [e3, ecells_get l i j h hj]
    simp
theorem ecells_all (l : List En) : ∀ u ∈ ecells l, u.oneCell' = true := by
  intro u hu
  obtain ⟨e, _, he⟩ := List.mem_flatMap.1 hu
  simp only [List.mem_cons, List.not_mem_nil, or_false] at he
  rcases he with rfl | rfl | rfl <;> rfl

/-- Entries that lie in cells of one block, one behind the other. -/
theorem ents_of {w : World} {b off cap : Nat} {l : List En} (hb : b < w.heap.size) (hc : ∀ j u, (ecells l)[j]? = some u → w.cell? ⟨b, off + j, none⟩ = some u) : Ents w (.slice (some ⟨b, off, none⟩) l.length cap) l := by
  refine ⟨some ⟨b, off, none⟩, cap, rfl, (fun h => by cases h), fun _ => ⟨b, off, rfl, hb, fun i hi => ?_⟩⟩
  refine ⟨?_, ?_, ?_⟩
  · exact hc (i * 3 + 0) _ (by rw [ecells_get l i 0 hi (by decide)]; rfl)
  · rw [Nat.add_assoc]
    exact hc (i * 3 + 1) _ (by rw [ecells_get l i 1 hi (by decide)]; rfl)
  · rw [Nat.add_assoc]
    exact hc (i * 3 + 2) _ (by rw [ecells_get l i 2 hi (by decide)]; rfl)

/-- A row of the call's own holds these entries. -/
def EOwn (w : World) (base : Nat) (v : Value) (l : List En) : Prop := w.ownsRow base 62 3 v l.length (ecells l)
theorem EOwn.nil (w : World) (base : Nat) : EOwn w base (.slice none 0 0) [] := ⟨rfl, .inl ⟨rfl, rfl⟩⟩
theorem EOwn.ents {w : World} {base : Nat} {v : Value} {l : List En} (h : EOwn w base v l) : Ents w v l := by
  obtain ⟨h1, h2⟩ := h
  rcases h2 with ⟨rfl, hz⟩ | ⟨g, cap, cur, rfl, hgb, hg, hle, hmx, hcs, htk⟩
  · rw [List.length_eq_zero_iff.1 hz]
    exact Ents.nil w
  · refine ents_of (Array.getElem?_eq_some_iff.1 hg).1 (fun j u hu => ?_)
    have hj : j < l.length * 3 := by
      rw [← ecells_length]
      exact (List.getElem?_eq_some_iff.1 hu).1
    rw [cell_of_row w _ _ _ _ _ hg, Nat.zero_add, ← hu, ← htk, List.getElem?_take_of_lt hj, Array.getElem?_toList]
theorem EOwn.on {w w' : World} {base : Nat} {v : Value} {l : List En} (h : EOwn w base v l) (k : Below w.heap.size w w') : EOwn w' base v l := by
  obtain ⟨h1, h2⟩ := h
  refine ⟨h1, ?_⟩
  rcases h2 with h2 | ⟨g, cap, cur, rfl, hg, hh, r⟩
  · exact Or.inl h2
  · exact Or.inr ⟨g, cap, cur, rfl, hg, by rw [k.block g (Array.getElem?_eq_some_iff.1 hh).1]; exact hh, r⟩
/-- A cell of another block than the row's is turned. -/
theorem EOwn.other {w : World} {base : Nat} {v : Value} {l : List En} (h : EOwn w base v l) {p : Addr} (hp : p.block < base) (u : Value) : EOwn (w.setCell p u) base v l := by
  obtain ⟨h1, h2⟩ := h
  refine ⟨h1, ?_⟩
  rcases h2 with h2 | ⟨g, cap, cur, rfl, hg, hh, r⟩
  · exact Or.inl h2
  · exact Or.inr ⟨g, cap, cur, rfl, hg, by rw [heap_setCell_other _ _ _ _ (by omega)]; exact hh, r⟩
theorem EOwn.block {w : World} {base : Nat} {v : Value} {l : List En} (h : EOwn w base v l) (k : Nat) (hk : k < base) : v.ownBlock ≠ some k := by
  obtain ⟨h1, h2⟩ := h
  rcases h2 with ⟨rfl, _⟩ | ⟨g, cap, cur, rfl, hg, hh, r⟩
  · simp [Value.ownBlock]
  · simp [Value.ownBlock]
    omega
theorem EOwn.lt {w : World} {base : Nat} {v : Value} {l : List En} (h : EOwn w base v l) : ∀ k, v.ownBlock = some k → base ≤ k ∧ k < w.heap.size := by
  obtain ⟨h1, h2⟩ := h
  rcases h2 with ⟨rfl, _⟩ | ⟨g, cap, cur, rfl, hg, hh, r⟩
  · intro k hk
    simp [Value.ownBlock] at hk
  · intro k hk
    simp [Value.ownBlock] at hk
    subst hk
    exact ⟨hg, (Array.getElem?_eq_some_iff.1 hh).1⟩
theorem EOwn.slice {w : World} {base : Nat} {v : Value} {l : List En} (h : EOwn w base v l) : ∃ ad cap, v = .slice ad l.length cap := by
  obtain ⟨h1, h2⟩ := h
  rcases h2 with ⟨rfl, hz⟩ | ⟨g, cap, cur, rfl, _⟩
  · exact ⟨none, 0, by rw [hz]⟩
  · exact ⟨_, _, rfl⟩

/-- An entry with one number turned. -/
def putE (e : En) (r : Nat) (u : Int) : En := if r = 0 then ⟨u, e.node, e.part⟩ else if r = 1 then ⟨e.kind, u, e.part⟩ else ⟨e.kind, e.node, u⟩

theorem Ents.put {w : World} {g o n c : Nat} {l : List En} (h : Ents w (.slice (some ⟨g, o, none⟩) n c) l) (j r : Nat) (hj : j < l.length) (hr : r < 3) (u : Int) : Ents (w.setCell ⟨g, o + j * 3 + r, none⟩ (.int .i64 u)) (.slice (some ⟨g, o, none⟩) n c) (l.set j (putE l[j] r u)) := by
  obtain ⟨ad, cap, hv, hn, hc⟩ := h
  cases hv
  refine ⟨some ⟨g, o, none⟩, c, by rw [List.length_set], hn, fun _ => ?_⟩
  obtain ⟨b', off, ha, hb, hi⟩ := hc (by omega)
  cases ha
  refine ⟨g, o, rfl, by simpa using hb, fun i h => ?_⟩
  have h' : i < l.length := by simpa using h
  obtain ⟨h0, h1, h2⟩ := hi i h'
  obtain ⟨j0, j1, j2⟩ := hi j hj
  have oth : ∀ q, q ≠ j * 3 + r → (w.setCell ⟨g, o + j * 3 + r, none⟩ (.int .i64 u)).cell? ⟨g, o + q, none⟩ = w.cell? ⟨g, o + q, none⟩ := fun q hq => World.cell?_setCell_other _ _ _ _ (by intro e; simp only [Addr.mk.injEq] at e; omega)
  have same : ∀ q v, q = j * 3 + r → w.cell? ⟨g, o + q, none⟩ = some v → (w.setCell ⟨g, o + j * 3 + r, none⟩ (.int .i64 u)).cell? ⟨g, o + q, none⟩ = some (.int .i64 u) := fun q v hq hv => by
    subst hq
    rw [← Nat.add_assoc] at hv ⊢
    exact World.cell?_setCell_same' _ _ _ (by rw [hv]; rfl)
  have a1 : o + i * 3 + 1 = o + (i * 3 + 1) := by omega
  have a2 : o + i * 3 + 2 = o + (i * 3 + 2) := by omega
  by_cases hij : i = j
  · subst hij
    rw [List.getElem_set_self]
    rw [a1] at h1 ⊢
    rw [a2] at h2 ⊢
    have hc3 : r = 0 ∨ r = 1 ∨ r = 2 := by omega
    rcases hc3 with rfl | rfl | rfl
    · exact ⟨same (i * 3) _ (by omega) h0, (oth _ (by omega)).trans h1, (oth _ (by omega)).trans h2⟩
    · exact ⟨(oth _ (by omega)).trans h0, same _ _ rfl h1, (oth _ (by omega)).trans h2⟩
    · exact ⟨(oth _ (by omega)).trans h0, (oth _ (by omega)).trans h1, same _ _ rfl h2⟩
  · rw [List.getElem_set_ne (by omega)]
    rw [a1] at h1 ⊢
    rw [a2] at h2 ⊢
    exact ⟨(oth _ (by omega)).trans h0, (oth _ (by omega)).trans h1, (oth _ (by omega)).trans h2⟩
end Go.Proofs.Ytaiebhkjkeadoaa
