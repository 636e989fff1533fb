/- Places in one block: made, turned cell by cell; as a slice; rows of the call's own that are appended to. -/
import Derived.Test.YtpgbnfolekanmaaDoorLeafCode
import Derived.Deep.AppendLies
import Derived.Laws.AppendOwnNone
namespace Go.Proofs.YtpgbnfolekanmaaDoor
open Go.RowKit Lf

/-- A place's two cells. -/
def nmC (p : Nm) : List Value := [.string p.name, .int .i64 p.node]
/-- Places as cells. -/
def ncells (l : List Nm) : List Value := l.flatMap nmC
theorem ncells_nil : ncells [] = [] := rfl
theorem ncells_cons (p : Nm) (l : List Nm) : ncells (p :: l) = nmC p ++ ncells l := rfl
theorem ncells_append (a b : List Nm) : ncells (a ++ b) = ncells a ++ ncells b := by simp [ncells]
theorem ncells_one (p : Nm) : ncells [p] = [.string p.name, .int .i64 p.node] := by simp [ncells, nmC]
theorem ncells_length : ∀ l : List Nm, (ncells l).length = l.length * 2
  | [] => rfl
  | p :: l => by
    rw [ncells_cons, List.length_append, ncells_length l, List.length_cons]
    show 2 + _ = _
    omega
theorem ncells_get : ∀ (l : List Nm) (k r : Nat) (hk : k < l.length) (_ : r < 2), (ncells l)[k * 2 + r]? = (nmC l[k])[r]?
  | x :: l, 0, r, hk, hr => by
    rw [ncells_cons, List.getElem?_append_left (by show 0 * 2 + r < 2; omega)]
    simp
  | x :: l, k + 1, r, hk, hr => by
    have h : k < l.length := by simpa using hk
    have e2 : (nmC x).length = 2 := rfl
    rw [ncells_cons, List.getElem?_append_right (by rw [e2]; omega), e2]
    have e3 : (k + 1) * 2 + r - 2 = k * 2 + r := by omega
    rw [e3, ncells_get l k r h hr]
    simp
theorem ncells_set : ∀ (l : List Nm) (k r : Nat) (u : Value) (p : Nm) (hk : k < l.length) (_ : r < 2), nmC p = (nmC l[k]).set r u → (ncells l).set (k * 2 + r) u = ncells (l.set k p)
  | x :: l, 0, r, u, p, hk, hr, hp => by
    rw [ncells_cons, Nat.zero_mul, Nat.zero_add, List.set_append_left _ _ (by show r < 2; omega), List.set_cons_zero, ncells_cons, hp]
    rfl
  | x :: l, k + 1, r, u, p, hk, hr, hp => by
    have h : k < l.length := by simpa using hk
    have e2 : (nmC x).length = 2 := rfl
    have e3 : (k + 1) * 2 + r - 2 = k * 2 + r := by omega
    rw [ncells_cons, List.set_append_right _ _ (by rw [e2]; omega), e2, e3, ncells_set l k r u p h hr (by simpa using hp), List.set_cons_succ, ncells_cons]
theorem ncells_all (l : List Nm) : ∀ u ∈ ncells l, u.oneCell' = true := by
  intro u hu
  obtain ⟨p, _, hp⟩ := List.mem_flatMap.1 hu
  simp only [nmC, List.mem_cons, List.not_mem_nil, or_false] at hp
  rcases hp with rfl | rfl <;> rfl

/-- Places that lie in cells one behind the other. -/
theorem nams_of {w : World} {b off cap : Nat} {l : List Nm} (hb : b < w.heap.size) (hcap : l.length ≤ cap) (hc : ∀ j u, (ncells l)[j]? = some u → w.cell? ⟨b, off + j, none⟩ = some u) : Nams w (.slice (some ⟨b, off, none⟩) l.length cap) l := by
  refine ⟨some ⟨b, off, none⟩, cap, rfl, (fun h => by cases h), hcap, fun _ => ⟨b, off, rfl, hb, fun i hi => ⟨?_, ?_⟩⟩⟩
  · exact hc (i * 2 + 0) _ (by rw [ncells_get l i 0 hi (by decide)]; rfl)
  · rw [Nat.add_assoc]
    exact hc (i * 2 + 1) _ (by rw [ncells_get l i 1 hi (by decide)]; rfl)

/-- A block that holds these places. -/
def NRow (w : World) (b : Nat) (l : List Nm) : Prop := w.heap[b]? = some (.cells (ncells l).toArray 41 (0, 0))
theorem NRow.lt {w : World} {b : Nat} {l : List Nm} (h : NRow w b l) : b < w.heap.size := (Array.getElem?_eq_some_iff.1 h).1
theorem NRow.on {w w' : World} {b : Nat} {l : List Nm} (h : NRow w b l) (k : Below w.heap.size w w') : NRow w' b l := by
  unfold NRow
  rw [k.block b h.lt]
  exact h
theorem NRow.cell {w : World} {b : Nat} {l : List Nm} (h : NRow w b l) (k r : Nat) (hk : k < l.length) (hr : r < 2) : w.cell? ⟨b, k * 2 + r, none⟩ = (nmC l[k])[r]? := by
  rw [cell_of_row w _ _ _ _ _ h, List.getElem?_toArray, ncells_get l k r hk hr]
theorem NRow.name {w : World} {b : Nat} {l : List Nm} (h : NRow w b l) (k : Nat) (hk : k < l.length) : w.cell? ⟨b, k * 2, none⟩ = some (.string l[k].name) := h.cell k 0 hk (by decide)
theorem NRow.node {w : World} {b : Nat} {l : List Nm} (h : NRow w b l) (k : Nat) (hk : k < l.length) : w.cell? ⟨b, k * 2 + 1, none⟩ = some (.int .i64 l[k].node) := h.cell k 1 hk (by decide)
theorem NRow.frozen {w : World} {b : Nat} {l : List Nm} (h : NRow w b l) (j : Nat) : w.frozen? ⟨b, j, none⟩ = false := frozen_of_row w _ _ _ _ h
/-- A piece of the block as a slice. -/
theorem NRow.piece {w : World} {b : Nat} {l : List Nm} (h : NRow w b l) (a n cap : Nat) (han : a + n ≤ l.length) (hcap : n ≤ cap) : Nams w (.slice (some ⟨b, a * 2, none⟩) n cap) ((l.drop a).take n) := by
  have hlen : ((l.drop a).take n).length = n := by rw [List.length_take, List.length_drop]; omega
  have := nams_of (w := w) (b := b) (off := a * 2) (cap := cap) (l := (l.drop a).take n) h.lt (by omega) (fun j u hu => by
    have hj : j < n * 2 := by
      have := (List.getElem?_eq_some_iff.1 hu).1
      rw [ncells_length, hlen] at this
      exact this
    have e1 : j = j / 2 * 2 + j % 2 := by omega
    have hk : j / 2 < ((l.drop a).take n).length := by omega
    rw [e1, ncells_get _ (j / 2) (j % 2) hk (by omega)] at hu
    have e2 : a * 2 + j = (a + j / 2) * 2 + j % 2 := by omega
    have e3 : ((l.drop a).take n)[j / 2] = l[a + j / 2]'(by omega) := by rw [List.getElem_take, List.getElem_drop]
    rw [e2, h.cell (a + j / 2) (j % 2) (by omega) (by omega), ← e3]
    exact hu)
  rw [hlen] at this
  exact this
theorem NRow.nams {w : World} {b cap : Nat} {l : List Nm} (h : NRow w b l) (hcap : l.length ≤ cap) : Nams w (.slice (some ⟨b, 0, none⟩) l.length cap) l := by
  have := h.piece 0 l.length cap (by omega) hcap
  rw [List.drop_zero, List.take_length, Nat.zero_mul] at this
  exact this
theorem NRow.set {w : World} {b : Nat} {l : List Nm} (h : NRow w b l) (k r : Nat) (u : Value) (p : Nm) (hk : k < l.length) (hr : r < 2) (hp : nmC p = (nmC l[k]).set r u) : NRow (w.setCell ⟨b, k * 2 + r, none⟩ u) b (l.set k p) := by
  have := heap_setCell_same w b (k * 2 + r) _ _ u h
  unfold NRow
  rw [this, ← ncells_set l k r u p hk hr hp]
  simp
/-- A whole place written into the row. -/
theorem NRow.put {w : World} {b : Nat} {l : List Nm} (h : NRow w b l) (k : Nat) (p : Nm) (hk : k < l.length) : NRow ((w.setCell ⟨b, k * 2, none⟩ (.string p.name)).setCell ⟨b, k * 2 + 1, none⟩ (.int .i64 p.node)) b (l.set k p) := by
  have h0 := h.set k 0 (.string p.name) ⟨p.name, l[k].node⟩ hk (by decide) rfl
  have hk2 : k < (l.set k ⟨p.name, l[k].node⟩).length := by rw [List.length_set]; exact hk
  have h1 := h0.set k 1 (.int .i64 p.node) p hk2 (by decide) (by rw [List.getElem_set_self]; rfl)
  rw [List.set_set] at h1
  exact h1
theorem NRow.other {w : World} {b : Nat} {l : List Nm} (h : NRow w b l) {p : Addr} (hp : p.block ≠ b) (u : Value) : NRow (w.setCell p u) b l := by
  unfold NRow
  rw [heap_setCell_other _ _ _ _ (by omega)]
  exact h

theorem Tryd.infoN : (Tryd.prog.info? 41).map (fun i => (i.zero, i.size, i.bytes)) = some (some (.agg #[.string ⟨#[]⟩, .int .i64 0]), 2, 24) := by kernel_rfl

/-- So many empty places, made. -/
theorem nmake (n : Nat) (hn : n ≤ 100000) (w : World) : (Instr.makeSlice 22 (.int .i64 n) (.int .i64 n)).run Tryd.prog w = .ok (.slice (some ⟨w.heap.size, 0, none⟩) n n) (w.alloc (.cells (ncells (List.replicate n z)).toArray 41)) := by
  obtain ⟨i0, hi, hz0, hz1, hz2⟩ := info_parts Tryd.infoN
  have := run_make (P := Tryd.prog) w 22 41 i0 _ Tryd.underlying22 hi hz0 .i64 .i64 n n (by omega) (by omega) (by rw [hz2]; omega) (by omega)
  rw [this, hz1]
  have e : madeCells (Value.agg #[.string ⟨#[]⟩, .int .i64 0]).cells ((n : Int).toNat * 2) = (ncells (List.replicate n z)).toArray := by
    apply Array.ext_getElem?
    intro j
    by_cases hj : j < n * 2
    · have e1 : j = j / 2 * 2 + j % 2 := by omega
      have hk : j / 2 < (List.replicate n z).length := by rw [List.length_replicate]; omega
      have e2 : (ncells (List.replicate n z))[j]? = (nmC z)[j % 2]? := by
        have := ncells_get (List.replicate n z) (j / 2) (j % 2) hk (by omega)
        rw [← e1, List.getElem_replicate] at this
        exact this
      have e3 : (ncells (List.replicate n z)).toArray[j]? = (nmC z)[j % 2]? := by
        rw [List.getElem?_toArray]
        exact e2
      rw [e3]
      clear e1
      have h3 : j % 2 = 0 ∨ j % 2 = 1 := by omega
      rcases h3 with h3 | h3 <;> rw [h3] <;> simp [madeCells, Value.cells, hj, h3, nmC, z]
    · rw [Array.getElem?_eq_none (by simp [madeCells]; omega), Array.getElem?_eq_none (by simp [ncells_length]; omega)]
  rw [e]; simp
theorem nmake_row (n : Nat) (w : World) : NRow (w.alloc (.cells (ncells (List.replicate n z)).toArray 41)) w.heap.size (List.replicate n z) := heap_alloc_new _ _

/-! ### Rows of the call's own, appended to -/

def NOwn (w : World) (base : Nat) (v : Value) (l : List Nm) : Prop := w.ownsRow base 41 2 v l.length (ncells l)
theorem NOwn.nil (w : World) (base : Nat) : NOwn w base (.slice none 0 0) [] := ⟨rfl, .inl ⟨rfl, rfl⟩⟩
theorem NOwn.nams {w : World} {base : Nat} {v : Value} {l : List Nm} (h : NOwn w base v l) : Nams w v l := by
  obtain ⟨h1, h2⟩ := h
  rcases h2 with ⟨rfl, hz⟩ | ⟨g, cap, cur, rfl, hgb, hg, hle, hmx, hcs, htk⟩
  · rw [List.length_eq_zero_iff.1 hz]
    exact Nams.nil w
  · refine nams_of (Array.getElem?_eq_some_iff.1 hg).1 hle (fun j u hu => ?_)
    have hj : j < l.length * 2 := by
      rw [← ncells_length]
      exact (List.getElem?_eq_some_iff.1 hu).1
    rw [cell_of_row w _ _ _ _ _ hg, Nat.zero_add, ← hu, ← htk, List.getElem?_take_of_lt hj, Array.getElem?_toList]
theorem NOwn.on {w w' : World} {base : Nat} {v : Value} {l : List Nm} (h : NOwn w base v l) (k : Below w.heap.size w w') : NOwn w' base v l := by
  obtain ⟨h1, h2⟩ := h
  refine ⟨h1, ?_⟩
  rcases h2 with h2 | ⟨g, cap, cur, rfl, hg, hh, r⟩
  · exact Or.inl h2
  · exact Or.inr ⟨g, cap, cur, rfl, hg, by rw [k.block g (Array.getElem?_eq_some_iff.1 hh).1]; exact hh, r⟩
theorem NOwn.slice {w : World} {base : Nat} {v : Value} {l : List Nm} (h : NOwn w base v l) : ∃ ad cap, v = .slice ad l.length cap := h.nams.slice
theorem NOwn.lt {w : World} {base : Nat} {v : Value} {l : List Nm} (h : NOwn w base v l) : ∀ k, v.ownBlock = some k → base ≤ k ∧ k < w.heap.size := by
  obtain ⟨h1, h2⟩ := h
  rcases h2 with ⟨rfl, _⟩ | ⟨g, cap, cur, rfl, hg, hh, r⟩
  · intro k hk
    simp [Value.ownBlock] at hk
  · intro k hk
    simp [Value.ownBlock] at hk
    subst hk
    exact ⟨hg, (Array.getElem?_eq_some_iff.1 hh).1⟩
theorem nm_addr (b off j : Nat) : (⟨b, off, none⟩ : Addr).add j = ⟨b, off + j, none⟩ := by unfold Addr.add; split <;> simp_all
/-- The cells of places, wherever they lie. -/
theorem Nams.cells {w : World} {ad : Addr} {n cap : Nat} {l : List Nm} (h : Nams w (.slice (some ad) n cap) l) : ∀ j u, (ncells l)[j]? = some u → w.cell? (ad.add j) = some u := by
  intro j u hj
  have hj2 : j < l.length * 2 := by
    rw [← ncells_length]
    exact (List.getElem?_eq_some_iff.1 hj).1
  have e1 : j = j / 2 * 2 + j % 2 := by omega
  have hk : j / 2 < l.length := by omega
  obtain ⟨b, off, ha, _, c0, c1⟩ := h.at hk
  cases ha
  rw [nm_addr]
  rw [e1, ncells_get l (j / 2) (j % 2) hk (by omega)] at hj
  have h3 : j % 2 = 0 ∨ j % 2 = 1 := by omega
  rcases h3 with h3 | h3
  · rw [h3] at hj
    have e2 : off + j = off + j / 2 * 2 := by omega
    rw [e2, ← hj]
    exact c0
  · rw [h3] at hj
    have e2 : off + j = off + j / 2 * 2 + 1 := by omega
    rw [e2, ← hj]
    exact c1
theorem Nams.none_ {w : World} {n cap : Nat} {l : List Nm} (h : Nams w (.slice none n cap) l) : l = [] ∧ cap = 0 := by
  obtain ⟨ad, cap', hv, hn, hcap, hc⟩ := h
  cases hv
  have hc0 := hn rfl
  exact ⟨List.length_eq_zero_iff.1 (by omega), hc0⟩
end Go.Proofs.YtpgbnfolekanmaaDoor
