/- Sixteen houses in one block: made, turned field by field; as a slice of houses. -/
import Derived.Test.YtdhdjnpgebddmaaTabHouse
namespace Go.Proofs.Ytdhdjnpgebddmaa
open Go.RowKit Tab

theorem bcell {W w1 : World} (hb : Below W.heap.size W w1) : (∀ b o, b < W.heap.size → w1.cell? ⟨b, o, none⟩ = W.cell? ⟨b, o, none⟩) ∧ (∀ b o, b < W.heap.size → w1.frozen? ⟨b, o, none⟩ = W.frozen? ⟨b, o, none⟩) :=
  ⟨fun b o h => hb.cell (p := ⟨b, o, none⟩) h, fun b o h => hb.frozen (p := ⟨b, o, none⟩) h⟩

/-- A house's numbers in memory, its segments' slice behind them. -/
def houseCells (h : Ho) (v : Value) : Array Value := #[.int .i64 h.st, .int .i64 h.gen, .int .i64 h.lim.s, .int .i64 h.lim.hb, .int .i64 h.lim.sb, .int .i64 h.lim.hn, .int .i64 h.lim.sn, .int .i64 h.lim.gr, .int .i64 h.lim.bu, v]
/-- Houses as cells, each with its segments' slice. -/
def hcells (l : List (Ho × Value)) : List Value := l.flatMap fun p => (houseCells p.1 p.2).toList
theorem hcells_length : ∀ l : List (Ho × Value), (hcells l).length = l.length * 10
  | [] => rfl
  | a :: r => by
    have e : hcells (a :: r) = (houseCells a.1 a.2).toList ++ hcells r := rfl
    rw [e, List.length_append, hcells_length r, List.length_cons]
    show 10 + _ = _
    omega
theorem hcells_append (a b : List (Ho × Value)) : hcells (a ++ b) = hcells a ++ hcells b := by simp [hcells]
theorem hcells_one (p : Ho × Value) : hcells [p] = (houseCells p.1 p.2).toList := by simp [hcells]
theorem hcells_get : ∀ (l : List (Ho × Value)) (k r : Nat) (hk : k < l.length) (_ : r < 10), (hcells l)[k * 10 + r]? = (houseCells l[k].1 l[k].2)[r]?
  | x :: l, 0, r, hk, hr => by
    have e : hcells (x :: l) = (houseCells x.1 x.2).toList ++ hcells l := rfl
    rw [e, List.getElem?_append_left (by show 0 * 10 + r < 10; omega)]
    simp
  | x :: l, k + 1, r, hk, hr => by
    have h : k < l.length := by simpa using hk
    have e : hcells (x :: l) = (houseCells x.1 x.2).toList ++ hcells l := rfl
    have e2 : ((houseCells x.1 x.2).toList).length = 10 := rfl
    rw [e, List.getElem?_append_right (by rw [e2]; omega), e2]
    have e3 : (k + 1) * 10 + r - 10 = k * 10 + r := by omega
    rw [e3, hcells_get l k r h hr]
    simp

/-- One cell of one house turned. -/
theorem hcells_set : ∀ (l : List (Ho × Value)) (k r : Nat) (u : Value) (p : Ho × Value) (hk : k < l.length) (_ : r < 10), (houseCells p.1 p.2).toList = (houseCells l[k].1 l[k].2).toList.set r u → (hcells l).set (k * 10 + r) u = hcells (l.set k p)
  | x :: l, 0, r, u, p, hk, hr, hp => by
    have e : hcells (x :: l) = (houseCells x.1 x.2).toList ++ hcells l := rfl
    have e' : hcells (p :: l) = (houseCells p.1 p.2).toList ++ hcells l := rfl
    rw [e, Nat.zero_mul, Nat.zero_add, List.set_append_left _ _ (by show r < 10; omega), List.set_cons_zero, e', hp]
    rfl
  | x :: l, k + 1, r, u, p, hk, hr, hp => by
    have h : k < l.length := by simpa using hk
    have e : hcells (x :: l) = (houseCells x.1 x.2).toList ++ hcells l := rfl
    have e2 : ((houseCells x.1 x.2).toList).length = 10 := rfl
    have e3 : (k + 1) * 10 + r - 10 = k * 10 + r := by omega
    rw [e, List.set_append_right _ _ (by rw [e2]; omega), e2, e3, hcells_set l k r u p h hr (by simpa using hp), List.set_cons_succ]
    rfl

/-- Houses that lie in cells of one block, one behind the other. -/
theorem houses_of {w : World} {b off cap : Nat} {l : List (Ho × Value)} (hb : b < w.heap.size) (hc : ∀ j u, (hcells l)[j]? = some u → w.cell? ⟨b, off + j, none⟩ = some u) (hI : ∀ p ∈ l, Ints w p.2 p.1.segs) : Houses w (.slice (some ⟨b, off, none⟩) l.length cap) (l.map (·.1)) := by
  refine ⟨some ⟨b, off, none⟩, cap, by simp, fun _ => ⟨b, off, rfl, hb, fun i h => ?_⟩⟩
  have hi : i < l.length := by simpa using h
  refine ⟨l[i].2, ?_⟩
  have e : (l.map (·.1))[i] = l[i].1 := by simp
  rw [e]
  have c : ∀ r, r < 10 → ∀ u, (houseCells l[i].1 l[i].2)[r]? = some u → w.cell? ⟨b, off + i * 10 + r, none⟩ = some u := by
    intro r hr u hu
    rw [Nat.add_assoc]
    exact hc (i * 10 + r) u (by rw [hcells_get l i r hi hr]; exact hu)
  exact ⟨c 0 (by omega) _ rfl, c 1 (by omega) _ rfl, c 2 (by omega) _ rfl, c 3 (by omega) _ rfl, c 4 (by omega) _ rfl, c 5 (by omega) _ rfl, c 6 (by omega) _ rfl, c 7 (by omega) _ rfl, c 8 (by omega) _ rfl, c 9 (by omega) _ rfl, hI l[i] (List.getElem_mem hi)⟩

/-- A block that holds these houses. -/
def HRow (w : World) (b : Nat) (l : List (Ho × Value)) : Prop := w.heap[b]? = some (.cells (hcells l).toArray 42 (0, 0))

theorem HRow.lt {w : World} {b : Nat} {l : List (Ho × Value)} (h : HRow w b l) : b < w.heap.size := (Array.getElem?_eq_some_iff.1 h).1
theorem HRow.on {w w' : World} {b : Nat} {l : List (Ho × Value)} (h : HRow w b l) (k : Below w.heap.size w w') : HRow w' b l := by
  unfold HRow
  rw [k.block b h.lt]
  exact h
theorem HRow.cell {w : World} {b : Nat} {l : List (Ho × Value)} (h : HRow w b l) (k r : Nat) (hk : k < l.length) (hr : r < 10) : w.cell? ⟨b, k * 10 + r, none⟩ = (houseCells l[k].1 l[k].2)[r]? := by
  rw [cell_of_row w _ _ _ _ _ h, List.getElem?_toArray, hcells_get l k r hk hr]
theorem HRow.frozen {w : World} {b : Nat} {l : List (Ho × Value)} (h : HRow w b l) (j : Nat) : w.frozen? ⟨b, j, none⟩ = false := frozen_of_row w _ _ _ _ h
theorem HRow.houses {w : World} {b cap : Nat} {l : List (Ho × Value)} (h : HRow w b l) (hI : ∀ p ∈ l, Ints w p.2 p.1.segs) : Houses w (.slice (some ⟨b, 0, none⟩) l.length cap) (l.map (·.1)) := by
  refine houses_of h.lt (fun j u hu => ?_) hI
  rw [cell_of_row w _ _ _ _ _ h, Nat.zero_add, List.getElem?_toArray]
  exact hu
theorem HRow.set {w : World} {b : Nat} {l : List (Ho × Value)} (h : HRow w b l) (k r : Nat) (u : Value) (p : Ho × Value) (hk : k < l.length) (hr : r < 10) (hp : (houseCells p.1 p.2).toList = (houseCells l[k].1 l[k].2).toList.set r u) : HRow (w.setCell ⟨b, k * 10 + r, none⟩ u) b (l.set k p) := by
  have := heap_setCell_same w b (k * 10 + r) _ _ u h
  unfold HRow
  rw [this, ← hcells_set l k r u p hk hr hp]
  simp

/-- Sixteen houses that are none. -/
def none16 : List (Ho × Value) := List.replicate 16 (Ho.z, .slice none 0 0)
def none16c : Array Value := (hcells none16).toArray
theorem make16 (w : World) : (Instr.makeSlice 22 (.int .i64 16) (.int .i64 16)).run Try.prog w = .ok (.slice (some ⟨w.heap.size, 0, none⟩) 16 16) (w.alloc (.cells none16c 42)) := by kernel_rfl
theorem none16_row (w : World) : HRow (w.alloc (.cells none16c 42)) w.heap.size none16 := heap_alloc_new _ _
theorem none16_length : none16.length = 16 := rfl
theorem none16_ints (w : World) : ∀ p ∈ none16, Ints w p.2 p.1.segs := by
  intro p hp
  rw [List.eq_of_mem_replicate hp]
  exact Ints.nil w
/-- Sixteen houses that are none. -/
def zero16 : List Ho := List.replicate 16 Ho.z
theorem none16_map : none16.map (·.1) = zero16 := by simp [none16, zero16]
theorem zero16_put {num : Int} (h0 : 0 ≤ num) (h1 : num ≤ 1099511627776) : putB num zero16 = true := by
  have e : checkB 65536 zero16 = true := by decide
  unfold putB
  rw [inB_yes h0 h1, e]
  rfl
/-- A whole house written into the row, cell by cell. -/
theorem HRow.put {w : World} {b : Nat} {l : List (Ho × Value)} (h : HRow w b l) (k : Nat) (x : Ho) (v : Value) (hk : k < l.length) :
    HRow ((((((((((w.setCell ⟨b, k * 10 + 0, none⟩ (.int .i64 x.st)).setCell ⟨b, k * 10 + 1, none⟩ (.int .i64 x.gen)).setCell ⟨b, k * 10 + 2, none⟩ (.int .i64 x.lim.s)).setCell ⟨b, k * 10 + 3, none⟩ (.int .i64 x.lim.hb)).setCell ⟨b, k * 10 + 4, none⟩ (.int .i64 x.lim.sb)).setCell ⟨b, k * 10 + 5, none⟩ (.int .i64 x.lim.hn)).setCell ⟨b, k * 10 + 6, none⟩ (.int .i64 x.lim.sn)).setCell ⟨b, k * 10 + 7, none⟩ (.int .i64 x.lim.gr)).setCell ⟨b, k * 10 + 8, none⟩ (.int .i64 x.lim.bu)).setCell ⟨b, k * 10 + 9, none⟩ v) b (l.set k (x, v)) := by
  have hl : ∀ (q : Ho × Value) (l' : List (Ho × Value)), l'.length = l.length → (l'.set k q).length = l.length := fun q l' h => by rw [List.length_set, h]
  have hg : ∀ (q : Ho × Value) (l' : List (Ho × Value)) (h' : k < (l'.set k q).length), (l'.set k q)[k] = q := fun q l' h' => List.getElem_set_self ..
  obtain ⟨p0, hp0⟩ : ∃ p, p = l[k] := ⟨_, rfl⟩
  have h0 := h.set k 0 (.int .i64 x.st) (⟨x.st, p0.1.gen, p0.1.lim, p0.1.segs⟩, p0.2) hk (by omega) (by rw [← hp0]; rfl)
  have h1 := h0.set k 1 (.int .i64 x.gen) (⟨x.st, x.gen, p0.1.lim, p0.1.segs⟩, p0.2) (by rw [hl _ _ rfl]; exact hk) (by omega) (by rw [hg]; rfl)
  rw [List.set_set] at h1
  have h2 := h1.set k 2 (.int .i64 x.lim.s) (⟨x.st, x.gen, ⟨x.lim.s, p0.1.lim.hb, p0.1.lim.sb, p0.1.lim.hn, p0.1.lim.sn, p0.1.lim.gr, p0.1.lim.bu⟩, p0.1.segs⟩, p0.2) (by rw [hl _ _ rfl]; exact hk) (by omega) (by rw [hg]; rfl)
  rw [List.set_set] at h2
  have h3 := h2.set k 3 (.int .i64 x.lim.hb) (⟨x.st, x.gen, ⟨x.lim.s, x.lim.hb, p0.1.lim.sb, p0.1.lim.hn, p0.1.lim.sn, p0.1.lim.gr, p0.1.lim.bu⟩, p0.1.segs⟩, p0.2) (by rw [hl _ _ rfl]; exact hk) (by omega) (by rw [hg]; rfl)
  rw [List.set_set] at h3
  have h4 := h3.set k 4 (.int .i64 x.lim.sb) (⟨x.st, x.gen, ⟨x.lim.s, x.lim.hb, x.lim.sb, p0.1.lim.hn, p0.1.lim.sn, p0.1.lim.gr, p0.1.lim.bu⟩, p0.1.segs⟩, p0.2) (by rw [hl _ _ rfl]; exact hk) (by omega) (by rw [hg]; rfl)
  rw [List.set_set] at h4
  have h5 := h4.set k 5 (.int .i64 x.lim.hn) (⟨x.st, x.gen, ⟨x.lim.s, x.lim.hb, x.lim.sb, x.lim.hn, p0.1.lim.sn, p0.1.lim.gr, p0.1.lim.bu⟩, p0.1.segs⟩, p0.2) (by rw [hl _ _ rfl]; exact hk) (by omega) (by rw [hg]; rfl)
  rw [List.set_set] at h5
  have h6 := h5.set k 6 (.int .i64 x.lim.sn) (⟨x.st, x.gen, ⟨x.lim.s, x.lim.hb, x.lim.sb, x.lim.hn, x.lim.sn, p0.1.lim.gr, p0.1.lim.bu⟩, p0.1.segs⟩, p0.2) (by rw [hl _ _ rfl]; exact hk) (by omega) (by rw [hg]; rfl)
  rw [List.set_set] at h6
  have h7 := h6.set k 7 (.int .i64 x.lim.gr) (⟨x.st, x.gen, ⟨x.lim.s, x.lim.hb, x.lim.sb, x.lim.hn, x.lim.sn, x.lim.gr, p0.1.lim.bu⟩, p0.1.segs⟩, p0.2) (by rw [hl _ _ rfl]; exact hk) (by omega) (by rw [hg]; rfl)
  rw [List.set_set] at h7
  have h8 := h7.set k 8 (.int .i64 x.lim.bu) (⟨x.st, x.gen, x.lim, p0.1.segs⟩, p0.2) (by rw [hl _ _ rfl]; exact hk) (by omega) (by rw [hg]; rfl)
  rw [List.set_set] at h8
  have h9 := h8.set k 9 v (x, v) (by rw [hl _ _ rfl]; exact hk) (by omega) (by rw [hg]; rfl)
  rw [List.set_set] at h9
  exact h9

theorem check_one {n : Int} {l : List Ho} {k : Nat} (hk : k < l.length) (h : houseB n l[k] = false) : checkB n l = false := by
  have : l.all (houseB n) = false := by
    rw [List.all_eq_false]
    exact ⟨l[k], List.getElem_mem hk, by rw [h]; simp⟩
  unfold checkB
  rw [this, Bool.and_false, Bool.false_and]
theorem put_check {num : Int} {l : List Ho} (h : checkB 65536 l = false) : putB num l = false := by
  unfold putB
  rw [h, Bool.and_false]
end Go.Proofs.Ytdhdjnpgebddmaa
