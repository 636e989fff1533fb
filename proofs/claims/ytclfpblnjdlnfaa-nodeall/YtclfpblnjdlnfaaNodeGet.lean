/- The node of bytes: what Get does with each number; all of them in turn. -/
import Derived.Test.YtclfpblnjdlnfaaNodePutAll
namespace Go.Proofs.Ytclfpblnjdlnfaa
open Go.RowKit Rec Nod

set_option maxHeartbeats 1000000 in
/-- What Get does with a number: it is read at its place, and the place goes on. -/
theorem getEach_t (s : ByteArray) (g j sb ab p n : Nat) (cs : Array Value) (t : TypeId) (u : Int) (w : World) (hg : w.heap[g]? = some (.cells cs t (0, 0))) (hj : cs[j]? = some (.int .i64 u)) (hs : w.heap[sb]? = some (.cells #[.string s] 9 (0, 0))) (ha : w.heap[ab]? = some (.cells #[.int .i64 p] 3 (0, 0))) (hga : g ≠ ab) (hn : n ≤ 7) (hp : p + n ≤ s.size) (hl : s.size ≤ 1000) :
    Calls Try.prog 26 #[.pointer (some ⟨g, j, none⟩), .int .i64 n, .pointer (some ⟨sb, 0, none⟩), .pointer (some ⟨ab, 0, none⟩)] w fun e w' => e = .returned (.tuple #[]) ∧ w' = (w.setCell ⟨g, j, none⟩ (.int .i64 (numAt s.data.toList p n))).setCell ⟨ab, 0, none⟩ (.int .i64 (p + n : Nat)) := by
  have GET : Hid (Calls Try.prog 27 #[.string s, .int .i64 p, .int .i64 n] w fun e w' => e = .returned (.tuple #[.int .i64 (numAt s.data.toList p n), .bool true]) ∧ w = w') := get_t s p n w hn hp (by omega)
  generalize numAt s.data.toList p n = V at *
  have c0 : w.cell? ⟨sb, 0, none⟩ = some (.string s) := cell_of_row w _ _ _ _ _ hs
  have c1 : w.cell? ⟨ab, 0, none⟩ = some (.int .i64 p) := cell_of_row w _ _ _ _ _ ha
  have c2 : w.cell? ⟨g, j, none⟩ = some (.int .i64 u) := (cell_of_row w _ _ _ _ _ hg).trans hj
  have f2 := frozen_of_row w g j _ _ hg
  have ha2 : (w.setCell ⟨g, j, none⟩ (.int .i64 V)).heap[ab]? = some (.cells #[.int .i64 p] 3 (0, 0)) := by rw [heap_setCell_other _ _ _ _ (fun e => hga e.symm)]; exact ha
  have c3 : (w.setCell ⟨g, j, none⟩ (.int .i64 V)).cell? ⟨ab, 0, none⟩ = some (.int .i64 p) := cell_of_row _ _ _ _ _ _ ha2
  have f3 := frozen_of_row _ ab 0 _ _ ha2
  have hsum : Hid ((p : Int) + (n : Int) = ((p + n : Nat) : Int)) := by show _ = _; omega
  clear hg hj hs ha ha2
  go_enter Try.func26, Try.ntmps26
  go_wp2_with fail
  refine GET.out.mono ?_
  rintro e w1 ⟨rfl, rfl⟩
  clear GET
  go_wp2_with fail
  go_end0
  exact ⟨rfl, by rw [hsum.out]⟩

theorem Try.getEnters (args : Array Value) (w : World) : (callFunc 26 args).run Try.prog w = .ok (.enter 26 args) w := enters_of Try.func26 (by kernel_rfl) rfl args w

/-- Where the k-th number's bytes stand. -/
def offAt (k : Nat) : Nat := 4 + (wids.take k).sum
/-- The j-th number when k are read. -/
def gv (s : List UInt8) (k j : Nat) : Int := if j < k then numAt s (offAt j) (wids.getD j 0) else 0
def gx (s : List UInt8) (k : Nat) : Nd := ⟨gv s k 0, gv s k 1, gv s k 2, gv s k 3, gv s k 4, gv s k 5, gv s k 6, gv s k 7, gv s k 8, gv s k 9, gv s k 10, gv s k 11, gv s k 12, gv s k 13, gv s k 14, gv s k 15, gv s k 16, gv s k 17, gv s k 18⟩

theorem gv_old (s : List UInt8) (k j : Nat) (h : j ≠ k) : gv s (k + 1) j = gv s k j := by
  unfold gv
  have : (j < k + 1) = (j < k) := by simp; omega
  simp only [this]
theorem gv_new (s : List UInt8) (k : Nat) (hk : k < 19) : gv s (k + 1) k = numAt s (offAt k) (wids[k]'hk) := by
  unfold gv
  rw [if_pos (by omega), List.getD_eq_getElem?_getD, List.getElem?_eq_getElem (show k < wids.length from hk)]
  rfl
theorem offAt_le : ∀ k, k < 19 → offAt k + wids.getD k 0 ≤ 45 := by decide
theorem offAt_succ (k : Nat) (hk : k < 19) : offAt k + wids[k]'hk = offAt (k + 1) := by
  unfold offAt
  rw [List.take_succ_eq_append_getElem (show k < wids.length from hk), List.sum_append, List.sum_cons, List.sum_nil, Nat.add_zero, Nat.add_assoc]
  rfl

theorem gx_set (s : List UInt8) (k : Nat) (hk : k < 19) : (nodeC (gx s k)).setIfInBounds k (.int .i64 (gv s (k + 1) k)) = nodeC (gx s (k + 1)) := by
  have o := fun j (h : j ≠ k) => gv_old s k j h
  have hc : k = 0 ∨ k = 1 ∨ k = 2 ∨ k = 3 ∨ k = 4 ∨ k = 5 ∨ k = 6 ∨ k = 7 ∨ k = 8 ∨ k = 9 ∨ k = 10 ∨ k = 11 ∨ k = 12 ∨ k = 13 ∨ k = 14 ∨ k = 15 ∨ k = 16 ∨ k = 17 ∨ k = 18 := by omega
  rcases hc with rfl | rfl | rfl | rfl | rfl | rfl | rfl | rfl | rfl | rfl | rfl | rfl | rfl | rfl | rfl | rfl | rfl | rfl | rfl
  all_goals
    simp only [Nat.reduceAdd, Nat.zero_add] at o ⊢
    simp [gx, o]
theorem gx_cell (s : List UInt8) (k : Nat) (hk : k < 19) : ∃ u, (nodeC (gx s k))[k]? = some (.int .i64 u) := by
  have hc : k = 0 ∨ k = 1 ∨ k = 2 ∨ k = 3 ∨ k = 4 ∨ k = 5 ∨ k = 6 ∨ k = 7 ∨ k = 8 ∨ k = 9 ∨ k = 10 ∨ k = 11 ∨ k = 12 ∨ k = 13 ∨ k = 14 ∨ k = 15 ∨ k = 16 ∨ k = 17 ∨ k = 18 := by omega
  rcases hc with rfl | rfl | rfl | rfl | rfl | rfl | rfl | rfl | rfl | rfl | rfl | rfl | rfl | rfl | rfl | rfl | rfl | rfl | rfl <;> exact ⟨_, rfl⟩

/-- What lies there when k numbers are read. -/
def GotK (s : ByteArray) (B k : Nat) (w wr : World) : Prop :=
  wr.heap[B + 2]? = some (.cells (nodeC (gx s.data.toList k)) 24 (0, 0)) ∧ wr.heap[B]? = some (.cells #[.string s] 9 (0, 0)) ∧ wr.heap[B + 3]? = some (.cells #[.int .i64 (offAt k : Nat)] 3 (0, 0)) ∧ wr.heap[B + 1]? = some (.cells (nodeC Nd.z) 24 (0, 0)) ∧ Below B w wr

theorem GotK.step {s : ByteArray} {B k : Nat} {w wr : World} (h : GotK s B k w wr) (hk : k < 19) : GotK s B (k + 1) w ((wr.setCell ⟨B + 2, k, none⟩ (.int .i64 (numAt s.data.toList (offAt k) (wids[k]'hk)))).setCell ⟨B + 3, 0, none⟩ (.int .i64 (offAt k + wids[k]'hk : Nat))) := by
  obtain ⟨l3, hs, ha, hz, hb⟩ := h
  rw [offAt_succ k hk, ← gv_new s.data.toList k hk]
  refine ⟨?_, ?_, ?_, ?_, (hb.setCell (by simp) _).setCell (by simp) _⟩
  · rw [heap_setCell_other _ _ _ _ (by simp)]
    have := heap_setCell_same _ _ k _ _ (.int .i64 (gv s.data.toList (k + 1) k)) l3
    rw [gx_set s.data.toList k hk] at this
    exact this
  · rw [heap_setCell_other _ _ _ _ (by simp), heap_setCell_other _ _ _ _ (by simp)]
    exact hs
  · exact heap_setCell_same _ _ _ _ _ _ (show _ = some (Obj.cells #[.int .i64 (offAt k : Nat)] 3 (0, 0)) by rw [heap_setCell_other _ _ _ _ (by simp)]; exact ha)
  · rw [heap_setCell_other _ _ _ _ (by simp), heap_setCell_other _ _ _ _ (by simp)]
    exact hz

/-- All numbers, got. -/
theorem getTurn_t (s : ByteArray) (B : Nat) (w wr : World) (h : GotK s B 0 w wr) (hs : s.size = 256) :
    Calls Try.prog 17 #[.pointer (some ⟨B + 2, 0, none⟩), .func (.func 26) #[] #[.pointer (some ⟨B, 0, none⟩), .pointer (some ⟨B + 3, 0, none⟩)]] wr fun e w' => e = .returned (.tuple #[]) ∧ GotK s B 19 w w' :=
  inTurn2_t (B + 2) 26 _ _ (fun k w1 => GotK s B k w w1) wr h Try.getEnters (fun k hk w1 h1 => by
    have hw : wids[k]'hk ≤ 6 := wids_le _ (List.getElem_mem _)
    have ho := offAt_le k hk
    rw [List.getD_eq_getElem?_getD, List.getElem?_eq_getElem (show k < wids.length from hk)] at ho
    have hst := h1.step hk
    have ho2 : offAt k + wids[k]'hk ≤ 45 := ho
    obtain ⟨l3, hs1, ha, hz, hb⟩ := h1
    obtain ⟨u, hu⟩ := gx_cell s.data.toList k hk
    refine (getEach_t s (B + 2) k B (B + 3) (offAt k) _ _ _ u w1 l3 hu hs1 ha (by omega) (by omega) (by omega) (by omega)).mono ?_
    rintro e w2 ⟨rfl, rfl⟩
    exact ⟨rfl, hst⟩)

/-- Read all, it is the node of the bytes. -/
theorem gx_all (s : List UInt8) : gx s 19 = getX s := rfl
end Go.Proofs.Ytclfpblnjdlnfaa
