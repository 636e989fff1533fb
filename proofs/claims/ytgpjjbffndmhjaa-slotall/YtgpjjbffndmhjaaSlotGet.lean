/- The state of bytes: what Get does with each number; all of them in turn. -/
import Derived.Test.YtgpjjbffndmhjaaSlotPutAll
namespace Go.Proofs.Ytgpjjbffndmhjaa
open Go.RowKit Rec Slt

set_option maxHeartbeats 1000000 in
/-- What Get does with a number: it is read at its place, and the place goes on. -/
theorem getEach_t (s : ByteArray) (g j sb ab p n : Nat) (cs : Array Value) (t : TypeId) (u : Int) (w : World) (hg : w.heap[g]? = some (.cells cs t (0, 0))) (hj : cs[j]? = some (.int .i64 u)) (hs : w.heap[sb]? = some (.cells #[.string s] 9 (0, 0))) (ha : w.heap[ab]? = some (.cells #[.int .i64 p] 3 (0, 0))) (hga : g ≠ ab) (hn : n ≤ 7) (hp : p + n ≤ s.size) (hl : s.size ≤ 1000) :
    Calls Try.prog 28 #[.pointer (some ⟨g, j, none⟩), .int .i64 n, .pointer (some ⟨sb, 0, none⟩), .pointer (some ⟨ab, 0, none⟩)] w fun e w' => e = .returned (.tuple #[]) ∧ w' = (w.setCell ⟨g, j, none⟩ (.int .i64 (numAt s.data.toList p n))).setCell ⟨ab, 0, none⟩ (.int .i64 (p + n : Nat)) := by
  have GET : Hid (Calls Try.prog 29 #[.string s, .int .i64 p, .int .i64 n] w fun e w' => e = .returned (.tuple #[.int .i64 (numAt s.data.toList p n), .bool true]) ∧ w = w') := get_t s p n w hn hp (by omega)
  generalize numAt s.data.toList p n = V at *
  have c0 : w.cell? ⟨sb, 0, none⟩ = some (.string s) := cell_of_row w _ _ _ _ _ hs
  have c1 : w.cell? ⟨ab, 0, none⟩ = some (.int .i64 p) := cell_of_row w _ _ _ _ _ ha
  have c2 : w.cell? ⟨g, j, none⟩ = some (.int .i64 u) := (cell_of_row w _ _ _ _ _ hg).trans hj
  have f2 := frozen_of_row w g j _ _ hg
  have ha2 : (w.setCell ⟨g, j, none⟩ (.int .i64 V)).heap[ab]? = some (.cells #[.int .i64 p] 3 (0, 0)) := by rw [heap_setCell_other _ _ _ _ (fun e => hga e.symm)]; exact ha
  have c3 : (w.setCell ⟨g, j, none⟩ (.int .i64 V)).cell? ⟨ab, 0, none⟩ = some (.int .i64 p) := cell_of_row _ _ _ _ _ _ ha2
  have f3 := frozen_of_row _ ab 0 _ _ ha2
  have hsum : Hid ((p : Int) + (n : Int) = ((p + n : Nat) : Int)) := by show _ = _; omega
  clear hg hj hs ha ha2
  go_enter Try.func28, Try.ntmps28
  go_wp2_with fail
  refine GET.out.mono ?_
  rintro e w1 ⟨rfl, rfl⟩
  clear GET
  go_wp2_with fail
  go_end0
  exact ⟨rfl, by rw [hsum.out]⟩

theorem Try.getEnters (args : Array Value) (w : World) : (callFunc 28 args).run Try.prog w = .ok (.enter 28 args) w := enters_of Try.func28 (by kernel_rfl) rfl args w

/-- Where the k-th number's bytes stand. -/
def offAt (k : Nat) : Nat := 4 + (wids.take k).sum
/-- The j-th number when k are read. -/
def gv (s : List UInt8) (k j : Nat) : Int := if j < k then numAt s (offAt j) (wids.getD j 0) else 0
def gx (s : List UInt8) (k : Nat) : Sl := ⟨gv s k 2, gv s k 3, gv s k 4, gv s k 5, gv s k 6, gv s k 7, gv s k 8, gv s k 9, gv s k 10, gv s k 11, gv s k 12, gv s k 13, gv s k 14⟩

theorem gv_old (s : List UInt8) (k j : Nat) (h : j ≠ k) : gv s (k + 1) j = gv s k j := by
  unfold gv
  have : (j < k + 1) = (j < k) := by simp; omega
  simp only [this]
theorem gv_new (s : List UInt8) (k : Nat) (hk : k < 15) : gv s (k + 1) k = numAt s (offAt k) (wids[k]'hk) := by
  unfold gv
  rw [if_pos (by omega), List.getD_eq_getElem?_getD, List.getElem?_eq_getElem (show k < wids.length from hk)]
  rfl
theorem offAt_le : ∀ k, k < 15 → offAt k + wids.getD k 0 ≤ 62 := by decide
theorem offAt_succ (k : Nat) (hk : k < 15) : offAt k + wids[k]'hk = offAt (k + 1) := by
  unfold offAt
  rw [List.take_succ_eq_append_getElem (show k < wids.length from hk), List.sum_append, List.sum_cons, List.sum_nil, Nat.add_zero, Nat.add_assoc]
  rfl

theorem gx_set (s : List UInt8) (k : Nat) (hk : k < 13) : (slotC (gx s (k + 2))).setIfInBounds k (.int .i64 (gv s (k + 3) (k + 2))) = slotC (gx s (k + 3)) := by
  have o := fun j (h : j ≠ k + 2) => gv_old s (k + 2) j h
  have hc : k = 0 ∨ k = 1 ∨ k = 2 ∨ k = 3 ∨ k = 4 ∨ k = 5 ∨ k = 6 ∨ k = 7 ∨ k = 8 ∨ k = 9 ∨ k = 10 ∨ k = 11 ∨ k = 12 := by omega
  rcases hc with rfl | rfl | rfl | rfl | rfl | rfl | rfl | rfl | rfl | rfl | rfl | rfl | rfl
  all_goals
    simp only [Nat.reduceAdd, Nat.zero_add] at o ⊢
    simp [gx, o]

/-- What lies there when k numbers are read. -/
def GotK (s : ByteArray) (B k : Nat) (w wr : World) : Prop :=
  Lies wr (B + 1) (B + 2) (B + 3) (gv s.data.toList k 0) (gv s.data.toList k 1) (gx s.data.toList k) ∧ wr.heap[B]? = some (.cells #[.string s] 9 (0, 0)) ∧ wr.heap[B + 4]? = some (.cells #[.int .i64 (offAt k : Nat)] 3 (0, 0)) ∧ Below B w wr

theorem GotK.step {s : ByteArray} {B k : Nat} {w wr : World} (h : GotK s B k w wr) (hk : k < 15) : GotK s B (k + 1) w ((wr.setCell (turnAt (B + 1) (B + 2) (B + 3) k) (.int .i64 (numAt s.data.toList (offAt k) (wids[k]'hk)))).setCell ⟨B + 4, 0, none⟩ (.int .i64 (offAt k + wids[k]'hk : Nat))) := by
  obtain ⟨⟨l1, l2, l3⟩, hs, ha, hb⟩ := h
  rw [offAt_succ k hk, ← gv_new s.data.toList k hk]
  have nh := gv_old s.data.toList k
  match k, hk with
  | 0, hk =>
    refine ⟨⟨?_, ?_, ?_⟩, ?_, ?_, (hb.setCell (by simp [turnAt]) _).setCell (by simp) _⟩
    · rw [heap_setCell_other _ _ _ _ (by simp)]
      exact heap_setCell_same _ _ _ _ _ _ l1
    · rw [heap_setCell_other _ _ _ _ (by simp), heap_setCell_other _ _ _ _ (by simp [turnAt])]
      exact l2
    · rw [heap_setCell_other _ _ _ _ (by simp), heap_setCell_other _ _ _ _ (by simp [turnAt])]
      exact l3
    · rw [heap_setCell_other _ _ _ _ (by simp), heap_setCell_other _ _ _ _ (by simp [turnAt])]
      exact hs
    · exact heap_setCell_same _ _ _ _ _ _ (show _ = some (Obj.cells #[.int .i64 (offAt 0 : Nat)] 3 (0, 0)) by rw [heap_setCell_other _ _ _ _ (by simp [turnAt])]; exact ha)
  | 1, hk =>
    refine ⟨⟨?_, ?_, ?_⟩, ?_, ?_, (hb.setCell (by simp [turnAt]) _).setCell (by simp) _⟩
    · rw [heap_setCell_other _ _ _ _ (by simp), heap_setCell_other _ _ _ _ (by simp [turnAt]), nh 0 (by decide)]
      exact l1
    · rw [heap_setCell_other _ _ _ _ (by simp)]
      exact heap_setCell_same _ _ _ _ _ _ l2
    · rw [heap_setCell_other _ _ _ _ (by simp), heap_setCell_other _ _ _ _ (by simp [turnAt])]
      exact l3
    · rw [heap_setCell_other _ _ _ _ (by simp), heap_setCell_other _ _ _ _ (by simp [turnAt])]
      exact hs
    · exact heap_setCell_same _ _ _ _ _ _ (show _ = some (Obj.cells #[.int .i64 (offAt 1 : Nat)] 3 (0, 0)) by rw [heap_setCell_other _ _ _ _ (by simp [turnAt])]; exact ha)
  | k + 2, hk =>
    refine ⟨⟨?_, ?_, ?_⟩, ?_, ?_, (hb.setCell (by simp [turnAt]) _).setCell (by simp) _⟩
    · rw [heap_setCell_other _ _ _ _ (by simp), heap_setCell_other _ _ _ _ (by simp [turnAt]), nh 0 (by omega)]
      exact l1
    · rw [heap_setCell_other _ _ _ _ (by simp), heap_setCell_other _ _ _ _ (by simp [turnAt]), nh 1 (by omega)]
      exact l2
    · rw [heap_setCell_other _ _ _ _ (by simp)]
      have := heap_setCell_same _ _ k _ _ (.int .i64 (gv s.data.toList (k + 3) (k + 2))) l3
      rw [gx_set s.data.toList k (by omega)] at this
      exact this
    · rw [heap_setCell_other _ _ _ _ (by simp), heap_setCell_other _ _ _ _ (by simp [turnAt])]
      exact hs
    · exact heap_setCell_same _ _ _ _ _ _ (show _ = some (Obj.cells #[.int .i64 (offAt (k + 2) : Nat)] 3 (0, 0)) by rw [heap_setCell_other _ _ _ _ (by simp [turnAt])]; exact ha)

/-- All numbers, got. -/
theorem getTurn_t (s : ByteArray) (B : Nat) (w wr : World) (h : GotK s B 0 w wr) (hs : s.size = 256) :
    Calls Try.prog 18 #[.pointer (some ⟨B + 1, 0, none⟩), .pointer (some ⟨B + 2, 0, none⟩), .pointer (some ⟨B + 3, 0, none⟩), .func (.func 28) #[] #[.pointer (some ⟨B, 0, none⟩), .pointer (some ⟨B + 4, 0, none⟩)]] wr fun e w' => e = .returned (.tuple #[]) ∧ GotK s B 15 w w' :=
  inTurn2_t (B + 1) (B + 2) (B + 3) 28 _ _ (fun k w1 => GotK s B k w w1) wr h Try.getEnters (fun k hk w1 h1 => by
    have hw : wids[k]'hk ≤ 6 := wids_le _ (List.getElem_mem _)
    have ho := offAt_le k hk
    rw [List.getD_eq_getElem?_getD, List.getElem?_eq_getElem (show k < wids.length from hk)] at ho
    have hst := h1.step hk
    have ho2 : offAt k + wids[k]'hk ≤ 62 := ho
    obtain ⟨⟨l1, l2, l3⟩, hs1, ha, hb⟩ := h1
    match k, hk with
    | 0, hk =>
      refine (getEach_t s (B + 1) 0 B (B + 4) (offAt 0) _ _ _ _ w1 l1 rfl hs1 ha (by omega) (by omega) (by omega) (by omega)).mono ?_
      rintro e w2 ⟨rfl, rfl⟩
      exact ⟨rfl, hst⟩
    | 1, hk =>
      refine (getEach_t s (B + 2) 0 B (B + 4) (offAt 1) _ _ _ _ w1 l2 rfl hs1 ha (by omega) (by omega) (by omega) (by omega)).mono ?_
      rintro e w2 ⟨rfl, rfl⟩
      exact ⟨rfl, hst⟩
    | k + 2, hk =>
      obtain ⟨u, hu⟩ : ∃ u, (slotC (gx s.data.toList (k + 2)))[k]? = some (.int .i64 u) := by
        have hc : k = 0 ∨ k = 1 ∨ k = 2 ∨ k = 3 ∨ k = 4 ∨ k = 5 ∨ k = 6 ∨ k = 7 ∨ k = 8 ∨ k = 9 ∨ k = 10 ∨ k = 11 ∨ k = 12 := by omega
        rcases hc with rfl | rfl | rfl | rfl | rfl | rfl | rfl | rfl | rfl | rfl | rfl | rfl | rfl <;> exact ⟨_, rfl⟩
      refine (getEach_t s (B + 3) k B (B + 4) (offAt (k + 2)) _ _ _ u w1 l3 hu hs1 ha (by omega) (by omega) (by omega) (by omega)).mono ?_
      rintro e w2 ⟨rfl, rfl⟩
      exact ⟨rfl, hst⟩)

/-- Read all, it is the state of the bytes. -/
theorem gv_all (s : List UInt8) : gv s 15 0 = getH s ∧ gv s 15 1 = getG s ∧ gx s 15 = getX s := ⟨rfl, rfl, rfl⟩
end Go.Proofs.Ytgpjjbffndmhjaa
