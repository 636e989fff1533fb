/- The head of bytes: what a reader does with each number; all of them in turn; read walked. -/
import Derived.Test.YtaiebhkjkeadoaaHeadInfo
import Derived.Test.YtaiebhkjkeadoaaBinCode
import Derived.Test.YtaiebhkjkeadoaaHeadPutAll
import Derived.Test.YtaiebhkjkeadoaaZeros
namespace Go.Proofs.Ytaiebhkjkeadoaa
open Go.RowKit Rec Hdp

set_option maxHeartbeats 1000000 in
/-- What a reader does with a number: it is read at its place, and the place goes on. -/
theorem getEach_t (s : ByteArray) (g j rb p n B : Nat) (cs : Array Value) (t : TypeId) (u : Int) (w : World) (hg : w.heap[g]? = some (.cells cs t (0, 0))) (hj : cs[j]? = some (.int .i64 u)) (hr : w.heap[rb]? = some (.cells #[.string s, .int .i64 p] 152 (0, 0))) (hgr : g ≠ rb) (hBg : B ≤ g) (hBr : B ≤ rb) (hn : n ≤ 7) (hp : p + n ≤ s.size) (hl : s.size ≤ 100000) :
    Calls Try.prog 86 #[.pointer (some ⟨rb, 0, none⟩), .pointer (some ⟨g, j, none⟩), .int .i64 n] w fun e w' => e = .returned (.tuple #[]) ∧ w'.heap[g]? = some (.cells (cs.setIfInBounds j (.int .i64 (numAt s.data.toList p n))) t (0, 0)) ∧ w'.heap[rb]? = some (.cells #[.string s, .int .i64 (p + n : Nat)] 152 (0, 0)) ∧ (∀ k, k ≠ g → k ≠ rb → w'.heap[k]? = w.heap[k]?) ∧ Below B w w' := by
  have GET : Hid (∀ w1, Calls Try.prog 79 #[.string s, .int .i64 p, .int .i64 n] w1 fun e w' => e = .returned (.tuple #[.int .i64 (numAt s.data.toList p n), .bool true]) ∧ w1 = w') := fun w1 => get_t s p n w1 hn hp (by omega)
  generalize numAt s.data.toList p n = V at *
  have HG := hdhid hg
  have HR := hdhid hr
  have c0 : w.cell? ⟨rb, 0, none⟩ = some (.string s) := (cell_of_row w _ _ _ _ _ hr).trans rfl
  have c1 : w.cell? ⟨rb, 1, none⟩ = some (.int .i64 p) := (cell_of_row w _ _ _ _ _ hr).trans rfl
  have c2 : w.cell? ⟨g, j, none⟩ = some (.int .i64 u) := (cell_of_row w _ _ _ _ _ hg).trans hj
  have f2 := frozen_of_row w g j _ _ hg
  have hgr2 : ¬ (rb = g) := fun e => hgr e.symm
  have hsum : Hid ((p : Int) + (n : Int) = ((p + n : Nat) : Int)) := by show _ = _; omega
  clear hg hr
  go_enter Try.func86, Try.ntmps86
  go_wp2_with fail
  go_region_held3 (fun w' => w'.cell? ⟨rb, 0, none⟩ = some (.string s) ∧ w'.cell? ⟨rb, 1, none⟩ = some (.int .i64 p)) (first | go_keep)
    (first
      | (go_at_call 79; refine (GET.out _).mono ?_; rintro e w1 ⟨rfl, rfl⟩))
  have HG2 : Hid ((w.setCell ⟨g, j, none⟩ (.int .i64 V)).drew.heap[g]? = some (.cells (cs.setIfInBounds j (.int .i64 V)) t (0, 0))) := heap_setCell_same w g j _ _ _ HG.out
  have HR2 : Hid ((w.setCell ⟨g, j, none⟩ (.int .i64 V)).drew.heap[rb]? = some (.cells #[.string s, .int .i64 p] 152 (0, 0))) := by
    show (w.setCell _ _).heap[rb]? = _
    rw [heap_setCell_other _ _ _ _ hgr2]
    exact HR.out
  have HO2 : Hid (∀ k, k ≠ g → (w.setCell ⟨g, j, none⟩ (.int .i64 V)).drew.heap[k]? = w.heap[k]?) := fun k hk => heap_setCell_other w _ _ _ hk
  have HB2 : Hid (Below B w (w.setCell ⟨g, j, none⟩ (.int .i64 V)).drew) := ((Below.refl B w).setCell (p := ⟨g, j, none⟩) hBg _).drew
  generalize (w.setCell ⟨g, j, none⟩ (.int .i64 V)).drew = W at *
  have d1 : W.cell? ⟨rb, 1, none⟩ = some (.int .i64 p) := (cell_of_row W _ _ _ _ _ HR2.out).trans rfl
  have f1 := frozen_of_row W rb 1 _ _ HR2.out
  clear c0 c1 c2 f2 HG HR GET
  go_wp2_with fail
  go_end0
  refine ⟨rfl, ?_, ?_, fun k h1 h2 => ?_, HB2.out.setCell (p := ⟨rb, 1, none⟩) hBr _⟩
  · rw [heap_setCell_other _ _ _ _ hgr]
    exact HG2.out
  · rw [hsum.out]
    exact heap_setCell_same W rb 1 _ _ _ HR2.out
  · rw [heap_setCell_other _ _ _ _ h2]
    exact HO2.out k h1

theorem Try.getEnters (args : Array Value) (w : World) : (callFunc 86 args).run Try.prog w = .ok (.enter 86 args) w := enters_of Try.func86 (by kernel_rfl) rfl args w

/-- Where the k-th number's bytes stand. -/
def offAt (k : Nat) : Nat := 4 + (nwids.take k).sum
/-- The j-th number when k are read. -/
def gv (s : List UInt8) (k j : Nat) : Int := if j < k then numAt s (offAt j) (nwids.getD j 0) else 0
def gx (s : List UInt8) (k : Nat) : Hd := ⟨gv s k 0, gv s k 1, gv s k 2, gv s k 3, gv s k 4, gv s k 5, gv s k 6, gv s k 7, []⟩

theorem gv_old (s : List UInt8) (k j : Nat) (h : j ≠ k) : gv s (k + 1) j = gv s k j := by
  unfold gv
  have : (j < k + 1) = (j < k) := by simp; omega
  simp only [this]
theorem gv_new (s : List UInt8) (k : Nat) (hk : k < 8) : gv s (k + 1) k = numAt s (offAt k) (nwids[k]'hk) := by
  unfold gv
  rw [if_pos (by omega), List.getD_eq_getElem?_getD, List.getElem?_eq_getElem (show k < nwids.length from hk)]
  rfl
theorem offAt_le : ∀ k, k < 8 → offAt k + nwids.getD k 0 ≤ 36 := by decide
theorem offAt_succ (k : Nat) (hk : k < 8) : offAt k + nwids[k]'hk = offAt (k + 1) := by
  unfold offAt
  rw [List.take_succ_eq_append_getElem (show k < nwids.length from hk), List.sum_append, List.sum_cons, List.sum_nil, Nat.add_zero, Nat.add_assoc]
  rfl
theorem gx_set (s : List UInt8) (k : Nat) (hk : k < 8) (v : Value) : (headC (gx s k) v).setIfInBounds k (.int .i64 (gv s (k + 1) k)) = headC (gx s (k + 1)) v := by
  have o := fun j (h : j ≠ k) => gv_old s k j h
  have hc : k = 0 ∨ k = 1 ∨ k = 2 ∨ k = 3 ∨ k = 4 ∨ k = 5 ∨ k = 6 ∨ k = 7 := by omega
  rcases hc with rfl | rfl | rfl | rfl | rfl | rfl | rfl | rfl
  all_goals
    simp only [Nat.reduceAdd, Nat.zero_add] at o ⊢
    simp [gx, o]
theorem gx_get (s : List UInt8) (k : Nat) (hk : k < 8) (v : Value) : ∃ u, (headC (gx s k) v)[k]? = some (.int .i64 u) := by
  have hc : k = 0 ∨ k = 1 ∨ k = 2 ∨ k = 3 ∨ k = 4 ∨ k = 5 ∨ k = 6 ∨ k = 7 := by omega
  rcases hc with rfl | rfl | rfl | rfl | rfl | rfl | rfl | rfl <;> exact ⟨_, rfl⟩

/-- What lies there when k numbers are read: the head and the reader. -/
def GotK (s : ByteArray) (xb rb k : Nat) (v : Value) (w : World) : Prop :=
  w.heap[xb]? = some (.cells (headC (gx s.data.toList k) v) 43 (0, 0)) ∧ w.heap[rb]? = some (.cells #[.string s, .int .i64 (offAt k : Nat)] 152 (0, 0))

/-- All numbers, got. -/
theorem getNumbers_t (s : ByteArray) (xb rb B : Nat) (v : Value) (w : World) (h : GotK s xb rb 0 v w) (hxr : xb ≠ rb) (hx : B ≤ xb) (hr : B ≤ rb) (hs : 256 ≤ s.size) (hl : s.size ≤ 100000) :
    Calls Try.prog 61 #[.pointer (some ⟨xb, 0, none⟩), .func (.func 86) #[.pointer (some ⟨rb, 0, none⟩)] #[]] w fun e w' => e = .returned (.tuple #[]) ∧ GotK s xb rb 8 v w' ∧ (∀ k, k ≠ xb → k ≠ rb → w'.heap[k]? = w.heap[k]?) ∧ Below B w w' :=
  numbers_t xb 86 (.pointer (some ⟨rb, 0, none⟩)) (fun k w1 => GotK s xb rb k v w1 ∧ (∀ k, k ≠ xb → k ≠ rb → w1.heap[k]? = w.heap[k]?) ∧ Below B w w1) w ⟨h, fun _ _ _ => rfl, Below.refl _ _⟩ Try.getEnters (fun k hk w1 ⟨⟨g1, g2⟩, ho, hb⟩ => by
    have hw : nwids[k]'hk ≤ 6 := nwids_le _ (List.getElem_mem _)
    have hof := offAt_le k hk
    rw [List.getD_eq_getElem?_getD, List.getElem?_eq_getElem (show k < nwids.length from hk)] at hof
    have ho2 : offAt k + nwids[k]'hk ≤ 36 := hof
    obtain ⟨u, hu⟩ := gx_get s.data.toList k hk v
    refine (getEach_t s xb k rb (offAt k) _ B _ _ u w1 g1 hu g2 hxr hx hr (by omega) (by omega) hl).mono ?_
    rintro e w2 ⟨rfl, k1, k2, k3, k4⟩
    rw [← gv_new s.data.toList k hk, gx_set s.data.toList k hk v] at k1
    rw [offAt_succ k hk] at k2
    exact ⟨rfl, ⟨k1, k2⟩, fun q h1 h2 => (k3 q h1 h2).trans (ho q h1 h2), hb.trans k4⟩)

/-! ### Entries -/

/-- The q-th number of the list. -/
def fvAt (s : List UInt8) (q : Nat) : Int := numAt s (37 + 4 * (q / 3) + q % 3) (if q % 3 = 2 then 2 else 1)
/-- The list's cells when m numbers are read. -/
def gcells (s : List UInt8) (n m : Nat) : Array Value := ((List.range (3 * n)).map fun q => Value.int .i64 (if q < m then fvAt s q else 0)).toArray
theorem gcells_get (s : List UInt8) (n m q : Nat) (hq : q < 3 * n) : (gcells s n m)[q]? = some (.int .i64 (if q < m then fvAt s q else 0)) := by
  simp [gcells, hq]
theorem gcells_size (s : List UInt8) (n m : Nat) : (gcells s n m).size = 3 * n := by simp [gcells]
theorem gcells_set (s : List UInt8) (n m : Nat) (hm : m < 3 * n) : (gcells s n m).setIfInBounds m (.int .i64 (fvAt s m)) = gcells s n (m + 1) := by
  apply Array.ext_getElem?
  intro q
  rw [Array.getElem?_setIfInBounds]
  by_cases hq : q < 3 * n
  · rw [gcells_get s n (m + 1) q hq, gcells_get s n m q hq]
    by_cases hqm : m = q
    · subst hqm
      rw [if_pos rfl, gcells_size, if_pos hm, if_pos (by omega)]
    · rw [if_neg hqm]
      have : (q < m + 1) = (q < m) := by simp; omega
      simp only [this]
  · rw [if_neg (by omega), Array.getElem?_eq_none (by rw [gcells_size]; omega), Array.getElem?_eq_none (by rw [gcells_size]; omega)]

/-- Where the q-th number of the list stands. -/
def eoffAt (q : Nat) : Nat := 37 + 4 * (q / 3) + q % 3
/-- What lies there when m numbers of the list are read. -/
def GotE (s : ByteArray) (lb rb n m : Nat) (w : World) : Prop :=
  w.heap[lb]? = some (.cells (gcells s.data.toList n m) 62 (0, 0)) ∧ w.heap[rb]? = some (.cells #[.string s, .int .i64 (eoffAt m : Nat)] 152 (0, 0))

/-- All entries, got. -/
theorem getEntries_t (s : ByteArray) (lb rb n B : Nat) (w : World) (h : GotE s lb rb n 0 w) (hlr : lb ≠ rb) (hx : B ≤ lb) (hr : B ≤ rb) (hn : n ≤ 24) (hs : 256 ≤ s.size) (hl : s.size ≤ 100000) :
    Calls Try.prog 63 #[.slice (some ⟨lb, 0, none⟩) n n, .func (.func 86) #[.pointer (some ⟨rb, 0, none⟩)] #[]] w fun e w' => e = .returned (.tuple #[]) ∧ GotE s lb rb n (n * 3) w' ∧ (∀ k, k ≠ lb → k ≠ rb → w'.heap[k]? = w.heap[k]?) ∧ Below B w w' :=
  entries_t lb 0 n n 86 (.pointer (some ⟨rb, 0, none⟩)) (fun q w1 => GotE s lb rb n q w1 ∧ (∀ k, k ≠ lb → k ≠ rb → w1.heap[k]? = w.heap[k]?) ∧ Below B w w1) w ⟨h, fun _ _ _ => rfl, Below.refl _ _⟩ (by omega) Try.getEnters (fun i j hi hj w1 ⟨⟨g1, g2⟩, ho, hb⟩ => by
    have hq : i * 3 + j < 3 * n := by omega
    have e1 : (i * 3 + j) / 3 = i := by omega
    have e2 : (i * 3 + j) % 3 = j := by omega
    have hwj : ewids[j]'hj = (if j = 2 then 2 else 1) := by
      have hc : j = 0 ∨ j = 1 ∨ j = 2 := by omega
      rcases hc with rfl | rfl | rfl <;> rfl
    have hw2 : ewids[j]'hj ≤ 2 := ewids_le _ (List.getElem_mem _)
    have heo : eoffAt (i * 3 + j) = 37 + 4 * i + j := by unfold eoffAt; rw [e1, e2]
    have hfv : numAt s.data.toList (eoffAt (i * 3 + j)) (ewids[j]'hj) = fvAt s.data.toList (i * 3 + j) := by
      unfold fvAt
      rw [heo, hwj, e1, e2]
    have hes : eoffAt (i * 3 + j) + ewids[j]'hj = eoffAt (i * 3 + j + 1) := by
      rw [heo, hwj]
      unfold eoffAt
      split <;> omega
    have e3 : 0 + i * 3 + j = i * 3 + j := by omega
    rw [e3]
    refine (getEach_t s lb (i * 3 + j) rb (eoffAt (i * 3 + j)) _ B _ _ _ w1 g1 (gcells_get s.data.toList n (i * 3 + j) (i * 3 + j) hq) g2 hlr hx hr (by omega) (by rw [heo]; omega) hl).mono ?_
    rintro e w2 ⟨rfl, k1, k2, k3, k4⟩
    rw [hfv, gcells_set s.data.toList n (i * 3 + j) hq] at k1
    rw [hes] at k2
    exact ⟨rfl, ⟨k1, k2⟩, fun q h1 h2 => (k3 q h1 h2).trans (ho q h1 h2), hb.trans k4⟩)
end Go.Proofs.Ytaiebhkjkeadoaa
