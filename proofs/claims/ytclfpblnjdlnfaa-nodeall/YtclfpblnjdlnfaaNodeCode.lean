/- A node's small functions walked: within; a node as a value, its cells; two nodes compared. -/
import Derived.Test.YtclfpblnjdlnfaaNodePlain
import Derived.WalkSpells
import Derived.WalkLawsBesides
import Derived.Below
import Derived.Deep.QuietTactic
import Derived.BigQuiet
import Derived.Lib.MinMax
import Derived.ChangeKeysEq
namespace Go.Proofs.Ytclfpblnjdlnfaa
open Go.RowKit Rec Nod

theorem ndhid {P : Prop} (h : P) : Hid P := h
theorem ndBool {a b : Bool} (h : a = b) : Ending.returned (.bool a) = .returned (.bool b) := by rw [h]

set_option maxHeartbeats 400000 in
theorem within_t (v a b : Int) (w : World) : Calls Try.prog 40 #[.int .i64 v, .int .i64 a, .int .i64 b] w fun e w' => e = .returned (.int .i64 (clamp v a b)) ∧ w = w' := by
  have HC : Hid (clamp v a b = min (max v a) b) := rfl
  generalize clamp v a b = C at *
  go_enter Try.func40, Try.ntmps40
  go_wp2
  go_ret
  exact ⟨by rw [HC.out]; rfl, rfl⟩

/-- A node as a value, and its cells. -/
abbrev nodeV (x : Nd) : Value := .agg #[.int .i64 x.num, .int .i64 x.kind, .int .i64 x.links, .int .i64 x.size, .int .i64 x.time, .int .i64 x.p0, .int .i64 x.p1, .int .i64 x.p2, .int .i64 x.p3, .int .i64 x.p4, .int .i64 x.p5, .int .i64 x.p6, .int .i64 x.p7, .int .i64 x.p8, .int .i64 x.p9, .int .i64 x.p10, .int .i64 x.p11, .int .i64 x.p12, .int .i64 x.p13]
abbrev nodeC (x : Nd) : Array Value := #[.int .i64 x.num, .int .i64 x.kind, .int .i64 x.links, .int .i64 x.size, .int .i64 x.time, .int .i64 x.p0, .int .i64 x.p1, .int .i64 x.p2, .int .i64 x.p3, .int .i64 x.p4, .int .i64 x.p5, .int .i64 x.p6, .int .i64 x.p7, .int .i64 x.p8, .int .i64 x.p9, .int .i64 x.p10, .int .i64 x.p11, .int .i64 x.p12, .int .i64 x.p13]
/-- A node's pointers as a value. -/
abbrev ptrV (x : Nd) : Value := .agg #[.int .i64 x.p0, .int .i64 x.p1, .int .i64 x.p2, .int .i64 x.p3, .int .i64 x.p4, .int .i64 x.p5, .int .i64 x.p6, .int .i64 x.p7, .int .i64 x.p8, .int .i64 x.p9, .int .i64 x.p10, .int .i64 x.p11, .int .i64 x.p12, .int .i64 x.p13]

theorem run_part_int {P : Program} (w : World) (t : TypeId) (k : IntKind) (xs : Array Value) (off : Nat) (v : Value) (hu : P.underlying t = some (.int k)) (hx : xs[off]? = some v) : (part t xs off).run P w = .ok v w := by
  simp [part, isAgg, run_underlying hu, hx]
/-- Two rows of numbers, item by item. -/
theorem run_eqItems_ints {P : Program} (d : Nat) (e : TypeId) (hu : P.underlying e = some (.int .i64)) (xs ys : Array Value) (f g : Nat → Int) : ∀ (is : List Nat) (w : World), (∀ i ∈ is, xs[i * 1]? = some (.int .i64 (f i)) ∧ ys[i * 1]? = some (.int .i64 (g i))) → (Op.eqItems (d + 1) e 1 xs ys is).run P w = .ok (is.all fun i => f i == g i) w
  | [], w, _ => by simp [Op.eqItems]
  | i :: is, w, h => by
    have h1 := h i (by simp)
    have ih := run_eqItems_ints d e hu xs ys f g is w (fun j hj => h j (by simp [hj]))
    simp only [Op.eqItems, Sem.run_bind, run_part_int w e .i64 xs _ _ hu h1.1, run_part_int w e .i64 ys _ _ hu h1.2, Result.andThen_ok, run_equalIn_int w d e .i64 .i64 _ _ hu, List.all_cons]
    cases hc : (f i == g i)
    · simp
    · simpa using ih

theorem ptr_cell (x : Nd) (i : Nat) (h : i < 14) : (#[.int .i64 x.p0, .int .i64 x.p1, .int .i64 x.p2, .int .i64 x.p3, .int .i64 x.p4, .int .i64 x.p5, .int .i64 x.p6, .int .i64 x.p7, .int .i64 x.p8, .int .i64 x.p9, .int .i64 x.p10, .int .i64 x.p11, .int .i64 x.p12, .int .i64 x.p13] : Array Value)[i * 1]? = some (.int .i64 (x.ptr i)) := by
  have hc : i = 0 ∨ i = 1 ∨ i = 2 ∨ i = 3 ∨ i = 4 ∨ i = 5 ∨ i = 6 ∨ i = 7 ∨ i = 8 ∨ i = 9 ∨ i = 10 ∨ i = 11 ∨ i = 12 ∨ i = 13 := by omega
  rcases hc with rfl | rfl | rfl | rfl | rfl | rfl | rfl | rfl | rfl | rfl | rfl | rfl | rfl | rfl <;> rfl

/-- Two arrays of pointers, compared. -/
theorem run_ptrs_eql (x y : Nd) (d : Nat) (w : World) : (Op.equalIn (d + 1 + 1) 22 (ptrV x) (ptrV y)).run Try.prog w = .ok ((List.range 14).all fun i => x.ptr i == y.ptr i) w := by
  obtain ⟨i, hi⟩ := info_of_underlying Try.underlying3
  rw [run_equalIn_array w (d + 1) _ _ Try.underlying22 hi]
  rw [show Try.prog.cellsOf 3 = 1 by kernel_rfl]
  exact run_eqItems_ints d 3 Try.underlying3 _ _ x.ptr y.ptr _ w (fun i h => by
    rw [List.mem_range] at h
    exact ⟨ptr_cell x i h, ptr_cell y i h⟩)

/-- Two nodes compared, number by number. -/
def eqB (x y : Nd) : Bool := (x.num == y.num) && ((x.kind == y.kind) && ((x.links == y.links) && ((x.size == y.size) && ((x.time == y.time) && ((List.range 14).all fun i => x.ptr i == y.ptr i)))))
theorem eqB_eq (x y : Nd) : eqB x y = decide (x = y) := by
  obtain ⟨num, kind, links, size, time, p0, p1, p2, p3, p4, p5, p6, p7, p8, p9, p10, p11, p12, p13⟩ := x
  obtain ⟨num', kind', links', size', time', p0', p1', p2', p3', p4', p5', p6', p7', p8', p9', p10', p11', p12', p13'⟩ := y
  rw [Bool.eq_iff_iff, decide_eq_true_eq]
  simp [eqB, List.range, List.range.loop, Nd.ptr]

theorem run_fields_eql (x y : Nd) (D : Nat) (w : World) (e : (Op.equalIn D 22 (ptrV x) (ptrV y)).run Try.prog w = .ok ((List.range 14).all fun i => x.ptr i == y.ptr i) w) (hI : ∀ a b : Int, (Op.equalIn D 3 (.int .i64 a) (.int .i64 b)).run Try.prog w = .ok (a == b) w) :
    (Op.eqFields D (nodeC x) (nodeC y) (Try.prog.fieldsOf 24).toList).run Try.prog w = .ok (eqB x y) w := by
  have hu := Try.underlying3
  have hp : ∀ z : Nd, (part 22 (nodeC z) 5).run Try.prog w = .ok (ptrV z) w := fun z => by kernel_rfl
  have hq : ∀ (z : Nd) (o : Nat) (v : Value), (nodeC z)[o]? = some v → (part 3 (nodeC z) o).run Try.prog w = .ok v w := fun z o v h => run_part_int w 3 .i64 _ _ _ hu h
  simp only [Program.fieldsOf, Try.underlying24, Op.eqFields]
  rw [if_pos (by decide), if_pos (by decide), if_pos (by decide), if_pos (by decide), if_pos (by decide), if_pos (by decide)]
  simp only [Sem.run_bind, Sem.run_ite, Sem.run_pure, hq x 0 (.int .i64 x.num) rfl, hq x 1 (.int .i64 x.kind) rfl, hq x 2 (.int .i64 x.links) rfl, hq x 3 (.int .i64 x.size) rfl, hq x 4 (.int .i64 x.time) rfl, hq y 0 (.int .i64 y.num) rfl, hq y 1 (.int .i64 y.kind) rfl, hq y 2 (.int .i64 y.links) rfl, hq y 3 (.int .i64 y.size) rfl, hq y 4 (.int .i64 y.time) rfl, Result.andThen_ok, hI, hp, e]
  unfold eqB
  generalize ((List.range 14).all fun i => x.ptr i == y.ptr i) = q
  generalize (x.num == y.num) = b0
  generalize (x.kind == y.kind) = b1
  generalize (x.links == y.links) = b2
  generalize (x.size == y.size) = b3
  generalize (x.time == y.time) = b4
  cases b0
  · rfl
  cases b1
  · rfl
  cases b2
  · rfl
  cases b3
  · rfl
  cases b4
  · rfl
  cases q <;> rfl
theorem node_struct : Try.prog.underlying 24 = some (.struct (Try.prog.fieldsOf 24)) := by simp only [Program.fieldsOf, Try.underlying24]
theorem node_stood : Try.prog.stoodInHeld 24 = false := by kernel_rfl
theorem run_nodes_eql (x y : Nd) (w : World) : (Op.equalIn 10000 24 (nodeV x) (nodeV y)).run Try.prog w = .ok (decide (x = y)) w :=
  (run_equalIn_struct w 9999 24 _ _ node_struct node_stood).trans ((run_fields_eql x y 9999 w (run_ptrs_eql x y 9997 w) (fun a b => run_equalIn_int w 9998 3 .i64 .i64 a b Try.underlying3)).trans (by rw [eqB_eq]))
/-- Two nodes compared. -/
theorem node_eql (x y : Nd) (w : World) : (binOp .eql 24 (nodeV x) (nodeV y)).run Try.prog w = .ok (.bool (decide (x = y))) w := by
  rw [run_eql_struct, run_nodes_eql]
  rfl
end Go.Proofs.Ytclfpblnjdlnfaa
