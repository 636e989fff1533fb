/- A node's bytes: what Put does with each number; all of them in turn. -/
import Derived.Test.YtclfpblnjdlnfaaNodeTurn
import Derived.Test.YtclfpblnjdlnfaaBldWrite
import Derived.Test.YtclfpblnjdlnfaaCrcCode
namespace Go.Proofs.Ytclfpblnjdlnfaa
open Go.RowKit Rec Nod

theorem ndPair {s t : ByteArray} {a b : Bool} (h1 : s = t) (h2 : a = b) : Ending.returned (.tuple #[.string s, .bool a]) = .returned (.tuple #[.string t, .bool b]) := by rw [h1, h2]

set_option maxHeartbeats 1000000 in
/-- What Put does with a number: its bytes behind the others. -/
theorem putEach_t (a : Addr) (v : Int) (n B b : Nat) (l : List UInt8) (w : World) (hc : w.cell? a = some (.int .i64 v)) (hn : n ≤ 7) (h1 : -9223372036854775808 ≤ v) (h2 : v ≤ 9223372036854775807) (hBd : Bd w B b l) (hB : B ≤ w.heap.size) (hl : l.length ≤ 100000) :
    Calls Try.prog 18 #[.pointer (some a), .int .i64 n, .pointer (some ⟨b, 0, none⟩)] w fun e w' => e = .returned (.tuple #[]) ∧ Bd w' B b (l ++ Bin.low n v) ∧ Below B w w' := by
  have HBD := ndhid hBd
  have PUT := ndhid (putn_t v n w (by omega) (by omega) h1 h2)
  rw [Int.toNat_natCast] at PUT
  have HL : Hid (∀ w1 : World, w.heap.size ≤ w1.heap.size → Bd w1 B b l → Calls Try.prog 16 #[.pointer (some ⟨b, 0, none⟩), .string ⟨(Bin.low n v).toArray⟩] w1 fun e w' => e = .returned (.tuple #[.int .i64 (⟨(Bin.low n v).toArray⟩ : ByteArray).size, .nilIface]) ∧ Bd w' B b (l ++ Bin.low n v) ∧ Below B w1 w' ∧ Oth b w1 w') := fun w1 h1 hb => write_t B b l _ w1 hb (by rw [lowS_size]; omega) (by omega)
  clear hBd
  generalize Bin.low n v = T at *
  go_enter Try.func18, Try.ntmps18
  go_wp2_with fail
  refine PUT.out.mono ?_
  rintro e w1 ⟨rfl, hb1⟩
  have HB1 := ndhid hb1
  clear hb1 PUT
  go_wp2_with fail
  refine (HL.out _ HB1.out.size (HBD.out.on HB1.out)).mono ?_
  rintro e w2 ⟨rfl, hbd2, hbe2, hot2⟩
  have HB2 := ndhid hbd2
  have HW2 : Hid (Below B w w2) := (HB1.out.mono hB).trans hbe2
  clear hbd2 hbe2 hot2 HL
  go_wp2_with fail
  go_end0
  exact ⟨rfl, HB2.out, HW2.out⟩

theorem Try.putEnters (args : Array Value) (w : World) : (callFunc 18 args).run Try.prog w = .ok (.enter 18 args) w := enters_of Try.func18 (by kernel_rfl) rfl args w

theorem wids_le : ∀ n ∈ wids, n ≤ 6 := by decide
theorem wids_fields (x : Nd) (k : Nat) (hk : k < 19) : wids[k]'hk = ((fieldsOf x)[k]'hk).1 := by
  have hc : k = 0 ∨ k = 1 ∨ k = 2 ∨ k = 3 ∨ k = 4 ∨ k = 5 ∨ k = 6 ∨ k = 7 ∨ k = 8 ∨ k = 9 ∨ k = 10 ∨ k = 11 ∨ k = 12 ∨ k = 13 ∨ k = 14 ∨ k = 15 ∨ k = 16 ∨ k = 17 ∨ k = 18 := by omega
  rcases hc with rfl | rfl | rfl | rfl | rfl | rfl | rfl | rfl | rfl | rfl | rfl | rfl | rfl | rfl | rfl | rfl | rfl | rfl | rfl <;> rfl

/-- A node's cells are its numbers in their order. -/
theorem node_field {w : World} {xb : Nat} {x : Nd} (L : w.heap[xb]? = some (.cells (nodeC x) 24 (0, 0))) (k : Nat) (hk : k < 19) : w.cell? ⟨xb, k, none⟩ = some (.int .i64 ((fieldsOf x)[k]'hk).2) := by
  have hc : k = 0 ∨ k = 1 ∨ k = 2 ∨ k = 3 ∨ k = 4 ∨ k = 5 ∨ k = 6 ∨ k = 7 ∨ k = 8 ∨ k = 9 ∨ k = 10 ∨ k = 11 ∨ k = 12 ∨ k = 13 ∨ k = 14 ∨ k = 15 ∨ k = 16 ∨ k = 17 ∨ k = 18 := by omega
  rcases hc with rfl | rfl | rfl | rfl | rfl | rfl | rfl | rfl | rfl | rfl | rfl | rfl | rfl | rfl | rfl | rfl | rfl | rfl | rfl
  all_goals exact (cell_of_row w _ _ _ _ _ L).trans rfl

/-- All numbers, put. -/
theorem putTurn_t (xb B b : Nat) (x : Nd) (l : List UInt8) (w : World) (L : w.heap[xb]? = some (.cells (nodeC x) 24 (0, 0))) (h1 : xb < B) (hB : B ≤ w.heap.size) (hBd : Bd w B b l) (hl : l.length ≤ 1000) (hf : FitsL (fieldsOf x)) :
    Calls Try.prog 17 #[.pointer (some ⟨xb, 0, none⟩), .func (.func 18) #[] #[.pointer (some ⟨b, 0, none⟩)]] w fun e w' => e = .returned (.tuple #[]) ∧ Bd w' B b (l ++ nums (fieldsOf x)) ∧ Below B w w' := by
  have h6 : (nums (fieldsOf x)).length = 41 := by rw [nums_length]; simp [fieldsOf]
  have := inTurn1_t xb 18 (.pointer (some ⟨b, 0, none⟩)) (fun k w1 => Bd w1 B b (l ++ nums ((fieldsOf x).take k)) ∧ Below B w w1) w ⟨by rw [List.take_zero, nums_nil, List.append_nil]; exact hBd, Below.refl _ _⟩ Try.putEnters (fun k hk w1 ⟨hb1, hw1⟩ => by
    have hx := hf ((fieldsOf x)[k]'hk) (List.getElem_mem _)
    have hw : wids[k]'hk ≤ 6 := wids_le _ (List.getElem_mem _)
    have hp : ((256 ^ (((fieldsOf x)[k]'hk).1) : Nat) : Int) ≤ 281474976710656 := by
      rw [← wids_fields x k hk]
      have : 256 ^ (wids[k]'hk) ≤ 256 ^ 6 := Nat.pow_le_pow_right (by decide) hw
      omega
    have hlen : (l ++ nums ((fieldsOf x).take k)).length ≤ 100000 := by
      have h5 := nums_take_length (fieldsOf x) k
      rw [List.length_append]
      omega
    have L1 : w1.heap[xb]? = some (.cells (nodeC x) 24 (0, 0)) := by rw [hw1.block _ h1]; exact L
    refine (putEach_t _ _ _ B b _ w1 (node_field L1 k hk) (by omega) (by omega) (by omega) hb1 (by have := hw1.size; omega) hlen).mono ?_
    rintro e w2 ⟨rfl, hb2, hw2⟩
    refine ⟨rfl, ?_, hw1.trans hw2⟩
    rw [nums_snoc (fieldsOf x) k hk, ← wids_fields x k hk, ← List.append_assoc]
    exact hb2)
  have ht : (fieldsOf x).take 19 = fieldsOf x := List.take_of_length_le (by simp [fieldsOf])
  rw [ht] at this
  exact this
end Go.Proofs.Ytclfpblnjdlnfaa
