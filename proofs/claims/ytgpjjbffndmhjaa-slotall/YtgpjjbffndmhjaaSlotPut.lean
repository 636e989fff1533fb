/- A state's bytes: Put walked. -/
import Derived.Test.YtgpjjbffndmhjaaSlotTurn
import Derived.Test.YtgpjjbffndmhjaaBldWrite
import Derived.Test.YtgpjjbffndmhjaaCrcCode
namespace Go.Proofs.Ytgpjjbffndmhjaa
open Go.RowKit Rec Slt

theorem sltPair {s t : ByteArray} {a b : Bool} (h1 : s = t) (h2 : a = b) : Ending.returned (.tuple #[.string s, .bool a]) = .returned (.tuple #[.string t, .bool b]) := by rw [h1, h2]

set_option maxHeartbeats 1000000 in
/-- What Put does with a number: its bytes behind the others. -/
theorem putEach_t (a : Addr) (v : Int) (n B b : Nat) (l : List UInt8) (w : World) (hc : w.cell? a = some (.int .i64 v)) (hn : n ≤ 7) (h1 : -9223372036854775808 ≤ v) (h2 : v ≤ 9223372036854775807) (hBd : Bd w B b l) (hB : B ≤ w.heap.size) (hl : l.length ≤ 100000) :
    Calls Try.prog 19 #[.pointer (some a), .int .i64 n, .pointer (some ⟨b, 0, none⟩)] w fun e w' => e = .returned (.tuple #[]) ∧ Bd w' B b (l ++ Bin.low n v) ∧ Below B w w' := by
  have HBD := slthid hBd
  have PUT := slthid (putn_t v n w (by omega) (by omega) h1 h2)
  rw [Int.toNat_natCast] at PUT
  have HL : Hid (∀ w1 : World, w.heap.size ≤ w1.heap.size → Bd w1 B b l → Calls Try.prog 17 #[.pointer (some ⟨b, 0, none⟩), .string ⟨(Bin.low n v).toArray⟩] w1 fun e w' => e = .returned (.tuple #[.int .i64 (⟨(Bin.low n v).toArray⟩ : ByteArray).size, .nilIface]) ∧ Bd w' B b (l ++ Bin.low n v) ∧ Below B w1 w' ∧ Oth b w1 w') := fun w1 h1 hb => write_t B b l _ w1 hb (by rw [lowS_size]; omega) (by omega)
  clear hBd
  generalize Bin.low n v = T at *
  go_enter Try.func19, Try.ntmps19
  go_wp2_with fail
  refine PUT.out.mono ?_
  rintro e w1 ⟨rfl, hb1⟩
  have HB1 := slthid hb1
  clear hb1 PUT
  go_wp2_with fail
  refine (HL.out _ HB1.out.size (HBD.out.on HB1.out)).mono ?_
  rintro e w2 ⟨rfl, hbd2, hbe2, hot2⟩
  have HB2 := slthid hbd2
  have HW2 : Hid (Below B w w2) := (HB1.out.mono hB).trans hbe2
  clear hbd2 hbe2 hot2 HL
  go_wp2_with fail
  go_end0
  exact ⟨rfl, HB2.out, HW2.out⟩

theorem Try.putEnters (args : Array Value) (w : World) : (callFunc 19 args).run Try.prog w = .ok (.enter 19 args) w := enters_of Try.func19 (by kernel_rfl) rfl args w

theorem wids_le : ∀ n ∈ wids, n ≤ 6 := by decide
theorem wids_fields (h g : Int) (x : Sl) (k : Nat) (hk : k < 15) : wids[k]'hk = ((fieldsOf h g x)[k]'hk).1 := by
  have hc : k = 0 ∨ k = 1 ∨ k = 2 ∨ k = 3 ∨ k = 4 ∨ k = 5 ∨ k = 6 ∨ k = 7 ∨ k = 8 ∨ k = 9 ∨ k = 10 ∨ k = 11 ∨ k = 12 ∨ k = 13 ∨ k = 14 := by omega
  rcases hc with rfl | rfl | rfl | rfl | rfl | rfl | rfl | rfl | rfl | rfl | rfl | rfl | rfl | rfl | rfl <;> rfl

/-- A state's numbers lie in three blocks. -/
def Lies (w : World) (hb gb xb : Nat) (h g : Int) (x : Sl) : Prop :=
  w.heap[hb]? = some (.cells #[.int .i64 h] 3 (0, 0)) ∧ w.heap[gb]? = some (.cells #[.int .i64 g] 3 (0, 0)) ∧ w.heap[xb]? = some (.cells (slotC x) 24 (0, 0))

theorem Lies.cell {w : World} {hb gb xb : Nat} {h g : Int} {x : Sl} (L : Lies w hb gb xb h g x) (k : Nat) (hk : k < 15) : w.cell? (turnAt hb gb xb k) = some (.int .i64 ((fieldsOf h g x)[k]'hk).2) := by
  obtain ⟨l1, l2, l3⟩ := L
  have hc : k = 0 ∨ k = 1 ∨ k = 2 ∨ k = 3 ∨ k = 4 ∨ k = 5 ∨ k = 6 ∨ k = 7 ∨ k = 8 ∨ k = 9 ∨ k = 10 ∨ k = 11 ∨ k = 12 ∨ k = 13 ∨ k = 14 := by omega
  rcases hc with rfl | rfl | rfl | rfl | rfl | rfl | rfl | rfl | rfl | rfl | rfl | rfl | rfl | rfl | rfl
  · exact (cell_of_row w _ _ _ _ _ l1).trans rfl
  · exact (cell_of_row w _ _ _ _ _ l2).trans rfl
  all_goals exact (cell_of_row w _ _ _ _ _ l3).trans rfl

theorem Lies.on {w w' : World} {hb gb xb B : Nat} {h g : Int} {x : Sl} (L : Lies w hb gb xb h g x) (k : Below B w w') (h1 : hb < B) (h2 : gb < B) (h3 : xb < B) : Lies w' hb gb xb h g x := by
  obtain ⟨l1, l2, l3⟩ := L
  exact ⟨by rw [k.block _ h1]; exact l1, by rw [k.block _ h2]; exact l2, by rw [k.block _ h3]; exact l3⟩

/-- All numbers, put. -/
theorem putTurn_t (hb gb xb B b : Nat) (h g : Int) (x : Sl) (l : List UInt8) (w : World) (L : Lies w hb gb xb h g x) (h1 : hb < B) (h2 : gb < B) (h3 : xb < B) (hB : B ≤ w.heap.size) (hBd : Bd w B b l) (hl : l.length ≤ 1000) (hf : FitsL (fieldsOf h g x)) :
    Calls Try.prog 18 #[.pointer (some ⟨hb, 0, none⟩), .pointer (some ⟨gb, 0, none⟩), .pointer (some ⟨xb, 0, none⟩), .func (.func 19) #[] #[.pointer (some ⟨b, 0, none⟩)]] w fun e w' => e = .returned (.tuple #[]) ∧ Bd w' B b (l ++ nums (fieldsOf h g x)) ∧ Below B w w' := by
  have := inTurn1_t hb gb xb 19 (.pointer (some ⟨b, 0, none⟩)) (fun k w1 => Bd w1 B b (l ++ nums ((fieldsOf h g x).take k)) ∧ Below B w w1) w ⟨by rw [List.take_zero, nums_nil, List.append_nil]; exact hBd, Below.refl _ _⟩ Try.putEnters (fun k hk w1 ⟨hb1, hw1⟩ => by
    have hx := hf ((fieldsOf h g x)[k]'hk) (List.getElem_mem _)
    have hw : wids[k]'hk ≤ 6 := wids_le _ (List.getElem_mem _)
    have hp : ((256 ^ (((fieldsOf h g x)[k]'hk).1) : Nat) : Int) ≤ 281474976710656 := by
      rw [← wids_fields h g x k hk]
      have : 256 ^ (wids[k]'hk) ≤ 256 ^ 6 := Nat.pow_le_pow_right (by decide) hw
      omega
    have hlen : (l ++ nums ((fieldsOf h g x).take k)).length ≤ 100000 := by
      have h5 := nums_take_length (fieldsOf h g x) k
      have h6 : (nums (fieldsOf h g x)).length = 58 := by rw [nums_length]; rfl
      rw [List.length_append]
      omega
    refine (putEach_t _ _ _ B b _ w1 ((L.on hw1 h1 h2 h3).cell k hk) (by omega) (by omega) (by omega) hb1 (by have := hw1.size; omega) hlen).mono ?_
    rintro e w2 ⟨rfl, hb2, hw2⟩
    refine ⟨rfl, ?_, hw1.trans hw2⟩
    rw [nums_snoc (fieldsOf h g x) k hk, ← wids_fields h g x k hk, ← List.append_assoc]
    exact hb2)
  exact this
end Go.Proofs.Ytgpjjbffndmhjaa
