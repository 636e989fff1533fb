/- What the disk's methods stand on: the owners, the sectors that there are, bytes 0, the power's count. -/
import Derived.Test.YtaiebhkjkeadoaaDiskBase
namespace Go.Proofs.Ytaiebhkjkeadoaa
open Go.RowKit

set_option maxHeartbeats 400000 in
theorem isOwner_yes (o : Int) (w : World) (h0 : 0 ≤ o) (h1 : o < 17) :
    Calls Try.prog 26 #[.int .i64 o] w fun e w' => e = .returned (.bool true) ∧ w = w' := by
  go_enter Try.func26, Try.ntmps26
  go_wp2
  go_ret
  exact ⟨rfl, rfl⟩

set_option maxHeartbeats 400000 in
theorem isOwner_no (o : Int) (w : World) (h : o < 0 ∨ 17 ≤ o) :
    Calls Try.prog 26 #[.int .i64 o] w fun e w' => e = .returned (.bool false) ∧ w = w' := by
  rcases h with h | h
  · have h' : decide (0 ≤ o) = false := by simp; omega
    go_enter Try.func26, Try.ntmps26
    go_wp2
    go_ret
    exact ⟨rfl, rfl⟩
  · have h' : decide (o < 17) = false := by simp; omega
    have h0 : 0 ≤ o := by omega
    go_enter Try.func26, Try.ntmps26
    go_wp2
    go_ret
    exact ⟨rfl, rfl⟩

theorem ret_int {k : IntKind} {a b : Int} (h : a = b) : Ending.returned (.int k a) = .returned (.int k b) := by rw [h]

def zsector : Value := .agg (Array.replicate 256 (.int .u8 0))

theorem Try.dkInfoS : (Try.prog.info? 90).map (fun i => (i.zero, i.size, i.bytes)) = some (some zsector, 256, 256) := by kernel_rfl

/-- So many bytes 0, as cells. -/
def zcells (n : Nat) : Array Value := (List.replicate n (Value.int .u8 0)).toArray

theorem madeCells_zero (k n : Nat) (hk : 0 < k) : madeCells (Array.replicate k (Value.int .u8 0)) n = zcells n := by
  apply Array.ext_getElem?
  intro j
  simp only [madeCells, zcells, Array.size_replicate, Array.getElem?_map, List.getElem?_toArray, List.getElem?_replicate]
  by_cases hj : j < n
  · rw [Array.getElem?_range]
    have : j % k < k := Nat.mod_lt _ hk
    simp [hj, this]
  · rw [Array.getElem?_range]
    simp [hj]

theorem make_sectors (n : Nat) (hn2 : n ≤ 16384) (w : World) : (Instr.makeSlice 54 (.int .i64 n) (.int .i64 n)).run Try.prog w = .ok (.slice (some ⟨w.heap.size, 0, none⟩) n n) (w.alloc (.cells (zcells (n * 256)) 90)) := by
  obtain ⟨i0, hi, hz0, hz1, hz2⟩ := info_parts Try.dkInfoS
  have := run_make (P := Try.prog) w 54 90 i0 zsector Try.underlying54 hi hz0 .i64 .i64 n n (by omega) (by omega) (by rw [hz2]; omega) (by omega)
  rw [this, hz1]
  have e : madeCells zsector.cells ((n : Int).toNat * 256) = zcells (n * 256) := madeCells_zero 256 (n * 256) (by omega)
  rw [e]; simp

set_option maxHeartbeats 400000 in
theorem has_t (b n gd : Nat) (i : Int) (w : World) (c0 : w.cell? ⟨b, 0, none⟩ = some (.slice (some ⟨gd, 0, none⟩) n n)) (h0 : 0 ≤ i) (h1 : i < n) :
    Calls Try.prog 23 #[.pointer (some ⟨b, 0, none⟩), .int .i64 i] w fun e w' => e = .returned (.bool true) ∧ w = w' := by
  go_enter Try.func23, Try.ntmps23
  go_wp2
  go_ret
  exact ⟨rfl, rfl⟩

set_option maxHeartbeats 400000 in
theorem has_f (b n gd : Nat) (i : Int) (w : World) (c0 : w.cell? ⟨b, 0, none⟩ = some (.slice (some ⟨gd, 0, none⟩) n n)) (h : i < 0 ∨ n ≤ i) :
    Calls Try.prog 23 #[.pointer (some ⟨b, 0, none⟩), .int .i64 i] w fun e w' => e = .returned (.bool false) ∧ w = w' := by
  rcases h with h | h
  · have h' : decide (0 ≤ i) = false := by simp; omega
    go_enter Try.func23, Try.ntmps23
    go_wp2
    go_ret
    exact ⟨rfl, rfl⟩
  · have h' : decide (i < n) = false := by simp; omega
    have h0 : 0 ≤ i := by omega
    go_enter Try.func23, Try.ntmps23
    go_wp2
    go_ret
    exact ⟨rfl, rfl⟩

set_option maxHeartbeats 400000 in
theorem countDown_zero (b : Nat) (w : World) (c19 : w.cell? ⟨b, 19, none⟩ = some (.int .i64 (0 : Nat))) :
    Calls Try.prog 28 #[.pointer (some ⟨b, 0, none⟩)] w fun e w' => e = .returned (.tuple #[]) ∧ w = w' := by
  go_enter Try.func28, Try.ntmps28
  go_wp2
  go_end0
  exact ⟨rfl, rfl⟩

set_option maxHeartbeats 400000 in
theorem countDown_pos (b : Nat) (lf : Nat) (dn : Bool) (w : World) (hl : lf < 9223372036854775807) (c19 : w.cell? ⟨b, 19, none⟩ = some (.int .i64 ((lf : Int) + 1))) (f19 : w.frozen? ⟨b, 19, none⟩ = false)
    (c20 : w.cell? ⟨b, 20, none⟩ = some (.bool dn)) (f20 : w.frozen? ⟨b, 20, none⟩ = false) :
    Calls Try.prog 28 #[.pointer (some ⟨b, 0, none⟩)] w fun e w' => e = .returned (.tuple #[]) ∧ w' = (w.setCell ⟨b, 19, none⟩ (.int .i64 lf)).setCell ⟨b, 20, none⟩ (.bool (lf == 0)) := by
  have e : (lf == 0) = ((lf : Int) == 0) := by rw [Bool.eq_iff_iff]; simp
  rw [e]
  clear e
  go_enter Try.func28, Try.ntmps28
  go_wp2
  go_end0
  exact ⟨rfl, rfl⟩

theorem Try.dkInfoB : (Try.prog.info? 5).map (fun i => (i.zero, i.size, i.bytes)) = some (some (.int .u8 0), 1, 1) := by kernel_rfl

theorem make_bytes (n : Nat) (hn2 : n ≤ 16777216) (w : World) : (Instr.makeSlice 50 (.int .i64 n) (.int .i64 n)).run Try.prog w = .ok (.slice (some ⟨w.heap.size, 0, none⟩) n n) (w.alloc (.cells (zcells n) 5)) := by
  obtain ⟨i0, hi, hz0, hz1, hz2⟩ := info_parts Try.dkInfoB
  have := run_make (P := Try.prog) w 50 5 i0 (.int .u8 0) Try.underlying50 hi hz0 .i64 .i64 n n (by omega) (by omega) (by rw [hz2]; omega) (by omega)
  rw [this, hz1]
  have e : madeCells (Value.int .u8 0).cells ((n : Int).toNat * 1) = zcells n := by
    have := madeCells_zero 1 n (by omega)
    simp only [Int.toNat_natCast, Nat.mul_one]
    exact this
  rw [e]; simp

/-- So many bytes 0. -/
def zbytes (n : Nat) : ByteArray := ⟨(List.replicate n 0).toArray⟩

theorem zbytes_size (n : Nat) : (zbytes n).size = n := by simp [zbytes, ByteArray.size]

theorem conv_zeros (n g : Nat) (w : World) (h : w.heap[g]? = some (.cells (zcells n) 5 (0, 0))) :
    (convert 50 9 (.slice (some ⟨g, 0, none⟩) n n)).run Try.prog w = .ok (.string (zbytes n)) w := by
  have := Lib.run_convert_whole (P := Try.prog) w 50 5 9 Try.underlying50 Try.underlying5 Try.underlying9 g 0 (zbytes n) (fun j hj => by
    rw [cell_of_row w g _ _ 5 _ h]
    have hj' : j < n := by simpa [zbytes_size] using hj
    have e : (zbytes n)[j] = 0 := by
      show (List.replicate n (0 : UInt8)).toArray[j]'_ = 0
      simp
    rw [e]
    simp [zcells, hj']) n
  rw [zbytes_size] at this
  exact this
end Go.Proofs.Ytaiebhkjkeadoaa
