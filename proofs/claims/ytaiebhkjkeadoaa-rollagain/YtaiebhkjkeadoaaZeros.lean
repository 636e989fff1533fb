/- A row of bytes 0 that is made, and the text of it. -/
import Derived.Test.YtaiebhkjkeadoaaBldWrite
namespace Go.Proofs.Ytaiebhkjkeadoaa
open Go.RowKit

/-- A row of so many bytes 0. -/
def zrow (n : Nat) : Array Value := Array.replicate n (.int .u8 0)
theorem zrow_get (n j : Nat) (hj : j < n) : (zrow n)[j]? = some (.int .u8 0) := by
  rw [zrow, Array.getElem?_replicate, if_pos hj]
theorem zrow_size (n : Nat) : (zrow n).size = n := by simp [zrow]

theorem zmake (n : Nat) (hn : n ≤ 1000000) (w : World) : (Instr.makeSlice 50 (.int .i64 n) (.int .i64 n)).run Try.prog w = .ok (.slice (some ⟨w.heap.size, 0, none⟩) n n) (w.alloc (.cells (zrow n) 5)) := by
  obtain ⟨i0, hi, hz0, hz1, hz2⟩ := info_parts Try.binfo5
  have := run_make (P := Try.prog) w 50 5 i0 (.int .u8 0) Try.underlying50 hi hz0 .i64 .i64 n n (by omega) (by omega) (by rw [hz2]; omega) (by omega)
  rw [this, hz1]
  have e : madeCells (Value.int .u8 0).cells ((n : Int).toNat * 1) = zrow n := by
    apply Array.ext_getElem?
    intro j
    by_cases hj : j < n
    · rw [zrow_get n j hj]
      simp [madeCells, Value.cells, hj, Nat.mod_one]
    · rw [Array.getElem?_eq_none (by simp [madeCells]; omega), Array.getElem?_eq_none (by rw [zrow_size]; omega)]
  rw [e]; simp

theorem zconv (n g : Nat) (w : World) (h : w.heap[g]? = some (.cells (zrow n) 5 (0, 0))) :
    (convert 50 9 (.slice (some ⟨g, 0, none⟩) n n)).run Try.prog w = .ok (.string (zerosS n)) w := by
  have := bin_conv w g 0 n (List.replicate n 0) (fun t ht => by
    have ht' : t < n := by simpa using ht
    rw [cell_of_row w g _ _ 5 _ h, Nat.zero_add, zrow_get n t ht', List.getElem_replicate]
    rfl)
  rw [List.length_replicate] at this
  exact this
end Go.Proofs.Ytaiebhkjkeadoaa
