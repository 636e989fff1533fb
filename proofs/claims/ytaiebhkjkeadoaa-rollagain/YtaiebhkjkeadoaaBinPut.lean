/- The program's numbers as bytes (package bin) walked: moved, Put. -/
import Derived.Test.YtaiebhkjkeadoaaBinNum
import Derived.WalkSpells
import Derived.WalkLawsBesides
import Derived.Laws.BytesArg
import Derived.Laws.BitsAllLaws
import Derived.Below
namespace Go.Proofs.Ytaiebhkjkeadoaa
open Go.RowKit

theorem binhid {P : Prop} (h : P) : Hid P := h

theorem binEnd {k : IntKind} {a b : Int} (h : a = b) : Ending.returned (.int k a) = .returned (.int k b) := by rw [h]

set_option maxHeartbeats 1000000 in
theorem moved_down (v : Int) (i : Nat) (w : World) (hi : i ≤ 6) (h1 : -9223372036854775808 ≤ v) (h2 : v ≤ 9223372036854775807) :
    Calls Try.prog 66 #[.int .i64 v, .int .i64 (-(i : Int))] w fun e w' => e = .returned (.int .i64 (v / 256 ^ i)) ∧ w = w' := by
  have hc : i = 0 ∨ i = 1 ∨ i = 2 ∨ i = 3 ∨ i = 4 ∨ i = 5 ∨ i = 6 := by omega
  rcases hc with rfl | rfl | rfl | rfl | rfl | rfl | rfl
  all_goals
    go_enter Try.func66, Try.ntmps66
    go_wp2
    go_ret
    refine ⟨binEnd ?_, rfl⟩
    omega

theorem Try.binfo5 : (Try.prog.info? 5).map (fun i => (i.zero, i.size, i.bytes)) = some (some (.int .u8 0), 1, 1) := by kernel_rfl

/-- Put's row behind k rounds. -/
def putRow (m : Nat) (v : Int) (k : Nat) : Array Value := ((List.range m).map fun j => Value.int .u8 (if j < k then v / 256 ^ j % 256 else 0)).toArray

theorem putRow_get (m : Nat) (v : Int) (k j : Nat) (hj : j < m) : (putRow m v k)[j]? = some (.int .u8 (if j < k then v / 256 ^ j % 256 else 0)) := by
  simp [putRow, List.getElem?_range hj]

theorem putRow_size (m : Nat) (v : Int) (k : Nat) : (putRow m v k).size = m := by simp [putRow]

theorem putRow_set (m : Nat) (v : Int) (k : Nat) (hk : k < m) : (putRow m v k).setIfInBounds k (.int .u8 (v / 256 ^ k % 256)) = putRow m v (k + 1) := by
  apply Array.ext_getElem?
  intro j
  by_cases hj : j < m
  · by_cases e : k = j
    · subst e
      rw [Array.getElem?_setIfInBounds_self_of_lt (by rw [putRow_size]; exact hk), putRow_get m v _ _ hk]
      simp
    · rw [Array.getElem?_setIfInBounds_ne e, putRow_get m v _ _ hj, putRow_get m v _ _ hj]
      have : (j < k + 1) = (j < k) := by simp; omega
      simp [this]
  · rw [Array.getElem?_eq_none (by simp [putRow_size]; omega), Array.getElem?_eq_none (by simp [putRow_size]; omega)]

theorem putRow_make (k : Nat) (v : Int) (hk : k ≤ 7) (w : World) : (Instr.makeSlice 50 (.int .i64 k) (.int .i64 k)).run Try.prog w = .ok (.slice (some ⟨w.heap.size, 0, none⟩) k k) (w.alloc (.cells (putRow k v 0) 5)) := by
  obtain ⟨i0, hi, hz0, hz1, hz2⟩ := info_parts Try.binfo5
  have := run_make (P := Try.prog) w 50 5 i0 (.int .u8 0) Try.underlying50 hi hz0 .i64 .i64 k k (by omega) (by omega) (by rw [hz2]; omega) (by omega)
  rw [this, hz1]
  have e : madeCells (Value.int .u8 0).cells ((k : Int).toNat * 1) = putRow k v 0 := by
    apply Array.ext_getElem?
    intro j
    by_cases hj : j < k
    · rw [putRow_get k v 0 j hj]
      simp [madeCells, Value.cells, hj, Nat.mod_one]
    · rw [Array.getElem?_eq_none (by simp [madeCells]; omega), Array.getElem?_eq_none (by simp [putRow_size]; omega)]
  rw [e]; simp

theorem bin_str (l : List UInt8) : strOfNums (l.map fun b => (b.toNat : Int)) = ⟨l.toArray⟩ := by
  have e : ((fun n : Int => UInt8.ofNat n.toNat) ∘ fun b : UInt8 => (b.toNat : Int)) = id := by
    funext b
    simp
  apply ByteArray.ext
  simp [strOfNums, e]

theorem bin_conv (w : World) (b off cap : Nat) (l : List UInt8) (h : ∀ t (h : t < l.length), w.cell? ⟨b, off + t, none⟩ = some (.int .u8 (l[t].toNat : Int))) :
    (convert 50 9 (.slice (some ⟨b, off, none⟩) l.length cap)).run Try.prog w = .ok (.string ⟨l.toArray⟩) w := by
  have := run_convert_bytes_arg (P := Try.prog) w 50 5 Try.underlying50 Try.underlying5 b off l.length cap (l.map fun b => (b.toNat : Int)) (by simp) (fun i hi => by
    rw [h i hi]
    simp [List.getD, hi]) 9 Try.underlying9
  rw [this, bin_str]

theorem putRow_conv (k : Nat) (v : Int) (g : Nat) (w : World) (h : w.heap[g]? = some (.cells (putRow k v k) 5 (0, 0))) :
    (convert 50 9 (.slice (some ⟨g, 0, none⟩) k k)).run Try.prog w = .ok (.string ⟨(Bin.low k v).toArray⟩) w := by
  have := bin_conv w g 0 k (Bin.low k v) (fun t ht => by
    have ht' : t < k := by rw [Bin.low_length] at ht; exact ht
    have e := Bin.low_get k v t ht'
    rw [List.getElem?_eq_getElem ht] at e
    have e2 := Option.some.inj e
    rw [e2, cell_of_row w g _ _ 5 _ h, Nat.zero_add, putRow_get k v k t ht', if_pos ht', Bin.toNat_of _ (by omega), Int.toNat_of_nonneg (by omega)])
  rw [Bin.low_length] at this
  exact this

set_option maxHeartbeats 1000000 in
theorem put_mid (v : Int) (k : Nat) (w : World) (hk : k ≤ 7) (h1 : -9223372036854775808 ≤ v) (h2 : v ≤ 9223372036854775807) :
    Calls Try.prog 49 #[.int .i64 v, .int .i64 k] w fun e w' => e = .returned (.string ⟨(Bin.low k v).toArray⟩) ∧ Below w.heap.size w w' := by
  have hmk : (Instr.makeSlice 50 (.int .i64 k) (.int .i64 k)).run Try.prog w = .ok (.slice (some ⟨w.heap.size, 0, none⟩) k k) (w.alloc (.cells (putRow k v 0) 5)) := putRow_make k v (by omega) w
  have hcv : ∀ wr, Hid (wr.heap[w.heap.size]? = some (.cells (putRow k v k) 5 (0, 0))) → (convert 50 9 (.slice (some ⟨w.heap.size, 0, none⟩) k k)).run Try.prog wr = .ok (.string ⟨(Bin.low k v).toArray⟩) wr := fun wr h => putRow_conv k v w.heap.size wr h
  generalize Bin.low k v = T at *
  obtain ⟨R, hR⟩ : ∃ R : Nat → Array Value, R = putRow k v := ⟨_, rfl⟩
  have hset : ∀ j, j < k → (R j).setIfInBounds j (.int .u8 (v / 256 ^ j % 256)) = R (j + 1) := by subst hR; exact putRow_set k v
  have hget : ∀ j, j < k → (R j)[j]? = some (.int .u8 0) := by subst hR; intro j hj; rw [putRow_get k v j j hj]; simp
  rw [← hR] at hmk hcv
  clear hR
  have HS := binhid hset
  have HG := binhid hget
  have HV := binhid (And.intro h1 h2)
  clear hset hget h1 h2
  go_enter Try.func49, Try.ntmps49
  go_wp2
  go_loopw [13] (fun i wr => ∃ j : Nat, j ≤ k ∧ i = .int .i64 j ∧ Hid (wr.heap[w.heap.size]? = some (.cells (R j) 5 (0, 0))) ∧ Below w.heap.size w wr) (fun i _ => k - (intOf i).toNat)
  case atStart => exact ⟨0, by omega, rfl, heap_alloc_new _ _, (Below.refl _ w).alloc (Nat.le_refl _) _⟩
  case round =>
    obtain ⟨j, hj, rfl, hg, hb⟩ := hrel
    by_cases hlt : j < k
    · have hc : wr.cell? ⟨w.heap.size, j, none⟩ = some (.int .u8 0) := by rw [cell_of_row wr _ _ _ 5 _ hg.out]; exact HG.out j hlt
      have hf := frozen_of_row wr w.heap.size j _ 5 hg.out
      have HQ := binhid (HS.out j hlt)
      have M := moved_down v j wr (by omega) HV.out.1 HV.out.2
      clear hcv hmk
      generalize v / 256 ^ j = q at *
      go_wp2_with fail
      refine M.mono ?_
      rintro e w1 ⟨rfl, rfl⟩
      go_wp2
      refine ⟨⟨j + 1, by omega, by go_num, ?_, hb.setCell (by simp) _⟩, by simp [intOf]; omega⟩
      show _ = _
      rw [heap_setCell_same wr w.heap.size j _ 5 _ hg.out, HQ.out]
    · have e : j = k := by omega
      subst e
      have hcv' := hcv wr hg
      clear hcv hmk
      go_wp2
      go_ret
      exact ⟨rfl, hb⟩

set_option maxHeartbeats 1000000 in
theorem put_big (v n : Int) (w : World) (hn : 7 < n) (h1 : -9223372036854775808 ≤ v) (h2 : v ≤ 9223372036854775807) :
    Calls Try.prog 49 #[.int .i64 v, .int .i64 n] w fun e w' => e = .returned (.string ⟨(Bin.low 7 v).toArray⟩) ∧ Below w.heap.size w w' := by
  have hmk : (Instr.makeSlice 50 (.int .i64 7) (.int .i64 7)).run Try.prog w = .ok (.slice (some ⟨w.heap.size, 0, none⟩) 7 7) (w.alloc (.cells (putRow 7 v 0) 5)) := putRow_make 7 v (by omega) w
  have hcv : ∀ wr, Hid (wr.heap[w.heap.size]? = some (.cells (putRow 7 v 7) 5 (0, 0))) → (convert 50 9 (.slice (some ⟨w.heap.size, 0, none⟩) 7 7)).run Try.prog wr = .ok (.string ⟨(Bin.low 7 v).toArray⟩) wr := fun wr h => putRow_conv 7 v w.heap.size wr h
  generalize Bin.low 7 v = T at *
  obtain ⟨R, hR⟩ : ∃ R : Nat → Array Value, R = putRow 7 v := ⟨_, rfl⟩
  have hset : ∀ j, j < 7 → (R j).setIfInBounds j (.int .u8 (v / 256 ^ j % 256)) = R (j + 1) := by subst hR; exact putRow_set 7 v
  have hget : ∀ j, j < 7 → (R j)[j]? = some (.int .u8 0) := by subst hR; intro j hj; rw [putRow_get 7 v j j hj]; simp
  rw [← hR] at hmk hcv
  clear hR
  have HS := binhid hset
  have HG := binhid hget
  have HV := binhid (And.intro h1 h2)
  clear hset hget h1 h2
  go_enter Try.func49, Try.ntmps49
  go_wp2
  go_loopw [13] (fun i wr => ∃ j : Nat, j ≤ 7 ∧ i = .int .i64 j ∧ Hid (wr.heap[w.heap.size]? = some (.cells (R j) 5 (0, 0))) ∧ Below w.heap.size w wr) (fun i _ => 7 - (intOf i).toNat)
  case atStart => exact ⟨0, by omega, rfl, heap_alloc_new _ _, (Below.refl _ w).alloc (Nat.le_refl _) _⟩
  case round =>
    obtain ⟨j, hj, rfl, hg, hb⟩ := hrel
    by_cases hlt : j < 7
    · have hc : wr.cell? ⟨w.heap.size, j, none⟩ = some (.int .u8 0) := by rw [cell_of_row wr _ _ _ 5 _ hg.out]; exact HG.out j hlt
      have hf := frozen_of_row wr w.heap.size j _ 5 hg.out
      have HQ := binhid (HS.out j hlt)
      have M := moved_down v j wr (by omega) HV.out.1 HV.out.2
      clear hcv hmk
      generalize v / 256 ^ j = q at *
      go_wp2_with fail
      refine M.mono ?_
      rintro e w1 ⟨rfl, rfl⟩
      go_wp2
      refine ⟨⟨j + 1, by omega, by go_num, ?_, hb.setCell (by simp) _⟩, by simp [intOf]; omega⟩
      show _ = _
      rw [heap_setCell_same wr w.heap.size j _ 5 _ hg.out, HQ.out]
    · have e : j = 7 := by omega
      subst e
      have hcv' := hcv wr hg
      clear hcv hmk
      go_wp2
      go_ret
      exact ⟨rfl, hb⟩

set_option maxHeartbeats 1000000 in
theorem put_less (v n : Int) (w : World) (hn : n < 0) (h1 : -9223372036854775808 ≤ v) (h2 : v ≤ 9223372036854775807) :
    Calls Try.prog 49 #[.int .i64 v, .int .i64 n] w fun e w' => e = .returned (.string ⟨(Bin.low 0 v).toArray⟩) ∧ Below w.heap.size w w' := by
  have hmk : (Instr.makeSlice 50 (.int .i64 0) (.int .i64 0)).run Try.prog w = .ok (.slice (some ⟨w.heap.size, 0, none⟩) 0 0) (w.alloc (.cells (putRow 0 v 0) 5)) := putRow_make 0 v (by omega) w
  have hcv : ∀ wr, Hid (wr.heap[w.heap.size]? = some (.cells (putRow 0 v 0) 5 (0, 0))) → (convert 50 9 (.slice (some ⟨w.heap.size, 0, none⟩) 0 0)).run Try.prog wr = .ok (.string ⟨(Bin.low 0 v).toArray⟩) wr := fun wr h => putRow_conv 0 v w.heap.size wr h
  generalize Bin.low 0 v = T at *
  obtain ⟨R, hR⟩ : ∃ R : Nat → Array Value, R = putRow 0 v := ⟨_, rfl⟩
  have hset : ∀ j, j < 0 → (R j).setIfInBounds j (.int .u8 (v / 256 ^ j % 256)) = R (j + 1) := by subst hR; exact putRow_set 0 v
  have hget : ∀ j, j < 0 → (R j)[j]? = some (.int .u8 0) := by subst hR; intro j hj; rw [putRow_get 0 v j j hj]; simp
  rw [← hR] at hmk hcv
  clear hR
  have HS := binhid hset
  have HG := binhid hget
  have HV := binhid (And.intro h1 h2)
  clear hset hget h1 h2
  go_enter Try.func49, Try.ntmps49
  go_wp2
  go_loopw [13] (fun i wr => ∃ j : Nat, j ≤ 0 ∧ i = .int .i64 j ∧ Hid (wr.heap[w.heap.size]? = some (.cells (R j) 5 (0, 0))) ∧ Below w.heap.size w wr) (fun i _ => 0 - (intOf i).toNat)
  case atStart => exact ⟨0, by omega, rfl, heap_alloc_new _ _, (Below.refl _ w).alloc (Nat.le_refl _) _⟩
  case round =>
    obtain ⟨j, hj, rfl, hg, hb⟩ := hrel
    by_cases hlt : j < 0
    · exact absurd hlt (Nat.not_lt_zero _)
    · have e : j = 0 := by omega
      subst e
      have hcv' := hcv wr hg
      clear hcv hmk
      go_wp2
      go_ret
      exact ⟨rfl, hb⟩

/-- Put, whatever it is asked. -/
theorem put_t (v n : Int) (k : Nat) (w : World) (hn : min (max n 0) 7 = (k : Int)) (h1 : -9223372036854775808 ≤ v) (h2 : v ≤ 9223372036854775807) :
    Calls Try.prog 49 #[.int .i64 v, .int .i64 n] w fun e w' => e = .returned (.string ⟨(Bin.low k v).toArray⟩) ∧ Below w.heap.size w w' := by
  by_cases ha : n < 0
  · have e : k = 0 := by omega
    subst e
    exact put_less v n w ha h1 h2
  · by_cases hb : 7 < n
    · have e : k = 7 := by omega
      subst e
      exact put_big v n w hb h1 h2
    · have e : n = (k : Int) := by omega
      subst e
      exact put_mid v k w (by omega) h1 h2

theorem bin_join (v b i : Nat) (hv : v < 256 ^ i) : v ||| 256 ^ i * b = v + 256 ^ i * b := by
  have e : (256 : Nat) ^ i = 2 ^ (8 * i) := by rw [Nat.pow_mul]
  rw [e] at hv ⊢
  rw [Nat.or_comm, nat_join (8 * i) (2 ^ (8 * i) * b) v (by simp) hv, Nat.add_comm]

theorem bin_up {i b : Nat} (hi : i ≤ 6) (hb : b < 256) : 256 ^ i * b < 18446744073709551616 := by
  have h1 : (256 : Nat) ^ i ≤ 256 ^ 6 := Nat.pow_le_pow_right (by decide) hi
  have h2 : 256 ^ i * b ≤ 256 ^ 6 * 255 := Nat.mul_le_mul h1 (by omega)
  omega

theorem bin_small {i v : Nat} (hi : i ≤ 7) (hv : v < 256 ^ i) : v < 72057594037927936 := by
  have h1 : (256 : Nat) ^ i ≤ 256 ^ 7 := Nat.pow_le_pow_right (by decide) hi
  omega

/-- The bytes of a text from a place on, so many. -/
def part (s : ByteArray) (a n : Nat) : List UInt8 := (s.data.toList.drop a).take n
theorem part_length (s : ByteArray) (a n : Nat) (h : a + n ≤ s.size) : (part s a n).length = n := by
  have e : s.data.toList.length = s.size := by simp
  unfold part
  rw [List.length_take, List.length_drop]
  omega
theorem part_zero (s : ByteArray) (a : Nat) : part s a 0 = [] := by simp [part]
theorem part_succ (s : ByteArray) (a n : Nat) (h : a + n < s.size) : part s a (n + 1) = part s a n ++ [s[a + n]] := by
  unfold part
  have h2 : n < (s.data.toList.drop a).length := by simp; omega
  rw [List.take_succ_eq_append_getElem h2]
  simp
  rfl

end Go.Proofs.Ytaiebhkjkeadoaa
