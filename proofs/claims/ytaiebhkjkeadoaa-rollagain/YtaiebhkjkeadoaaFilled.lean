/- The laws' own Filled: a block by a number, walked. -/
import Derived.Test.YtaiebhkjkeadoaaZeros
namespace Go.Proofs.Ytaiebhkjkeadoaa
open Go.RowKit

theorem filhid {P : Prop} (h : P) : Hid P := h
/-- Filled's byte at a place. -/
def fillB (v i : Nat) : Nat := (v + i * (1 + v % 5)) % 256
def fillL (m v : Nat) : List UInt8 := (List.range m).map fun i => UInt8.ofNat (fillB v i)
theorem fillL_length (m v : Nat) : (fillL m v).length = m := by simp [fillL]
/-- Filled's text. -/
def Fill (v : Nat) : ByteArray := ⟨(fillL 256 v).toArray⟩
theorem Fill_size (v : Nat) : (Fill v).size = 256 := by
  show (fillL 256 v).toArray.size = 256
  rw [List.size_toArray, fillL_length]
theorem Fill_list (v : Nat) : (Fill v).data.toList = fillL 256 v := rfl

/-- Filled's row behind k rounds. -/
def fillRowN (m v k : Nat) : Array Value := ((List.range m).map fun j => Value.int .u8 (if j < k then (fillB v j : Int) else 0)).toArray
theorem fillRowN_get (m v k j : Nat) (hj : j < m) : (fillRowN m v k)[j]? = some (.int .u8 (if j < k then (fillB v j : Int) else 0)) := by
  simp [fillRowN, hj]
theorem fillRowN_size (m v k : Nat) : (fillRowN m v k).size = m := by simp [fillRowN]
theorem fillRowN_zero (m v : Nat) : fillRowN m v 0 = zrow m := by
  apply Array.ext_getElem?
  intro j
  by_cases hj : j < m
  · rw [fillRowN_get m v 0 j hj, zrow_get m j hj, if_neg (by omega)]
  · rw [Array.getElem?_eq_none (by rw [fillRowN_size]; omega), Array.getElem?_eq_none (by rw [zrow_size]; omega)]
theorem fillRowN_set (m v k : Nat) (hk : k < m) : (fillRowN m v k).setIfInBounds k (.int .u8 (fillB v k)) = fillRowN m v (k + 1) := by
  apply Array.ext_getElem?
  intro j
  by_cases hj : j < m
  · by_cases e : k = j
    · subst e
      rw [Array.getElem?_setIfInBounds_self_of_lt (by rw [fillRowN_size]; exact hk), fillRowN_get m v _ _ hk, if_pos (by omega)]
    · rw [Array.getElem?_setIfInBounds_ne e, fillRowN_get m v _ _ hj, fillRowN_get m v _ _ hj]
      have : (j < k + 1) = (j < k) := by simp; omega
      simp only [this]
  · rw [Array.getElem?_eq_none (by simp [fillRowN_size]; omega), Array.getElem?_eq_none (by simp [fillRowN_size]; omega)]
theorem fill_conv (v g : Nat) (w : World) (h : w.heap[g]? = some (.cells (fillRowN 256 v 256) 5 (0, 0))) :
    (convert 50 9 (.slice (some ⟨g, 0, none⟩) 256 256)).run Try.prog w = .ok (.string (Fill v)) w := by
  have := bin_conv w g 0 256 (fillL 256 v) (fun t ht => by
    have ht' : t < 256 := by rw [fillL_length] at ht; exact ht
    have hb : fillB v t < 256 := Nat.mod_lt _ (by omega)
    rw [cell_of_row w g _ _ 5 _ h, Nat.zero_add, fillRowN_get 256 v 256 t ht', if_pos ht']
    simp [fillL, Nat.mod_eq_of_lt hb])
  rw [fillL_length] at this
  exact this
theorem fill_wrap (v k : Nat) (hv : v ≤ 100000) (hk : k < 256) : wrap64 ((v : Int) + wrap64 ((k : Int) * (1 + (v : Int) % 5))) % 256 = (fillB v k : Int) := by
  have h5 : v % 5 < 5 := Nat.mod_lt _ (by omega)
  have h1 : k * (1 + v % 5) ≤ 255 * 5 := Nat.mul_le_mul (by omega) (by omega)
  have e1 : (k : Int) * (1 + (v : Int) % 5) = ((k * (1 + v % 5) : Nat) : Int) := by push_cast; rfl
  rw [e1]
  unfold fillB
  generalize k * (1 + v % 5) = m at *
  have e2 : wrap64 (m : Int) = m := by unfold wrap64; omega
  rw [e2]
  have e3 : wrap64 ((v : Int) + m) = v + m := by unfold wrap64; omega
  rw [e3]
  omega

set_option maxRecDepth 100000 in
set_option maxHeartbeats 1000000 in
/-- Filled: a block by a number. -/
theorem filled_t (v : Nat) (w : World) (hv : v ≤ 100000) :
    Calls Try.prog 20 #[.int .i64 v] w fun e w' => e = .returned (.string (Fill v)) ∧ Below w.heap.size w w' := by
  have hmk : (Instr.makeSlice 50 (.int .i64 256) (.int .i64 256)).run Try.prog w = .ok (.slice (some ⟨w.heap.size, 0, none⟩) 256 256) (w.alloc (.cells (fillRowN 256 v 0) 5)) := by
    rw [fillRowN_zero]; exact zmake 256 (by omega) w
  have hcv : ∀ wr, Hid (wr.heap[w.heap.size]? = some (.cells (fillRowN 256 v 256) 5 (0, 0))) → (convert 50 9 (.slice (some ⟨w.heap.size, 0, none⟩) 256 256)).run Try.prog wr = .ok (.string (Fill v)) wr := fun wr h => fill_conv v w.heap.size wr h
  generalize Fill v = T at *
  obtain ⟨R, hR⟩ : ∃ R : Nat → Array Value, R = fillRowN 256 v := ⟨_, rfl⟩
  have hset : ∀ k, k < 256 → (R k).setIfInBounds k (.int .u8 (fillB v k)) = R (k + 1) := by subst hR; exact fillRowN_set 256 v
  have hget : ∀ k, k < 256 → (R k)[k]? = some (.int .u8 0) := by subst hR; intro k hk; rw [fillRowN_get 256 v k k hk]; simp
  rw [← hR] at hmk hcv
  clear hR
  have HS := filhid hset
  have HG := filhid hget
  clear hset hget
  go_enter Try.func20, Try.ntmps20
  go_wp2
  go_loopw [4] (fun i wr => ∃ k : Nat, k ≤ 256 ∧ i = .int .i64 k ∧ Hid (wr.heap[w.heap.size]? = some (.cells (R k) 5 (0, 0))) ∧ Below w.heap.size w wr) (fun i _ => 256 - (intOf i).toNat)
  case atStart => exact ⟨0, by omega, rfl, heap_alloc_new _ _, (Below.refl _ w).alloc (Nat.le_refl _) _⟩
  case round =>
    obtain ⟨k, hk, rfl, hg, hb⟩ := hrel
    by_cases hlt : k < 256
    · have hc : wr.cell? ⟨w.heap.size, k, none⟩ = some (.int .u8 0) := by rw [cell_of_row wr _ _ _ 5 _ hg.out]; exact HG.out k hlt
      have hf := frozen_of_row wr w.heap.size k _ 5 hg.out
      clear hcv hmk
      go_wp2
      rw [fill_wrap v k hv hlt]
      refine ⟨⟨k + 1, by omega, by go_num, ?_, hb.setCell (by simp) _⟩, by simp [intOf]; omega⟩
      show _ = _
      rw [heap_setCell_same wr w.heap.size k _ 5 _ hg.out, HS.out k hlt]
    · have e : k = 256 := by omega
      subst e
      have hcv' := hcv wr hg
      clear hcv hmk
      go_wp2
      go_ret
      exact ⟨rfl, hb⟩
end Go.Proofs.Ytaiebhkjkeadoaa
