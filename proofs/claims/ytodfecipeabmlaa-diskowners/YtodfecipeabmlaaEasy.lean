/- The smallest functions of the program, walked: what each answers, and that the world stays as it was. -/
import Derived.Test.YtodfecipeabmlaaBase
namespace Go.Proofs.Ytodfecipeabmlaa
open Go.RowKit

set_option maxHeartbeats 400000 in
theorem isOwner_yes (o : Int) (w : World) (h0 : 0 ≤ o) (h1 : o < 17) :
    Calls Try.prog 23 #[.int .i64 o] w fun e w' => e = .returned (.bool true) ∧ w = w' := by
  go_enter Try.func23, Try.ntmps23
  go_wp2
  go_ret
  exact ⟨rfl, rfl⟩

set_option maxHeartbeats 400000 in
theorem isOwner_no (o : Int) (w : World) (h : o < 0 ∨ 17 ≤ o) :
    Calls Try.prog 23 #[.int .i64 o] w fun e w' => e = .returned (.bool false) ∧ w = w' := by
  rcases h with h | h
  · have h' : decide (0 ≤ o) = false := by simp; omega
    go_enter Try.func23, Try.ntmps23
    go_wp2
    go_ret
    exact ⟨rfl, rfl⟩
  · have h' : decide (o < 17) = false := by simp; omega
    have h0 : 0 ≤ o := by omega
    go_enter Try.func23, Try.ntmps23
    go_wp2
    go_ret
    exact ⟨rfl, rfl⟩

theorem emod_of_tmod {v n : Int} (hn : 0 < n) : v % n = if v.tmod n < 0 then v.tmod n + n else v.tmod n := by
  rw [Int.tmod_eq_emod]
  have h1 := Int.emod_nonneg v (show n ≠ 0 by omega)
  have h2 := Int.emod_lt_of_pos v hn
  split <;> split <;> omega

theorem ret_int {k : IntKind} {a b : Int} (h : a = b) : Ending.returned (.int k a) = .returned (.int k b) := by rw [h]

set_option maxHeartbeats 400000 in
theorem place_any (v n : Int) (w : World) (hn : 0 < n) (hn2 : n ≤ 1099511627776) :
    Calls Try.prog 9 #[.int .i64 v, .int .i64 n] w fun e w' => e = .returned (.int .i64 (v % n)) ∧ w = w' := by
  have hn0 : (n == 0) = false := by simp; omega
  have e := @emod_of_tmod v n hn
  have h1 := Int.emod_nonneg v (show n ≠ 0 by omega)
  have h2 := Int.emod_lt_of_pos v hn
  have b1 : -n ≤ v.tmod n := by split at e <;> omega
  have b2 : v.tmod n < n := by split at e <;> omega
  have H : Hid (v % n = if v.tmod n < 0 then v.tmod n + n else v.tmod n) := e
  clear e h1 h2
  go_enter Try.func9, Try.ntmps9
  go_wp2
  all_goals go_ret
  · exact ⟨ret_int (by rw [H.out, if_pos (by assumption)]), rfl⟩
  · exact ⟨ret_int (by rw [H.out, if_neg (by omega)]), rfl⟩

def zsector : Value := .agg (Array.replicate 256 (.int .u8 0))
theorem Try.info55 : (Try.prog.info? 55).map (fun i => (i.zero, i.size, i.bytes)) = some (some zsector, 256, 256) := by kernel_rfl

/-- So many bytes 0, as cells. -/
def zcells (n : Nat) : Array Value := (List.replicate n (Value.int .u8 0)).toArray

theorem madeCells_zero (k n : Nat) (hk : 0 < k) : madeCells (Array.replicate k (Value.int .u8 0)) n = zcells n := by
  apply Array.ext_getElem?
  intro j
  simp only [madeCells, zcells, Array.size_replicate, Array.getElem?_map, List.getElem?_toArray, List.getElem?_replicate]
  by_cases hj : j < n
  · rw [Array.getElem?_range]
    have : j % k < k := Nat.mod_lt _ hk
    simp [hj, this]
  · rw [Array.getElem?_range]
    simp [hj]

theorem make_sectors (n : Nat) (hn2 : n ≤ 16384) (w : World) : (Instr.makeSlice 42 (.int .i64 n) (.int .i64 n)).run Try.prog w = .ok (.slice (some ⟨w.heap.size, 0, none⟩) n n) (w.alloc (.cells (zcells (n * 256)) 55)) := by
  obtain ⟨i0, hi, hz0, hz1, hz2⟩ := info_parts Try.info55
  have := run_make (P := Try.prog) w 42 55 i0 zsector Try.underlying42 hi hz0 .i64 .i64 n n (by omega) (by omega) (by rw [hz2]; omega) (by omega)
  rw [this, hz1]
  have e : madeCells zsector.cells ((n : Int).toNat * 256) = zcells (n * 256) := madeCells_zero 256 (n * 256) (by omega)
  rw [e]; simp

set_option maxHeartbeats 400000 in
theorem sectors_t (b n gd : Nat) (w : World) (c0 : w.cell? ⟨b, 0, none⟩ = some (.slice (some ⟨gd, 0, none⟩) n n)) :
    Calls Try.prog 22 #[.pointer (some ⟨b, 0, none⟩)] w fun e w' => e = .returned (.int .i64 n) ∧ w = w' := by
  go_enter Try.func22, Try.ntmps22
  go_wp2
  go_ret
  exact ⟨rfl, rfl⟩

set_option maxHeartbeats 400000 in
theorem has_t (b n gd : Nat) (i : Int) (w : World) (c0 : w.cell? ⟨b, 0, none⟩ = some (.slice (some ⟨gd, 0, none⟩) n n)) (h0 : 0 ≤ i) (h1 : i < n) :
    Calls Try.prog 25 #[.pointer (some ⟨b, 0, none⟩), .int .i64 i] w fun e w' => e = .returned (.bool true) ∧ w = w' := by
  go_enter Try.func25, Try.ntmps25
  go_wp2
  go_ret
  exact ⟨rfl, rfl⟩

set_option maxHeartbeats 400000 in
theorem has_f (b n gd : Nat) (i : Int) (w : World) (c0 : w.cell? ⟨b, 0, none⟩ = some (.slice (some ⟨gd, 0, none⟩) n n)) (h : i < 0 ∨ n ≤ i) :
    Calls Try.prog 25 #[.pointer (some ⟨b, 0, none⟩), .int .i64 i] w fun e w' => e = .returned (.bool false) ∧ w = w' := by
  rcases h with h | h
  · have h' : decide (0 ≤ i) = false := by simp; omega
    go_enter Try.func25, Try.ntmps25
    go_wp2
    go_ret
    exact ⟨rfl, rfl⟩
  · have h' : decide (i < n) = false := by simp; omega
    have h0 : 0 ≤ i := by omega
    go_enter Try.func25, Try.ntmps25
    go_wp2
    go_ret
    exact ⟨rfl, rfl⟩

set_option maxHeartbeats 400000 in
theorem waits_t (b : Nat) (o : Nat) (ad : Option Addr) (l c : Nat) (w : World) (h : o < 17) (cV : w.cell? ⟨b, 1 + o, none⟩ = some (.slice ad l c)) :
    Calls Try.prog 13 #[.pointer (some ⟨b, 0, none⟩), .int .i64 o] w fun e w' => e = .returned (.int .i64 l) ∧ w = w' := by
  go_enter Try.func13, Try.ntmps13
  go_wp2_with (first | (go_at_call 23; refine (isOwner_yes _ _ (by omega) (by omega)).mono ?_; rintro e w' ⟨rfl, rfl⟩))
  go_ret
  exact ⟨rfl, rfl⟩

set_option maxHeartbeats 400000 in
theorem waits_f (b : Nat) (o : Int) (w : World) (h : o < 0 ∨ 17 ≤ o) :
    Calls Try.prog 13 #[.pointer (some ⟨b, 0, none⟩), .int .i64 o] w fun e w' => e = .returned (.int .i64 0) ∧ w = w' := by
  go_enter Try.func13, Try.ntmps13
  go_wp2_with (first | (go_at_call 23; refine (isOwner_no _ _ h).mono ?_; rintro e w' ⟨rfl, rfl⟩))
  go_ret
  exact ⟨rfl, rfl⟩

set_option maxHeartbeats 400000 in
theorem writes_t (b : Nat) (m : Nat) (w : World) (c18 : w.cell? ⟨b, 18, none⟩ = some (.int .i64 m)) :
    Calls Try.prog 19 #[.pointer (some ⟨b, 0, none⟩)] w fun e w' => e = .returned (.int .i64 m) ∧ w = w' := by
  go_enter Try.func19, Try.ntmps19
  go_wp2
  go_ret
  exact ⟨rfl, rfl⟩

set_option maxHeartbeats 400000 in
theorem down_t (b : Nat) (m : Bool) (w : World) (c20 : w.cell? ⟨b, 20, none⟩ = some (.bool m)) :
    Calls Try.prog 16 #[.pointer (some ⟨b, 0, none⟩)] w fun e w' => e = .returned (.bool m) ∧ w = w' := by
  go_enter Try.func16, Try.ntmps16
  go_wp2
  go_ret
  exact ⟨rfl, rfl⟩

theorem conv_sector (w : World) (g o : Nat) (s : ByteArray) (hs : s.size = 256) (h : Lib.Bytes w g o s) :
    (convert 40 9 (.slice (some ⟨g, o, none⟩) 256 256)).run Try.prog w = .ok (.string s) w := by
  have := Lib.run_convert_whole (P := Try.prog) w 40 5 9 Try.underlying40 Try.underlying5 Try.underlying9 g o s h 256
  rw [hs] at this
  exact this

set_option maxHeartbeats 400000 in
theorem durable_t (b gd n : Nat) (i : Nat) (s : ByteArray) (w : World) (h : i < n) (c0 : w.cell? ⟨b, 0, none⟩ = some (.slice (some ⟨gd, 0, none⟩) n n))
    (hs : s.size = 256) (hb : Lib.Bytes w gd (i * 256) s) :
    Calls Try.prog 15 #[.pointer (some ⟨b, 0, none⟩), .int .i64 i] w fun e w' => e = .returned (.tuple #[.string s, .bool true]) ∧ w = w' := by
  have hcv := conv_sector w gd (i * 256) s hs hb
  clear hb hs
  go_enter Try.func15, Try.ntmps15
  go_wp2_with (first | (go_at_call 25; refine (has_t _ _ _ _ _ c0 (by omega) (by omega)).mono ?_; rintro e w' ⟨rfl, rfl⟩))
  go_ret2
  exact ⟨rfl, rfl⟩

set_option maxHeartbeats 400000 in
theorem durable_f (b gd n : Nat) (i : Int) (w : World) (h : i < 0 ∨ n ≤ i) (c0 : w.cell? ⟨b, 0, none⟩ = some (.slice (some ⟨gd, 0, none⟩) n n)) :
    Calls Try.prog 15 #[.pointer (some ⟨b, 0, none⟩), .int .i64 i] w fun e w' => e = .returned (.tuple #[.string ByteArray.empty, .bool false]) ∧ w = w' := by
  go_enter Try.func15, Try.ntmps15
  go_wp2_with (first | (go_at_call 25; refine (has_f _ _ _ _ _ c0 h).mono ?_; rintro e w' ⟨rfl, rfl⟩))
  go_ret2
  exact ⟨rfl, rfl⟩

set_option maxHeartbeats 400000 in
theorem cut_pos (b : Nat) (n lf : Nat) (w : World) (hn : 0 < n) (hn2 : n ≤ 1000000) (c19 : w.cell? ⟨b, 19, none⟩ = some (.int .i64 lf)) (f19 : w.frozen? ⟨b, 19, none⟩ = false) :
    Calls Try.prog 17 #[.pointer (some ⟨b, 0, none⟩), .int .i64 n] w fun e w' => e = .returned (.tuple #[]) ∧ w' = w.setCell ⟨b, 19, none⟩ (.int .i64 n) := by
  have h0 : ((n : Int) == 0) = false := by simp; omega
  go_enter Try.func17, Try.ntmps17
  go_wp2
  go_end0
  exact ⟨rfl, rfl⟩

set_option maxHeartbeats 400000 in
theorem cut_zero (b : Nat) (lf : Nat) (dn : Bool) (w : World) (c19 : w.cell? ⟨b, 19, none⟩ = some (.int .i64 lf)) (f19 : w.frozen? ⟨b, 19, none⟩ = false)
    (c20 : w.cell? ⟨b, 20, none⟩ = some (.bool dn)) (f20 : w.frozen? ⟨b, 20, none⟩ = false) :
    Calls Try.prog 17 #[.pointer (some ⟨b, 0, none⟩), .int .i64 0] w fun e w' => e = .returned (.tuple #[]) ∧ w' = (w.setCell ⟨b, 19, none⟩ (.int .i64 (0 : Nat))).setCell ⟨b, 20, none⟩ (.bool true) := by
  go_enter Try.func17, Try.ntmps17
  go_wp2
  go_end0
  exact ⟨rfl, rfl⟩

set_option maxHeartbeats 400000 in
theorem forget_t (b : Nat) (o : Nat) (v : Value) (w : World) (h : o < 17) (cV : w.cell? ⟨b, 1 + o, none⟩ = some v) (fV : w.frozen? ⟨b, 1 + o, none⟩ = false) :
    Calls Try.prog 21 #[.pointer (some ⟨b, 0, none⟩), .int .i64 o] w fun e w' => e = .returned (.tuple #[]) ∧ w' = w.setCell ⟨b, 1 + o, none⟩ (.slice none 0 0) := by
  go_enter Try.func21, Try.ntmps21
  go_wp2_with (first | (go_at_call 23; refine (isOwner_yes _ _ (by omega) (by omega)).mono ?_; rintro e w' ⟨rfl, rfl⟩))
  go_end0
  exact ⟨rfl, rfl⟩

set_option maxHeartbeats 400000 in
theorem countDown_zero (b : Nat) (w : World) (c19 : w.cell? ⟨b, 19, none⟩ = some (.int .i64 (0 : Nat))) :
    Calls Try.prog 27 #[.pointer (some ⟨b, 0, none⟩)] w fun e w' => e = .returned (.tuple #[]) ∧ w = w' := by
  go_enter Try.func27, Try.ntmps27
  go_wp2
  go_end0
  exact ⟨rfl, rfl⟩

set_option maxHeartbeats 400000 in
theorem countDown_pos (b : Nat) (lf : Nat) (dn : Bool) (w : World) (hl : lf < 9223372036854775807) (c19 : w.cell? ⟨b, 19, none⟩ = some (.int .i64 ((lf : Int) + 1))) (f19 : w.frozen? ⟨b, 19, none⟩ = false)
    (c20 : w.cell? ⟨b, 20, none⟩ = some (.bool dn)) (f20 : w.frozen? ⟨b, 20, none⟩ = false) :
    Calls Try.prog 27 #[.pointer (some ⟨b, 0, none⟩)] w fun e w' => e = .returned (.tuple #[]) ∧ w' = (w.setCell ⟨b, 19, none⟩ (.int .i64 lf)).setCell ⟨b, 20, none⟩ (.bool (lf == 0)) := by
  have e : (lf == 0) = ((lf : Int) == 0) := by rw [Bool.eq_iff_iff]; simp
  rw [e]
  clear e
  go_enter Try.func27, Try.ntmps27
  go_wp2
  go_end0
  exact ⟨rfl, rfl⟩

theorem Try.info5 : (Try.prog.info? 5).map (fun i => (i.zero, i.size, i.bytes)) = some (some (.int .u8 0), 1, 1) := by kernel_rfl

theorem make_bytes (n : Nat) (hn2 : n ≤ 16777216) (w : World) : (Instr.makeSlice 40 (.int .i64 n) (.int .i64 n)).run Try.prog w = .ok (.slice (some ⟨w.heap.size, 0, none⟩) n n) (w.alloc (.cells (zcells n) 5)) := by
  obtain ⟨i0, hi, hz0, hz1, hz2⟩ := info_parts Try.info5
  have := run_make (P := Try.prog) w 40 5 i0 (.int .u8 0) Try.underlying40 hi hz0 .i64 .i64 n n (by omega) (by omega) (by rw [hz2]; omega) (by omega)
  rw [this, hz1]
  have e : madeCells (Value.int .u8 0).cells ((n : Int).toNat * 1) = zcells n := by
    have := madeCells_zero 1 n (by omega)
    simp only [Int.toNat_natCast, Nat.mul_one]
    exact this
  rw [e]; simp

/-- So many bytes 0. -/
def zbytes (n : Nat) : ByteArray := ⟨(List.replicate n 0).toArray⟩
theorem zbytes_size (n : Nat) : (zbytes n).size = n := by simp [zbytes, ByteArray.size]

theorem conv_zeros (n g : Nat) (w : World) (h : w.heap[g]? = some (.cells (zcells n) 5 (0, 0))) :
    (convert 40 9 (.slice (some ⟨g, 0, none⟩) n n)).run Try.prog w = .ok (.string (zbytes n)) w := by
  have := Lib.run_convert_whole (P := Try.prog) w 40 5 9 Try.underlying40 Try.underlying5 Try.underlying9 g 0 (zbytes n) (fun j hj => by
    rw [cell_of_row w g _ _ 5 _ h]
    have hj' : j < n := by simpa [zbytes_size] using hj
    have e : (zbytes n)[j] = 0 := by
      show (List.replicate n (0 : UInt8)).toArray[j]'_ = 0
      simp
    rw [e]
    simp [zcells, hj']) n
  rw [zbytes_size] at this
  exact this

set_option maxHeartbeats 400000 in
theorem zero_t (w : World) :
    Calls Try.prog 20 #[] w fun e w' => e = .returned (.string (zbytes 256)) ∧ Below w.heap.size w w' := by
  have hmk : (Instr.makeSlice 40 (.int .i64 256) (.int .i64 256)).run Try.prog w = .ok (.slice (some ⟨w.heap.size, 0, none⟩) 256 256) (w.alloc (.cells (zcells 256) 5)) := make_bytes 256 (by omega) w
  have hcv := conv_zeros 256 w.heap.size (w.alloc (.cells (zcells 256) 5)) (heap_alloc_new _ _)
  generalize zbytes 256 = Z at *
  generalize zcells 256 = C at *
  go_enter Try.func20, Try.ntmps20
  go_wp2
  go_ret
  exact ⟨rfl, (Below.refl _ w).alloc (Nat.le_refl _) _⟩

/-- The cells of a new disk's head. -/
def newHead (g n : Nat) : Array Value := #[.slice (some ⟨g, 0, none⟩) n n, .slice none 0 0, .slice none 0 0, .slice none 0 0, .slice none 0 0, .slice none 0 0, .slice none 0 0, .slice none 0 0, .slice none 0 0,
  .slice none 0 0, .slice none 0 0, .slice none 0 0, .slice none 0 0, .slice none 0 0, .slice none 0 0, .slice none 0 0, .slice none 0 0, .slice none 0 0, .int .i64 0, .int .i64 0, .bool false]

set_option maxHeartbeats 400000 in
theorem new_t (n : Nat) (w : World) (hn : 1 ≤ n) (hn2 : n ≤ 16384) :
    Calls Try.prog 8 #[.int .i64 n] w fun e w' => e = .returned (.pointer (some ⟨w.heap.size + 1, 0, none⟩)) ∧ w' = (w.alloc (.cells (zcells (n * 256)) 55)).alloc (.cells (newHead w.heap.size n) 46) := by
  have hmk := make_sectors n hn2
  have hx : max (n : Int) 1 = n := by omega
  have hm : min (n : Int) 16384 = n := by omega
  go_enter Try.func8, Try.ntmps8
  go_wp2
  go_ret
  exact ⟨rfl, rfl⟩

set_option maxHeartbeats 400000 in
theorem new_small (n : Int) (w : World) (hn : n ≤ 0) :
    Calls Try.prog 8 #[.int .i64 n] w fun e w' => e = .returned (.pointer (some ⟨w.heap.size + 1, 0, none⟩)) ∧ w' = (w.alloc (.cells (zcells (1 * 256)) 55)).alloc (.cells (newHead w.heap.size 1) 46) := by
  have hmk : ∀ w, (Instr.makeSlice 42 (.int .i64 1) (.int .i64 1)).run Try.prog w = .ok (.slice (some ⟨w.heap.size, 0, none⟩) 1 1) (w.alloc (.cells (zcells (1 * 256)) 55)) := make_sectors 1 (by omega)
  have hx : max n 1 = 1 := by omega
  have hm : min (1 : Int) 16384 = 1 := by omega
  go_enter Try.func8, Try.ntmps8
  go_wp2
  go_ret
  exact ⟨rfl, rfl⟩

/-- Filled's byte at a place. -/
def fillB (v i : Nat) : Nat := (v + i * (1 + v % 5)) % 256
def fillN (m v : Nat) : ByteArray := ⟨((List.range m).map fun i => UInt8.ofNat (fillB v i)).toArray⟩
theorem fillN_size (m v : Nat) : (fillN m v).size = m := by simp [fillN, ByteArray.size]
theorem fillN_get (m v j : Nat) (h : j < (fillN m v).size) : (fillN m v)[j] = UInt8.ofNat (fillB v j) := by
  have e : (fillN m v)[j] = (fillN m v).data[j]'h := rfl
  rw [e]
  simp [fillN]
/-- Filled's text. -/
def Fill (v : Nat) : ByteArray := fillN 256 v
theorem Fill_size (v : Nat) : (Fill v).size = 256 := fillN_size 256 v

/-- Filled's row behind k rounds. -/
def fillRowN (m v k : Nat) : Array Value := ((List.range m).map fun j => Value.int .u8 (if j < k then (fillB v j : Int) else 0)).toArray

theorem fillRowN_zero (m v : Nat) : fillRowN m v 0 = zcells m := by
  simp only [fillRowN, zcells, Nat.not_lt_zero, if_false]
  congr 1
  rw [List.map_const']
  simp

theorem fillRowN_get (m v k j : Nat) (hj : j < m) : (fillRowN m v k)[j]? = some (.int .u8 (if j < k then (fillB v j : Int) else 0)) := by
  simp [fillRowN, List.getElem?_range hj]

theorem fillRowN_size (m v k : Nat) : (fillRowN m v k).size = m := by simp [fillRowN]

theorem fillRowN_set (m v k : Nat) (hk : k < m) : (fillRowN m v k).setIfInBounds k (.int .u8 (fillB v k)) = fillRowN m v (k + 1) := by
  apply Array.ext_getElem?
  intro j
  by_cases hj : j < m
  · by_cases e : k = j
    · subst e
      rw [Array.getElem?_setIfInBounds_self_of_lt (by rw [fillRowN_size]; exact hk), fillRowN_get m v _ _ hk]
      simp
    · rw [Array.getElem?_setIfInBounds_ne e, fillRowN_get m v _ _ hj, fillRowN_get m v _ _ hj]
      have : (j < k + 1) = (j < k) := by simp; omega
      simp [this]
  · rw [Array.getElem?_eq_none (by simp [fillRowN_size]; omega), Array.getElem?_eq_none (by simp [fillRowN_size]; omega)]

theorem conv_fillN (m v g : Nat) (w : World) (h : w.heap[g]? = some (.cells (fillRowN m v m) 5 (0, 0))) :
    (convert 40 9 (.slice (some ⟨g, 0, none⟩) m m)).run Try.prog w = .ok (.string (fillN m v)) w := by
  have := Lib.run_convert_whole (P := Try.prog) w 40 5 9 Try.underlying40 Try.underlying5 Try.underlying9 g 0 (fillN m v) (fun j hj => by
    rw [cell_of_row w g _ _ 5 _ h]
    have hj' : j < m := by simpa [fillN_size] using hj
    have hb : fillB v j < 256 := Nat.mod_lt _ (by omega)
    rw [fillN_get, Nat.zero_add, fillRowN_get m v _ _ hj', if_pos hj']
    simp [Nat.mod_eq_of_lt hb]) m
  rw [fillN_size] at this
  exact this

theorem fill_wrap (v k : Nat) (hv : v ≤ 100000) (hk : k < 256) : wrap64 ((v : Int) + wrap64 ((k : Int) * (1 + (v : Int) % 5))) % 256 = (fillB v k : Int) := by
  have h5 : v % 5 < 5 := Nat.mod_lt _ (by omega)
  have h1 : k * (1 + v % 5) ≤ 255 * 5 := Nat.mul_le_mul (by omega) (by omega)
  have e1 : (k : Int) * (1 + (v : Int) % 5) = ((k * (1 + v % 5) : Nat) : Int) := by push_cast; rfl
  rw [e1]
  unfold fillB
  generalize k * (1 + v % 5) = m at *
  have e2 : wrap64 (m : Int) = m := by unfold wrap64; omega
  rw [e2]
  have e3 : wrap64 ((v : Int) + m) = v + m := by unfold wrap64; omega
  rw [e3]
  omega

theorem hid {p : Prop} (h : p) : Hid p := h

set_option maxRecDepth 100000 in
set_option maxHeartbeats 400000 in
theorem filled_t (v : Nat) (w : World) (hv : v ≤ 100000) :
    Calls Try.prog 12 #[.int .i64 v] w fun e w' => e = .returned (.string (Fill v)) ∧ Below w.heap.size w w' := by
  have hmk : (Instr.makeSlice 40 (.int .i64 256) (.int .i64 256)).run Try.prog w = .ok (.slice (some ⟨w.heap.size, 0, none⟩) 256 256) (w.alloc (.cells (fillRowN 256 v 0) 5)) := by
    rw [fillRowN_zero]; exact make_bytes 256 (by omega) w
  have hcv : ∀ wr, Hid (wr.heap[w.heap.size]? = some (.cells (fillRowN 256 v 256) 5 (0, 0))) → (convert 40 9 (.slice (some ⟨w.heap.size, 0, none⟩) 256 256)).run Try.prog wr = .ok (.string (Fill v)) wr := fun wr h => conv_fillN 256 v w.heap.size wr h
  generalize Fill v = T at *
  obtain ⟨R, hR⟩ : ∃ R : Nat → Array Value, R = fillRowN 256 v := ⟨_, rfl⟩
  have hset : ∀ k, k < 256 → (R k).setIfInBounds k (.int .u8 (fillB v k)) = R (k + 1) := by subst hR; exact fillRowN_set 256 v
  have hget : ∀ k, k < 256 → (R k)[k]? = some (.int .u8 0) := by subst hR; intro k hk; rw [fillRowN_get 256 v k k hk]; simp
  rw [← hR] at hmk hcv
  clear hR
  have HS := hid hset
  have HG := hid hget
  clear hset hget
  go_enter Try.func12, Try.ntmps12
  go_wp2
  go_loopw [4] (fun i wr => ∃ k : Nat, k ≤ 256 ∧ i = .int .i64 k ∧ Hid (wr.heap[w.heap.size]? = some (.cells (R k) 5 (0, 0))) ∧ Below w.heap.size w wr) (fun i _ => 256 - (intOf i).toNat)
  case atStart => exact ⟨0, by omega, rfl, heap_alloc_new _ _, (Below.refl _ w).alloc (Nat.le_refl _) _⟩
  case round =>
    obtain ⟨k, hk, rfl, hg, hb⟩ := hrel
    by_cases hlt : k < 256
    · have hc : wr.cell? ⟨w.heap.size, k, none⟩ = some (.int .u8 0) := by rw [cell_of_row wr _ _ _ 5 _ hg.out]; exact HG.out k hlt
      have hf := frozen_of_row wr w.heap.size k _ 5 hg.out
      clear hcv hmk
      go_wp2
      rw [fill_wrap v k hv hlt]
      refine ⟨⟨k + 1, by omega, by go_num, ?_, hb.setCell (by simp) _⟩, by simp [intOf]; omega⟩
      show _ = _
      rw [heap_setCell_same wr w.heap.size k _ 5 _ hg.out, HS.out k hlt]
    · have e : k = 256 := by omega
      subst e
      have hcv' := hcv wr hg
      clear hcv hmk
      go_wp2
      go_ret
      exact ⟨rfl, hb⟩

end Go.Proofs.Ytodfecipeabmlaa
