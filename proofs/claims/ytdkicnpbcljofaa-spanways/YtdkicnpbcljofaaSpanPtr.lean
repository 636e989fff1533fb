/- The program's Pointers and Bytes walked. -/
import Derived.Test.YtdkicnpbcljofaaSpanWay
import Derived.Test.YtdkicnpbcljofaaBytZeros
import Derived.BigRegion
namespace Go.Proofs.Ytdkicnpbcljofaa
open Go.RowKit Span

/-- A pointer of a block; all of them. -/
def ptrAt (s : ByteArray) (k : Nat) : Nat := Bin.num (part s (2 * k) 2)
theorem ptrAt_eq (s : ByteArray) (k : Nat) (h : 2 * k + 1 < s.size) : ptrAt s k = s[2 * k].toNat + 256 * s[2 * k + 1].toNat := by
  unfold ptrAt
  have e1 := part_succ s (2 * k) 1 (by omega)
  have e0 := part_succ s (2 * k) 0 (by omega)
  rw [e1, e0, part_zero]
  simp [Bin.num]
theorem ptrAt_lt (s : ByteArray) (k : Nat) (h : 2 * k + 1 < s.size) : ptrAt s k < 65536 := by
  rw [ptrAt_eq s k h]
  have h1 := Bin.byte_lt s[2 * k]
  have h2 := Bin.byte_lt s[2 * k + 1]
  omega
def ptrsL (s : ByteArray) : List Int := (List.range 64).map fun k => (ptrAt s k : Int)
theorem ptrsL_length (s : ByteArray) : (ptrsL s).length = 64 := by simp [ptrsL]
theorem ptrsL_get (s : ByteArray) (k : Nat) (h : k < (ptrsL s).length) : (ptrsL s)[k] = (ptrAt s k : Int) := by simp [ptrsL]
/-- The numbers of a text. -/
def ptrsOf (s : ByteArray) : List Int := if s.size = 256 then ptrsL s else []
theorem ptrsOf_length (s : ByteArray) : (ptrsOf s).length ≤ 64 := by
  unfold ptrsOf
  split
  · rw [ptrsL_length]; omega
  · simp
/-- The row behind k rounds. -/
def pRow (s : ByteArray) (k : Nat) : Array Value := ((List.range 64).map fun j => Value.int .i64 (if j < k then (ptrAt s j : Int) else 0)).toArray
theorem pRow_size (s : ByteArray) (k : Nat) : (pRow s k).size = 64 := by simp [pRow]
theorem pRow_get (s : ByteArray) (k j : Nat) (hj : j < 64) : (pRow s k)[j]? = some (.int .i64 (if j < k then (ptrAt s j : Int) else 0)) := by
  simp [pRow, hj]
theorem pRow_set (s : ByteArray) (k : Nat) (hk : k < 64) : (pRow s k).setIfInBounds k (.int .i64 (ptrAt s k)) = pRow s (k + 1) := by
  apply Array.ext_getElem?
  intro j
  by_cases hj : j < 64
  · by_cases e : k = j
    · subst e
      rw [Array.getElem?_setIfInBounds_self_of_lt (by rw [pRow_size]; exact hk), pRow_get s _ _ hk, if_pos (by omega)]
    · rw [Array.getElem?_setIfInBounds_ne e, pRow_get s _ _ hj, pRow_get s _ _ hj]
      have : (j < k + 1) = (j < k) := by simp; omega
      simp only [this]
  · rw [Array.getElem?_eq_none (by simp [pRow_size]; omega), Array.getElem?_eq_none (by simp [pRow_size]; omega)]
theorem pmake (s : ByteArray) (w : World) : (Instr.makeSlice 22 (.int .i64 64) (.int .i64 64)).run Try.prog w = .ok (.slice (some ⟨w.heap.size, 0, none⟩) 64 64) (w.alloc (.cells (pRow s 0) 3)) := by
  obtain ⟨i0, hi, hz0, hz1, hz2⟩ := info_parts Try.sinfo3
  have := run_make (P := Try.prog) w 22 3 i0 (.int .i64 0) Try.underlying22 hi hz0 .i64 .i64 64 64 (by omega) (by omega) (by rw [hz2]; omega) (by omega)
  rw [this, hz1]
  have e : madeCells (Value.int .i64 0).cells ((64 : Int).toNat * 1) = pRow s 0 := by
    apply Array.ext_getElem?
    intro j
    by_cases hj : j < 64
    · rw [pRow_get s 0 j hj]
      simp [madeCells, Value.cells, hj, Nat.mod_one]
    · rw [Array.getElem?_eq_none (by simp [madeCells]; omega), Array.getElem?_eq_none (by rw [pRow_size]; omega)]
  rw [e]; simp

theorem small_wrap2 (n : Nat) (h : n < 4611686018427387904) : IntKind.i64.wrap (n : Int) = (n : Int) := by
  have e : (n : Int) % 2 ^ 64 = n := by omega
  unfold IntKind.wrap
  simp only [IntKind.bits, IntKind.signed, e]
  split
  · next h1 =>
    simp at h1
    omega
  · rfl
theorem or_join2 (v b : Nat) (hv : v < 256) (hb : b < 256) : bits .or .i64 (b : Int) ((v : Int) * 256) = ((b + 256 * v : Nat) : Int) := by
  have e : (v : Int) * 256 = ((v * 256 : Nat) : Int) := by omega
  rw [e]
  show IntKind.i64.wrap ((BitVec.ofInt 64 ((b : Nat) : Int) ||| BitVec.ofInt 64 ((v * 256 : Nat) : Int)).toNat : Int) = _
  rw [BitVec.toNat_or, ofInt_u64 _ (by omega), ofInt_u64 _ (by omega), Nat.or_comm, nat_join8 _ _ (by omega) hb, small_wrap2 _ (by omega)]
  omega

set_option maxRecDepth 10000 in
set_option maxHeartbeats 2000000 in
theorem pointers_t (s : ByteArray) (w : World) (_hs : s.size ≤ 9223372036854775807) :
    Calls Try.prog 15 #[.string s] w fun e w' => (∃ v, e = .returned v ∧ Ints w' v (ptrsOf s)) ∧ Below w.heap.size w w' := by
  by_cases h : s.size = 256
  · have hmk := pmake s w
    have HE : Hid (ptrsOf s = ptrsL s) := if_pos h
    have HS : Hid (∀ k, k < 64 → (pRow s k).setIfInBounds k (.int .i64 (ptrAt s k)) = pRow s (k + 1)) := pRow_set s
    have HG : Hid (∀ k j, j < 64 → (pRow s k)[j]? = some (.int .i64 (if j < k then (ptrAt s j : Int) else 0))) := fun k j hj => pRow_get s k j hj
    generalize pRow s = R at *
    go_enter Try.func15, Try.ntmps15
    go_wp2
    generalize hW : World.alloc w _ = W
    have HR : Hid (W.heap[w.heap.size]? = some (.cells (R 0) 3 (0, 0))) := by rw [← hW]; exact heap_alloc_new _ _
    have HB : Hid (Below w.heap.size w W) := by rw [← hW]; exact (Below.refl _ w).alloc (Nat.le_refl _) _
    clear hW hmk
    go_loopw [12] (fun c wr => ∃ k : Nat, k ≤ 64 ∧ c = .int .i64 k ∧ Hid (wr.heap[w.heap.size]? = some (.cells (R k) 3 (0, 0))) ∧ Hid (Below w.heap.size w wr)) (fun c _ => 64 - (intOf c).toNat)
    case atStart => exact ⟨0, by omega, rfl, HR, HB⟩
    case round =>
      obtain ⟨k, hk, rfl, HR, HB⟩ := hrel
      by_cases hlt : k < 64
      · obtain ⟨q, hq⟩ : ∃ q : Nat, q = 2 * k := ⟨_, rfl⟩
        have hs0 : q < s.size := by omega
        have hs1 : q + 1 < s.size := by omega
        have hq2 : (k : Int) * 2 = (q : Int) := by omega
        have B0 := Bin.byte_lt s[q]
        have B1 := Bin.byte_lt s[q + 1]
        have HP : Hid (ptrAt s k = s[q].toNat + 256 * s[q + 1].toNat) := by
          subst hq
          exact ptrAt_eq s k hs1
        have HS2 := spanhid (HS.out k hlt)
        have hor := or_join2 s[q + 1].toNat s[q].toNat B1 B0
        rw [← HP.out] at hor
        have c0 : wr.cell? ⟨w.heap.size, k, none⟩ = some (.int .i64 (if k < k then (ptrAt s k : Int) else 0)) := by rw [cell_of_row wr _ _ _ _ _ HR.out]; exact HG.out k k hlt
        have f0 := frozen_of_row wr w.heap.size k _ _ HR.out
        have hq3 : (q : Int) < 256 := by omega
        have hq4 : (q : Int) + 1 < 256 := by omega
        have hq6 : 0 ≤ (q : Int) + 1 := by omega
        have hq5 : IntKind.i64.wrap ((q : Int) + 1) = ((q + 1 : Nat) : Int) := by rw [show (q : Int) + 1 = ((q + 1 : Nat) : Int) by omega]; exact small_wrap2 _ (by omega)
        clear hq HS HG
        go_wp2_with fail
        go_region
        go_wp2_with fail
        refine ⟨⟨k + 1, by omega, by go_num, ?_, ?_⟩, by simp [intOf]; omega⟩
        · show _ = _
          rw [← HS2.out]
          exact heap_setCell_same wr _ _ _ _ _ HR.out
        · have hb := HB.out.setCell (p := ⟨w.heap.size, k, none⟩) (Nat.le_refl _) (.int .i64 (ptrAt s k))
          exact ⟨hb.os, hb.tape, hb.output, hb.size, hb.block⟩
      · have hk2 : k = 64 := by omega
        subst hk2
        have HI : Hid (Ints wr (.slice (some ⟨w.heap.size, 0, none⟩) 64 64) (ptrsL s)) := by
          refine ⟨some ⟨w.heap.size, 0, none⟩, 64, by rw [ptrsL_length], (fun h => by cases h), by rw [ptrsL_length]; omega, fun _ => ⟨w.heap.size, 0, rfl, (Array.getElem?_eq_some_iff.1 HR.out).1, fun i hi => ?_⟩⟩
          have hi2 : i < 64 := by rw [ptrsL_length] at hi; exact hi
          rw [cell_of_row wr _ _ _ _ _ HR.out, Nat.zero_add, HG.out 64 i hi2, if_pos hi2, ptrsL_get]
        go_wp2_with fail
        go_ret
        exact ⟨⟨_, rfl, by rw [HE.out]; exact HI.out⟩, HB.out⟩
  · have HE : Hid (ptrsOf s = []) := if_neg h
    have h1 : ((s.size : Int) != 256) = true := by rw [bne_iff_ne]; omega
    go_enter Try.func15, Try.ntmps15
    go_wp2
    go_ret
    exact ⟨⟨_, rfl, by rw [HE.out]; exact Ints.nil _⟩, Below.refl _ _⟩

theorem span_conv (l : List Int) (g k : Nat) (hk : k = 64 ∨ l.length ≤ k) (w : World) (h : w.heap[g]? = some (.cells (bRow l k) 40 (0, 0))) :
    (convert 41 9 (.slice (some ⟨g, 0, none⟩) 256 256)).run Try.prog w = .ok (.string (bytesS l)) w := by
  have := bin_conv w g 0 256 (bytesL l) (fun t ht => by
    have ht' : t < 256 := by rw [bytesL_length] at ht; exact ht
    rw [cell_of_row w g _ _ _ _ h, Nat.zero_add, bRow_end l k hk t ht', bytesL_get])
  rw [bytesL_length] at this
  exact this

theorem zero256 (w : World) : (zeroValue 40).run Try.prog w = .ok (.agg (zrow 256)) w := by kernel_rfl

set_option maxRecDepth 100000 in
set_option maxHeartbeats 4000000 in
theorem bytes_t (v : Value) (l : List Int) (w : World) (hI : Ints w v l) (hl : l.length ≤ 4611686018427387904) :
    Calls Try.prog 17 #[v] w fun e w' => e = .returned (.string (bytesS l)) ∧ Below w.heap.size w w' := by
  obtain ⟨ad, cap, rfl, hn, hlc, hc⟩ := hI
  have HC := spanhid hc
  obtain ⟨m, hm⟩ : ∃ m : Nat, m = min l.length 64 := ⟨_, rfl⟩
  have hm1 : min (l.length : Int) 64 = (m : Int) := by omega
  have hm2 : m ≤ 64 := by omega
  have hm3 : m ≤ l.length := by omega
  have hm4 : m ≤ cap := by omega
  have HM : Hid (m = 64 ∨ l.length ≤ m) := by show _ ∨ _; omega
  have HZ : Hid (bRow l 0 = zrow 256) := by
    show _ = _
    apply Array.ext_getElem?
    intro j
    by_cases hj : j < 256
    · rw [bRow_get l 0 j hj, zrow_get 256 j hj, if_neg (by omega)]
    · rw [Array.getElem?_eq_none (by rw [bRow_size]; omega), Array.getElem?_eq_none (by rw [zrow_size]; omega)]
  have HG : Hid (∀ k j, j < 256 → (bRow l k)[j]? = some (.int .u8 (if j < 2 * k then byteAt l j else 0))) := fun k j hj => bRow_get l k j hj
  have HS : Hid (∀ k, k < 64 → ((bRow l k).setIfInBounds (2 * k) (.int .u8 (l.getD k 0 % 256))).setIfInBounds (2 * k + 1) (.int .u8 (l.getD k 0 / 256 % 256)) = bRow l (k + 1)) := bRow_set l
  have HV : Hid (∀ k (_ : k = 64 ∨ l.length ≤ k) (w1 : World), w1.heap[w.heap.size]? = some (.cells (bRow l k) 40 (0, 0)) → (convert 41 9 (.slice (some ⟨w.heap.size, 0, none⟩) 256 256)).run Try.prog w1 = .ok (.string (bytesS l)) w1) := fun k hk w1 h => span_conv l _ k hk w1 h
  clear hc hm
  have hzv := zero256 w
  rw [← HZ.out] at hzv
  clear HZ
  generalize bRow l = R at *
  generalize bytesS l = T at *
  go_enter Try.func17, Try.ntmps17
  go_wp2_with fail
  generalize hW : World.alloc w _ = W
  have HR : Hid (W.heap[w.heap.size]? = some (.cells (R 0) 40 (0, 0))) := by rw [← hW]; exact heap_alloc_new _ _
  have HB : Hid (Below w.heap.size w W) := by rw [← hW]; exact (Below.refl _ w).alloc (Nat.le_refl _) _
  clear hW hzv
  go_loopw [13] (fun c wr => ∃ k : Nat, k ≤ m ∧ c = .int .i64 k ∧ Hid (wr.heap[w.heap.size]? = some (.cells (R k) 40 (0, 0))) ∧ Hid (Below w.heap.size w wr)) (fun c _ => m - (intOf c).toNat)
  case atStart => exact ⟨0, by omega, rfl, HR, HB⟩
  case round =>
    obtain ⟨k, hk, rfl, HR, HB⟩ := hrel
    by_cases hlt : k < m
    · obtain ⟨b, off, rfl, hb, hcell⟩ := HC.out (by omega)
      have hkl : k < l.length := by omega
      have c0 : wr.cell? ⟨b, off + k, none⟩ = some (.int .i64 (l.getD k 0)) := by rw [HB.out.cell hb, hcell k hkl, List.getD_eq_getElem?_getD, List.getElem?_eq_getElem hkl]; rfl
      have HS2 := spanhid (HS.out k (by omega))
      obtain ⟨q, hq⟩ : ∃ q : Nat, q = 2 * k := ⟨_, rfl⟩
      rw [← hq] at HS2
      have hq2 : (k : Int) * 2 = (q : Int) := by omega
      have hq3 : q < 256 := by omega
      have hq4 : q + 1 < 256 := by omega
      have r0 : wr.cell? ⟨w.heap.size, q, none⟩ = some (.int .u8 (if q < 2 * k then byteAt l q else 0)) := by rw [cell_of_row wr _ _ _ _ _ HR.out]; exact HG.out k q hq3
      have r1 : wr.cell? ⟨w.heap.size, q + 1, none⟩ = some (.int .u8 (if q + 1 < 2 * k then byteAt l (q + 1) else 0)) := by rw [cell_of_row wr _ _ _ _ _ HR.out]; exact HG.out k (q + 1) hq4
      have f0 := frozen_of_row wr w.heap.size q _ _ HR.out
      have f1 := frozen_of_row wr w.heap.size (q + 1) _ _ HR.out
      clear hcell HC HS HG HV hq
      generalize l.getD k 0 = x at *
      go_wp2_with fail
      refine ⟨⟨k + 1, by omega, by go_num, ?_, ?_⟩, by simp [intOf]; omega⟩
      · show _ = _
        rw [← HS2.out]
        exact heap_setCell_same _ _ _ _ _ _ (heap_setCell_same wr _ _ _ _ _ HR.out)
      · exact (HB.out.setCell (p := ⟨w.heap.size, q, none⟩) (Nat.le_refl _) _).setCell (p := ⟨w.heap.size, q + 1, none⟩) (Nat.le_refl _) _
    · have hkm : k = m := by omega
      subst hkm
      have hcv := HV.out k HM.out wr HR.out
      clear HV HG HS HC
      go_wp2_with fail
      go_ret
      exact ⟨rfl, HB.out⟩
end Go.Proofs.Ytdkicnpbcljofaa
