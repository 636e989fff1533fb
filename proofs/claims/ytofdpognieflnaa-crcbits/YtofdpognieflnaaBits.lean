/- The law CrcBits walked. -/
import Derived.Test.YtofdpognieflnaaCode
import Derived.BigRegion
import Derived.Deep.QuietTactic
import Derived.BigQuiet
import Derived.Laws.BytesArg
import Derived.Below
namespace Go.Proofs.Ytofdpognieflnaa
open Go.RowKit

/-- A row of bytes that came in, cut at its length. -/
structure Bytes (w : World) (b off : Nat) (bs : List UInt8) : Prop where
  low : b < w.heap.size
  cell : ∀ t (h : t < bs.length), w.cell? ⟨b, off + t, none⟩ = some (.int .u8 (bs[t].toNat : Int))

def bcells (l : List UInt8) : List Value := l.map fun b => .int .u8 (b.toNat : Int)
theorem bcells_length (l : List UInt8) : (bcells l).length = l.length := by simp [bcells]

theorem crcBits_few (a : Option Addr) (len cap : Nat) (at' : Int) (row : Nat) (w : World) (h : len < 5 ∨ 2000 < len ∨ row = 0) (hc : len ≤ maxLen) :
    Calls Try.prog 4 #[.slice a len cap, .int .i64 at', .int .u32 row] w fun e w' => e = .returned (.bool true) ∧ w = w' := by
  unfold maxLen at hc
  by_cases h0 : len < 5
  · go_enter Try.func4, Try.ntmps4
    go_wp2_with fail
    refine (awake_t w).mono ?_
    rintro e w1 ⟨rfl, rfl⟩
    go_wp2
    go_ret
    exact ⟨rfl, rfl⟩
  · by_cases h1 : 2000 < len
    · go_enter Try.func4, Try.ntmps4
      go_wp2_with fail
      refine (awake_t w).mono ?_
      rintro e w1 ⟨rfl, rfl⟩
      go_wp2
      go_ret
      exact ⟨rfl, rfl⟩
    · have h2 : row = 0 := by omega
      subst h2
      go_enter Try.func4, Try.ntmps4
      go_wp2_with fail
      refine (awake_t w).mono ?_
      rintro e w1 ⟨rfl, rfl⟩
      go_wp2
      go_ret
      exact ⟨rfl, rfl⟩

theorem Try.info5 : (Try.prog.info? 5).map (fun i => (i.zero, i.size, i.bytes)) = some (some (.int .u8 0), 1, 1) := by kernel_rfl

/-- A row of the law's own, its first bytes T. -/
def Mine (w : World) (g cap : Nat) (T : List UInt8) : Prop :=
  ∃ cur, w.heap[g]? = some (.cells cur 5 (0, 0)) ∧ cur.size = cap ∧ T.length ≤ cap ∧ cur.toList.take T.length = bcells T

theorem bcells_get (T : List UInt8) (j : Nat) (hj : j < T.length) : (bcells T)[j]? = some (.int .u8 (T[j].toNat : Int)) := by
  simp [bcells, hj]

theorem mine_at {cur : Array Value} {T : List UInt8} (h : cur.toList.take T.length = bcells T) (j : Nat) (hj : j < T.length) : cur[j]? = some (.int .u8 (T[j].toNat : Int)) := by
  rw [← bcells_get T j hj, ← h, List.getElem?_take_of_lt hj, Array.getElem?_toList]

theorem Mine.cell {w : World} {g cap : Nat} {T : List UInt8} (h : Mine w g cap T) (j : Nat) (hj : j < T.length) : w.cell? ⟨g, j, none⟩ = some (.int .u8 (T[j].toNat : Int)) := by
  obtain ⟨cur, hg, _, _, ht⟩ := h
  rw [cell_of_row w g j cur 5 _ hg, mine_at ht j hj]

theorem Mine.frozen {w : World} {g cap : Nat} {T : List UInt8} (h : Mine w g cap T) (j : Nat) : w.frozen? ⟨g, j, none⟩ = false := by
  obtain ⟨cur, hg, _, _, _⟩ := h
  exact frozen_of_row w g j cur 5 hg

theorem Mine.set {w : World} {g cap : Nat} {T : List UInt8} (h : Mine w g cap T) (j : Nat) (hj : j < T.length) (x : UInt8) : Mine (w.setCell ⟨g, j, none⟩ (.int .u8 (x.toNat : Int))) g cap (T.set j x) := by
  obtain ⟨cur, hg, hs, hl, ht⟩ := h
  refine ⟨cur.setIfInBounds j (.int .u8 (x.toNat : Int)), heap_setCell_same w g j cur 5 _ hg, by simpa using hs, by simpa using hl, ?_⟩
  rw [List.length_set]
  apply List.ext_getElem?
  intro i
  by_cases hi : i < T.length
  · rw [List.getElem?_take_of_lt hi, Array.getElem?_toList, bcells_get _ i (by simpa using hi), List.getElem_set]
    by_cases e : j = i
    · subst e
      rw [if_pos rfl, Array.getElem?_setIfInBounds_self_of_lt (by omega)]
    · rw [if_neg e, Array.getElem?_setIfInBounds_ne e, mine_at ht i hi]
  · rw [List.getElem?_eq_none (by simp; omega), List.getElem?_eq_none (by simp [bcells]; omega)]

theorem str_of (l : List UInt8) : strOfNums (l.map fun b => (b.toNat : Int)) = ⟨l.toArray⟩ := by
  have e : ((fun n : Int => UInt8.ofNat n.toNat) ∘ fun b : UInt8 => (b.toNat : Int)) = id := by
    funext b
    simp
  apply ByteArray.ext
  simp [strOfNums, e]

theorem conv_row (w : World) (b off cap : Nat) (l : List UInt8) (h : ∀ t (h : t < l.length), w.cell? ⟨b, off + t, none⟩ = some (.int .u8 (l[t].toNat : Int))) :
    (convert 27 9 (.slice (some ⟨b, off, none⟩) l.length cap)).run Try.prog w = .ok (.string ⟨l.toArray⟩) w := by
  have := run_convert_bytes_arg (P := Try.prog) w 27 5 Try.underlying27 Try.underlying5 b off l.length cap (l.map fun b => (b.toNat : Int)) (by simp) (fun i hi => by
    rw [h i hi]
    simp [List.getD, hi]) 9 Try.underlying9
  rw [this, str_of]

theorem Mine.conv {w : World} {g cap : Nat} {T : List UInt8} (h : Mine w g cap T) : (convert 27 9 (.slice (some ⟨g, 0, none⟩) T.length cap)).run Try.prog w = .ok (.string ⟨T.toArray⟩) w :=
  conv_row w g 0 cap T fun t ht => by rw [Nat.zero_add]; exact h.cell t ht

/-- the bytes behind i turnings -/
def Tm (bs : List UInt8) (m X : Nat) : Nat → List UInt8
  | 0 => bs
  | i + 1 => (Tm bs m X i).set (m + i) ((Tm bs m X i).getD (m + i) 0 ^^^ UInt8.ofNat (X / 256 ^ i % 256))
theorem Tm_length (bs : List UInt8) (m X : Nat) : ∀ i, (Tm bs m X i).length = bs.length
  | 0 => rfl
  | i + 1 => by rw [Tm, List.length_set, Tm_length]

theorem turns {l : List UInt8} {m : Nat} (h : m + 5 ≤ l.length) (X : Nat) : ∃ p q r, l = p ++ q ++ r ∧ q.length = 5 ∧ Tm l m X 5 = p ++ Sum.xorL q (Sum.low 5 X) ++ r := by
  obtain ⟨p, hp⟩ : ∃ p, p = l.take m := ⟨_, rfl⟩
  obtain ⟨t, ht⟩ : ∃ t, t = l.drop m := ⟨_, rfl⟩
  have hl : l = p ++ t := by rw [hp, ht, List.take_append_drop]
  have hpl : p.length = m := by rw [hp, List.length_take]; omega
  have htl : 5 ≤ t.length := by rw [ht, List.length_drop]; omega
  clear hp ht
  subst hl hpl
  match t, htl with
  | a :: b :: c :: d :: e :: r, _ =>
    refine ⟨p, [a, b, c, d, e], r, by simp, rfl, ?_⟩
    simp [Tm, Sum.low, Sum.xorL, List.set_append_right, List.getD, Nat.div_div_eq_div_mul]

theorem Tm_succ (bs : List UInt8) (m X i : Nat) (h : m + i < (Tm bs m X i).length) : Tm bs m X (i + 1) = (Tm bs m X i).set (m + i) ((Tm bs m X i)[m + i] ^^^ UInt8.ofNat (X / 256 ^ i % 256)) := by
  rw [Tm, List.getD, List.getElem?_eq_getElem h]
  rfl

theorem xor_u8 (y : UInt8) (n : Nat) : bits .xor .u8 (y.toNat : Int) ((n % 256 : Nat) : Int) = ((y ^^^ UInt8.ofNat (n % 256)).toNat : Int) := by
  rw [u8_xor_nat _ _ (Sum.byte_lt y) (by omega), UInt8.toNat_xor, Sum.toNat_low]

theorem row_lt {row j : Nat} (hr : row < 4294967296) (hj : j < 8) : row * 2 ^ j < 1099511627776 := by
  have h1 : (2 : Nat) ^ j ≤ 2 ^ 7 := Nat.pow_le_pow_right (by decide) (by omega)
  have h2 : row * 2 ^ j ≤ 4294967295 * 2 ^ 7 := Nat.mul_le_mul (by omega) h1
  omega
theorem shl_row {row j : Nat} (hr : row < 4294967296) (hj : j < 8) : IntKind.u64.wrap ((row : Int) * 2 ^ j) = ((row * 2 ^ j : Nat) : Int) := by
  have h := row_lt hr hj
  have e : (row : Int) * 2 ^ j = ((row * 2 ^ j : Nat) : Int) := by push_cast; rfl
  rw [e, IntKind.wrap_u64]
  omega
theorem turns_ne {l : List UInt8} {m : Nat} (h : m + 5 ≤ l.length) {row j : Nat} (h0 : row ≠ 0) (hr : row < 4294967296) (hj : j < 8) : Sum.crc l ≠ Sum.crc (Tm l m (row * 2 ^ j) 5) := by
  obtain ⟨p, q, r, hl, hq, ht⟩ := turns h (row * 2 ^ j)
  rw [ht, hl]
  exact Sum.turned hq h0 hr hj

set_option maxHeartbeats 2000000 in
theorem crcBits_t (b off : Nat) (bs : List UInt8) (cap : Nat) (at' : Int) (row : Nat) (w : World) (hb : Bytes w b off bs) (h5 : 5 ≤ bs.length) (h2000 : bs.length ≤ 2000) (hr0 : 0 < row) (hr : row < 4294967296) :
    Calls Try.prog 4 #[.slice (some ⟨b, off, none⟩) bs.length cap, .int .i64 at', .int .u32 row] w fun e w' => e = .returned (.bool true) ∧ Below w.heap.size w w' := by
  obtain ⟨i0, hi0, hz0, hz1, hz2⟩ := info_parts Try.info5
  have g1 : decide ((bs.length : Int) < 5) = false := by simp; omega
  have g2 : decide (2000 < (bs.length : Int)) = false := by simp; omega
  have g3 : ((row : Int) == 0) = false := by simp; omega
  have HB := hid hb
  clear hb
  go_enter Try.func4, Try.ntmps4
  go_wp2_with (first | (refine wpList_append_own _ rfl _ _ 27 rfl w.heap.size 5 i0 _ 1 1 Try.underlying27 hi0 hz0 hz1 hz2 rfl (by decide) (.slice none 0 0) 0 [] rfl ⟨rfl, .inl ⟨rfl, rfl⟩⟩ ⟨b, off, none⟩ bs.length cap (bcells bs) rfl (by rw [bcells_length]; omega) ?_ ?_ (by unfold maxLen; omega) (by omega) (Nat.le_refl _) ?_) | fail)
  · intro j u hj
    have hjl : j < bs.length := by
      rcases Nat.lt_or_ge j bs.length with h | h
      · exact h
      · rw [List.getElem?_eq_none (by rw [bcells_length]; exact h)] at hj; cases hj
    rw [bcells_get bs j hjl] at hj
    have hplain : (⟨b, off, none⟩ : Addr).add j = ⟨b, off + j, none⟩ := by unfold Addr.add; split <;> simp_all
    rw [← hj, hplain]
    exact HB.out.cell j hjl
  · intro u hu
    simp only [bcells, List.mem_map] at hu
    obtain ⟨x, _, rfl⟩ := hu
    rfl
  intro v1 w1 hown hgr hnil
  obtain ⟨_, ⟨_, hn⟩ | ⟨g, c2, cur, rfl, hge, hheap, hle, hmax, hsz, htake⟩⟩ := hown
  · omega
  have bel : Below w.heap.size w w1 := (Below.refl _ w).grown hgr (Nat.le_refl _) (fun k hk => by cases hk)
  have M : Hid (Mine w1 g c2 bs) := ⟨cur, hheap, by omega, hle, by rw [← htake, Nat.mul_one]⟩
  have BL := hid bel
  have HC : Hid (∀ wr, Below w.heap.size w wr → (convert 27 9 (.slice (some ⟨b, off, none⟩) bs.length cap)).run Try.prog wr = .ok (.string ⟨bs.toArray⟩) wr) :=
    fun wr hw => conv_row wr b off cap bs fun t ht => by rw [hw.cell (by exact HB.out.low)]; exact HB.out.cell t ht
  clear hgr hnil hheap hsz htake bel HB hi0 hz0 hz1 hz2
  go_wp2_with fail
  refine (place_any at' (8 * bs.length - 39) w1 (by omega) (by omega)).mono ?_
  rintro e w2 ⟨⟨k, rfl, hk⟩, rfl⟩
  have EX := shl_row hr (Nat.mod_lt k (by decide : 0 < 8))
  have LX := row_lt hr (Nat.mod_lt k (by decide : 0 < 8))
  have TN := hid (fun m (h : m + 5 ≤ bs.length) => turns_ne h (show row ≠ 0 by omega) hr (Nat.mod_lt k (by decide : 0 < 8)))
  generalize row * 2 ^ (k % 8) = X at *
  go_wp2_with fail
  rw [EX]
  clear EX
  go_loopw [10] (fun c wr => ∃ i : Nat, i ≤ 5 ∧ c = .int .i64 i ∧ Hid (Mine wr g c2 (Tm bs (k / 8) X i)) ∧ Hid (Below w.heap.size w wr)) (fun c _ => 5 - (intOf c).toNat)
  case atStart => exact ⟨0, by omega, rfl, M, BL⟩
  case round =>
    obtain ⟨i, hi, rfl, hM, hB⟩ := hrel
    by_cases hlt : i < 5
    · have hTl := Tm_length bs (k / 8) X i
      have hj : k / 8 + i < (Tm bs (k / 8) X i).length := by omega
      have hcell := hM.out.cell (k / 8 + i) hj
      have hfr := hM.out.frozen (k / 8 + i)
      have hset := hid (hM.out.set (k / 8 + i) hj)
      have hdef := hid (Tm_succ bs (k / 8) X i hj)
      generalize (Tm bs (k / 8) X i)[k / 8 + i] = y at *
      have hi5 : i = 0 ∨ i = 1 ∨ i = 2 ∨ i = 3 ∨ i = 4 := by omega
      clear hTl hj hM
      rcases hi5 with rfl | rfl | rfl | rfl | rfl
      · have ev : Hid (bits .xor .u8 (y.toNat : Int) (((X : Nat) : Int) % 256) = ((y ^^^ UInt8.ofNat (X / 256 ^ 0 % 256)).toNat : Int)) := by
          show _ = _
          rw [← xor_u8, show (((X : Nat) : Int) % 256 : Int) = ((X / 256 ^ 0 % 256 : Nat) : Int) by omega]
        rw [Nat.add_zero] at hcell hfr
        go_wp2_with fail
        rw [ev.out]
        refine ⟨⟨1, by omega, rfl, ?_, (hB.out.setCell (by simpa using hge) _)⟩, by simp [intOf]⟩
        show Mine _ _ _ _
        rw [hdef.out]
        exact hset.out _
      · have ev : Hid (bits .xor .u8 (y.toNat : Int) (((X : Nat) : Int) / 256 % 256) = ((y ^^^ UInt8.ofNat (X / 256 ^ 1 % 256)).toNat : Int)) := by
          show _ = _
          rw [← xor_u8, show (((X : Nat) : Int) / 256 % 256 : Int) = ((X / 256 ^ 1 % 256 : Nat) : Int) by omega]
        go_wp2_with fail
        rw [ev.out]
        refine ⟨⟨2, by omega, rfl, ?_, (hB.out.setCell (by simpa using hge) _)⟩, by simp [intOf]⟩
        show Mine _ _ _ _
        rw [hdef.out]
        exact hset.out _
      · have ev : Hid (bits .xor .u8 (y.toNat : Int) (((X : Nat) : Int) / 65536 % 256) = ((y ^^^ UInt8.ofNat (X / 256 ^ 2 % 256)).toNat : Int)) := by
          show _ = _
          rw [← xor_u8, show (((X : Nat) : Int) / 65536 % 256 : Int) = ((X / 256 ^ 2 % 256 : Nat) : Int) by omega]
        go_wp2_with fail
        rw [ev.out]
        refine ⟨⟨3, by omega, rfl, ?_, (hB.out.setCell (by simpa using hge) _)⟩, by simp [intOf]⟩
        show Mine _ _ _ _
        rw [hdef.out]
        exact hset.out _
      · have ev : Hid (bits .xor .u8 (y.toNat : Int) (((X : Nat) : Int) / 16777216 % 256) = ((y ^^^ UInt8.ofNat (X / 256 ^ 3 % 256)).toNat : Int)) := by
          show _ = _
          rw [← xor_u8, show (((X : Nat) : Int) / 16777216 % 256 : Int) = ((X / 256 ^ 3 % 256 : Nat) : Int) by omega]
        go_wp2_with fail
        rw [ev.out]
        refine ⟨⟨4, by omega, rfl, ?_, (hB.out.setCell (by simpa using hge) _)⟩, by simp [intOf]⟩
        show Mine _ _ _ _
        rw [hdef.out]
        exact hset.out _
      · have ev : Hid (bits .xor .u8 (y.toNat : Int) (((X : Nat) : Int) / 4294967296) = ((y ^^^ UInt8.ofNat (X / 256 ^ 4 % 256)).toNat : Int)) := by
          show _ = _
          rw [← xor_u8, show (((X : Nat) : Int) / 4294967296 : Int) = ((X / 256 ^ 4 % 256 : Nat) : Int) by omega]
        go_wp2_with fail
        rw [ev.out]
        refine ⟨⟨5, by omega, rfl, ?_, (hB.out.setCell (by simpa using hge) _)⟩, by simp [intOf]⟩
        show Mine _ _ _ _
        rw [hdef.out]
        exact hset.out _
    · have e5 : i = 5 := by omega
      subst e5
      have hne := TN.out (k / 8) (by omega)
      have hcx : (((Sum.crc bs : Nat) : Int) == ((Sum.crc (Tm bs (k / 8) X 5) : Nat) : Int)) = false := by
        rw [beq_eq_false_iff_ne]
        intro e
        exact hne (by omega)
      have hcy : (((Sum.crc bs : Nat) : Int) != ((Sum.crc (Tm bs (k / 8) X 5) : Nat) : Int)) = true := by
        rw [bne, hcx]; rfl
      have C1 : ∀ n, (convert 27 9 (.slice (some ⟨b, off, none⟩) bs.length cap)).run Try.prog (wr.drewN n) = .ok (.string ⟨bs.toArray⟩) (wr.drewN n) := fun n => HC.out _ ⟨hB.out.os, hB.out.tape, hB.out.output, hB.out.size, hB.out.block⟩
      have C2 : ∀ n, (convert 27 9 (.slice (some ⟨g, 0, none⟩) bs.length c2)).run Try.prog (wr.drewN n) = .ok (.string ⟨(Tm bs (k / 8) X 5).toArray⟩) (wr.drewN n) := fun n => by
        have h : Mine (wr.drewN n) g c2 (Tm bs (k / 8) X 5) := hM.out
        have := h.conv
        rw [Tm_length] at this
        exact this
      have hTl := Tm_length bs (k / 8) X 5
      have O1 : Hid (∀ v, Calls Try.prog 8 #[.string ⟨bs.toArray⟩] v fun e w' => e = .returned (.int .u32 (Sum.crc bs : Nat)) ∧ v = w') := fun v => of_t ⟨bs.toArray⟩ v (by show bs.length ≤ _; omega)
      have O2 : Hid (∀ v, Calls Try.prog 8 #[.string ⟨(Tm bs (k / 8) X 5).toArray⟩] v fun e w' => e = .returned (.int .u32 (Sum.crc (Tm bs (k / 8) X 5) : Nat)) ∧ v = w') := fun v => of_t ⟨(Tm bs (k / 8) X 5).toArray⟩ v (by show (Tm bs (k / 8) X 5).length ≤ _; omega)
      generalize Sum.crc bs = cx at *
      generalize Sum.crc (Tm bs (k / 8) X 5) = cy at *
      generalize (⟨bs.toArray⟩ : ByteArray) = sx at *
      generalize (⟨(Tm bs (k / 8) X 5).toArray⟩ : ByteArray) = sy at *
      clear hTl hne hM HC M TN
      go_wp2_with fail
      go_quiet (first
        | (refine Calls.quiet_of_same ((O1.out _).mono fun _ _ h => ⟨h.1, h.2.symm⟩))
        | (refine Calls.quiet_of_same ((O2.out _).mono fun _ _ h => ⟨h.1, h.2.symm⟩))
        | (refine Calls.quiet_of_same ((awake_t _).mono fun _ _ h => ⟨h.1, h.2.symm⟩)))
      go_wp2_with fail
      go_ret
      exact ⟨rfl, hB.out.os, hB.out.tape, hB.out.output, hB.out.size, hB.out.block⟩
end Go.Proofs.Ytofdpognieflnaa
