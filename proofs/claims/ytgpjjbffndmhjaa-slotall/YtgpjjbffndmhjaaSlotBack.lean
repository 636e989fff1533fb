/- SlotBack walked: what is put is got; with a bit turned, cut, longer it is none. -/
import Derived.Test.YtgpjjbffndmhjaaSlotSame
import Derived.Laws.IdiomStrings
import Derived.BigRegion
namespace Go.Proofs.Ytgpjjbffndmhjaa
open Go.RowKit Rec Slt

theorem bytesRow_get (S : ByteArray) (gc j : Nat) (hj : j < S.data.toList.length) : (bytesRow S gc)[j]? = some (.int .u8 (S.data.toList[j].toNat : Int)) := by
  have h : j < S.data.size := by simpa using hj
  unfold bytesRow
  rw [Array.getElem?_append_left (by simpa using h)]
  simp [Array.getElem?_eq_getElem h]
theorem brow_cell {D : World} {g gc : Nat} {S : ByteArray} {fr : Nat × Nat} (h : D.heap[g]? = some (.cells (bytesRow S gc) 5 fr)) (j : Nat) (hj : j < S.data.toList.length) : D.cell? ⟨g, j, none⟩ = some (.int .u8 (S.data.toList[j].toNat : Int)) := by
  rw [← bytesRow_get S gc j hj]
  simp [World.cell?, h]
theorem bytesRow_size (S : ByteArray) (gc : Nat) : S.size ≤ (bytesRow S gc).size := by
  simp [bytesRow]
theorem brow_frozen {D : World} {g gc : Nat} {S : ByteArray} (h : D.heap[g]? = some (.cells (bytesRow S gc) 5 ((bytesRow S gc).size, (bytesRow S gc).size + 1))) (j : Nat) (hj : j < S.size) : D.frozen? ⟨g, j, none⟩ = false := by
  have := bytesRow_size S gc
  simp [World.frozen?, h]
  omega

theorem turn_bit (x : UInt8) (r : Nat) : bits .xor .u8 (x.toNat : Int) ((2 : Int) ^ r % 256) = ((x ^^^ UInt8.ofNat (2 ^ r % 256)).toNat : Int) := by
  have e : ((2 : Int) ^ r % 256) = ((2 ^ r % 256 : Nat) : Int) := by simp
  rw [e, u8_xor_nat _ _ (Sum.byte_lt x) (Nat.mod_lt _ (by decide)), UInt8.toNat_xor, Sum.toNat_low]
theorem turn_other (x : UInt8) (r : Nat) (hr : r < 8) : x ^^^ UInt8.ofNat (2 ^ r % 256) ≠ x := by
  intro h
  have h2 : x ^^^ (x ^^^ UInt8.ofNat (2 ^ r % 256)) = x ^^^ x := by rw [h]
  rw [← UInt8.xor_assoc, UInt8.xor_self, UInt8.zero_xor] at h2
  have hc : r = 0 ∨ r = 1 ∨ r = 2 ∨ r = 3 ∨ r = 4 ∨ r = 5 ∨ r = 6 ∨ r = 7 := by omega
  rcases hc with rfl | rfl | rfl | rfl | rfl | rfl | rfl | rfl <;> exact absurd h2 (by decide)


theorem addr_plain (g o j : Nat) : (⟨g, o, none⟩ : Addr).add j = ⟨g, o + j, none⟩ := by unfold Addr.add; split <;> simp_all
/-- What is no state is not got, its zeros written out. -/
theorem nget0_t (s : ByteArray) (w : World) (h : getB s = false) (hl : s.size ≤ 9223372036854775807) :
    Calls Try.prog 10 #[.string s] w fun e w' => e = .returned (.tuple #[.int .i64 0, .int .i64 0, .agg #[.int .i64 0, .int .i64 0, .int .i64 0, .int .i64 0, .int .i64 0, .int .i64 0, .int .i64 0, .int .i64 0, .int .i64 0, .int .i64 0, .int .i64 0, .int .i64 0, .int .i64 0], .bool false]) ∧ Below w.heap.size w w' := nget_t s w h hl
/-- A state's cells, one by one. -/
theorem cells13 {w : World} {b : Nat} {num life clock seg at_ next seq m0 m1 m2 m3 sb sn : Int} (h : w.heap[b]? = some (.cells (slotC ⟨num, life, clock, seg, at_, next, seq, m0, m1, m2, m3, sb, sn⟩) 24 (0, 0))) : w.cell? ⟨b, 0, none⟩ = some (.int .i64 num) ∧ w.cell? ⟨b, 1, none⟩ = some (.int .i64 life) ∧ w.cell? ⟨b, 2, none⟩ = some (.int .i64 clock) ∧ w.cell? ⟨b, 3, none⟩ = some (.int .i64 seg) ∧ w.cell? ⟨b, 4, none⟩ = some (.int .i64 at_) ∧ w.cell? ⟨b, 5, none⟩ = some (.int .i64 next) ∧ w.cell? ⟨b, 6, none⟩ = some (.int .i64 seq) ∧ w.cell? ⟨b, 7, none⟩ = some (.int .i64 m0) ∧ w.cell? ⟨b, 8, none⟩ = some (.int .i64 m1) ∧ w.cell? ⟨b, 9, none⟩ = some (.int .i64 m2) ∧ w.cell? ⟨b, 10, none⟩ = some (.int .i64 m3) ∧ w.cell? ⟨b, 11, none⟩ = some (.int .i64 sb) ∧ w.cell? ⟨b, 12, none⟩ = some (.int .i64 sn) :=
  ⟨(cell_of_row w _ _ _ _ _ h).trans rfl, (cell_of_row w _ _ _ _ _ h).trans rfl, (cell_of_row w _ _ _ _ _ h).trans rfl, (cell_of_row w _ _ _ _ _ h).trans rfl, (cell_of_row w _ _ _ _ _ h).trans rfl, (cell_of_row w _ _ _ _ _ h).trans rfl, (cell_of_row w _ _ _ _ _ h).trans rfl, (cell_of_row w _ _ _ _ _ h).trans rfl, (cell_of_row w _ _ _ _ _ h).trans rfl, (cell_of_row w _ _ _ _ _ h).trans rfl, (cell_of_row w _ _ _ _ _ h).trans rfl, (cell_of_row w _ _ _ _ _ h).trans rfl, (cell_of_row w _ _ _ _ _ h).trans rfl⟩

set_option maxRecDepth 10000 in
set_option maxHeartbeats 4000000 in
theorem slotBack_no (house gen bit : Int) (x : Sl) (w : World) (hok : okB x = false) :
    Calls Try.prog 4 #[.int .i64 house, .int .i64 gen, slotV x, .int .i64 bit] w fun e w' => e = .returned (.bool true) ∧ Below w.heap.size w w' := by
  have n0 := Int.emod_nonneg house (show (16 : Int) ≠ 0 by decide)
  have n1 := Int.emod_lt_of_pos house (show (0 : Int) < 16 by decide)
  have q0 := Int.emod_nonneg gen (show (65535 : Int) ≠ 0 by decide)
  have q1 := Int.emod_lt_of_pos gen (show (0 : Int) < 65535 by decide)
  have PLh := slthid (fun w => gplace_t house 16 w (by decide) (by decide))
  have PLg := slthid (fun w => gplace_t gen 65535 w (by decide) (by decide))
  generalize house % 16 = h at *
  generalize gen % 65535 = g at *
  have hput : putB (1 + h) (1 + g) x = false := by simp only [putB, hok, Bool.and_false]
  have PUT := slthid (fun w1 => sput_t (1 + h) (1 + g) x w1)
  have hps : putS (1 + h) (1 + g) x = ⟨#[]⟩ := by rw [putS, hput]; rfl
  rw [hput, hps] at PUT
  have CK := slthid (fun w1 => check_t x w1)
  rw [hok] at CK
  have AW := slthid awake_t
  clear hput hps hok
  obtain ⟨num, life, clock, seg, at_, next, seq, m0, m1, m2, m3, sb, sn⟩ := x
  go_enter Try.func4, Try.ntmps4
  go_wp2_with fail
  generalize hW : w.alloc _ = W
  have HX : Hid (W.heap[w.heap.size]? = some (.cells (slotC ⟨num, life, clock, seg, at_, next, seq, m0, m1, m2, m3, sb, sn⟩) 24 (0, 0))) := by rw [← hW]; exact heap_alloc_new _ _
  have HB0 : Hid (Below w.heap.size w W) := by rw [← hW]; exact (Below.refl _ w).alloc (Nat.le_refl _) _
  have hw0 : w.heap.size < W.heap.size := by rw [← hW]; simp
  clear hW
  refine (PLh.out _).mono ?_
  rintro e w' ⟨rfl, rfl⟩
  go_wp2_with fail
  refine (PLg.out _).mono ?_
  rintro e w' ⟨rfl, rfl⟩
  obtain ⟨x0, x1, x2, x3, x4, x5, x6, x7, x8, x9, x10, x11, x12⟩ := cells13 HX.out
  go_wp2_with fail
  refine (PUT.out _).mono ?_
  rintro e w1 ⟨rfl, hb1⟩
  have HX1 : Hid (w1.heap[w.heap.size]? = some (.cells (slotC ⟨num, life, clock, seg, at_, next, seq, m0, m1, m2, m3, sb, sn⟩) 24 (0, 0))) := by rw [hb1.block _ hw0]; exact HX.out
  have HB1 : Hid (Below w.heap.size w w1) := HB0.out.trans (hb1.mono (by omega))
  clear hb1 x0 x1 x2 x3 x4 x5 x6 x7 x8 x9 x10 x11 x12 HX HB0 PLh PLg PUT
  obtain ⟨x0, x1, x2, x3, x4, x5, x6, x7, x8, x9, x10, x11, x12⟩ := cells13 HX1.out
  go_wp2_with fail
  refine (CK.out _).mono ?_
  rintro e w2 ⟨rfl, hb2⟩
  have HB2 : Hid (Below w.heap.size w w2) := HB1.out.trans (hb2.mono HB1.out.size)
  clear hb2 x0 x1 x2 x3 x4 x5 x6 x7 x8 x9 x10 x11 x12 HX1 HB1 CK
  go_wp2_with fail
  refine (AW.out _).mono ?_
  rintro e w3 ⟨rfl, hb3⟩
  have HB3 : Hid (Below w.heap.size w w3) := HB2.out.trans (hb3.mono HB2.out.size)
  clear hb3 HB2 AW
  go_wp2_with fail
  go_ret
  exact ⟨rfl, HB3.out⟩

set_option maxRecDepth 10000 in
set_option maxHeartbeats 8000000 in
theorem slotBack_yes (house gen bit : Int) (x : Sl) (w : World) (hok : okB x = true) :
    Calls Try.prog 4 #[.int .i64 house, .int .i64 gen, slotV x, .int .i64 bit] w fun e w' => e = .returned (.bool true) ∧ Below w.heap.size w w' := by
  have n0 := Int.emod_nonneg house (show (16 : Int) ≠ 0 by decide)
  have n1 := Int.emod_lt_of_pos house (show (0 : Int) < 16 by decide)
  have q0 := Int.emod_nonneg gen (show (65535 : Int) ≠ 0 by decide)
  have q1 := Int.emod_lt_of_pos gen (show (0 : Int) < 65535 by decide)
  have r0 := Int.emod_nonneg bit (show (2048 : Int) ≠ 0 by decide)
  have r1 := Int.emod_lt_of_pos bit (show (0 : Int) < 2048 by decide)
  have PLh := slthid (fun w => gplace_t house 16 w (by decide) (by decide))
  have PLg := slthid (fun w => gplace_t gen 65535 w (by decide) (by decide))
  have PLq := slthid (fun w => gplace_t bit 2048 w (by decide) (by decide))
  generalize house % 16 = h at *
  generalize gen % 65535 = g at *
  obtain ⟨q, hq⟩ : ∃ q : Nat, bit % 2048 = (q : Int) := ⟨(bit % 2048).toNat, by omega⟩
  rw [hq] at PLq r0 r1
  have hq2 : q < 2048 := by omega
  clear hq r0 r1
  have hput : putB (1 + h) (1 + g) x = true := by
    simp only [putB, hok, Bool.and_true, Bool.and_eq_true, inB_iff]
    omega
  have PUT := slthid (fun w1 => sput_t (1 + h) (1 + g) x w1)
  rw [hput] at PUT
  have CK := slthid (fun w1 => check_t x w1)
  rw [hok] at CK
  have GET := slthid (fun w1 => rget_t (1 + h) (1 + g) x w1 hput)
  have SAME := slthid (fun w1 => same_t x w1)
  have AW := slthid awake_t
  have HTB := slthid (putS_list hput)
  have hsz := putS_size hput
  have hsz2 : ((putS (1 + h) (1 + g) x).size : Int) = 256 := by rw [hsz]; rfl
  have HSZ := slthid hsz
  have TURN : Hid (∀ (s : ByteArray) (i : Nat) (y : UInt8) (hi : i < (sbytes (1 + h) (1 + g) x).length), y ≠ (sbytes (1 + h) (1 + g) x)[i] → s.data.toList = (sbytes (1 + h) (1 + g) x).set i y → getB s = false) := fun s i y hi h1 h2 => get_turned hi h1 h2
  rw [← HTB.out] at TURN
  clear hsz hput hok HTB
  generalize putS (1 + h) (1 + g) x = S at *
  have hst : ∀ (k : Nat), k ≤ 256 → getB (S.extract 0 k) = false ∨ k = 256 := by
    intro k hk
    by_cases h1 : k = 256
    · exact .inr h1
    · refine .inl (get_long ?_)
      rw [ByteArray.size_extract, HSZ.out]
      omega
  have hno3 : getB (S ++ ⟨#[120]⟩) = false := get_long (by rw [ByteArray.size_append, HSZ.out]; decide)
  have hno2 : getB (S.extract 0 (q / 8)) = false := by
    rcases hst (q / 8) (by omega) with h1 | h1
    · exact h1
    · omega
  have GNO2 := slthid (fun w6 => nget0_t (S.extract 0 (q / 8)) w6 hno2 (by rw [ByteArray.size_extract, HSZ.out]; omega))
  have GNO3 := slthid (fun w6 => nget0_t (S ++ ⟨#[120]⟩) w6 hno3 (by rw [ByteArray.size_append, HSZ.out]; decide))
  clear hst hno2 hno3
  obtain ⟨num, life, clock, seg, at_, next, seq, m0, m1, m2, m3, sb, sn⟩ := x
  go_enter Try.func4, Try.ntmps4
  go_wp2_with fail
  generalize hW : w.alloc _ = W
  have HX : Hid (W.heap[w.heap.size]? = some (.cells (slotC ⟨num, life, clock, seg, at_, next, seq, m0, m1, m2, m3, sb, sn⟩) 24 (0, 0))) := by rw [← hW]; exact heap_alloc_new _ _
  have HB0 : Hid (Below w.heap.size w W) := by rw [← hW]; exact (Below.refl _ w).alloc (Nat.le_refl _) _
  have hw0 : w.heap.size < W.heap.size := by rw [← hW]; simp
  clear hW
  refine (PLh.out _).mono ?_
  rintro e w' ⟨rfl, rfl⟩
  go_wp2_with fail
  refine (PLg.out _).mono ?_
  rintro e w' ⟨rfl, rfl⟩
  obtain ⟨x0, x1, x2, x3, x4, x5, x6, x7, x8, x9, x10, x11, x12⟩ := cells13 HX.out
  go_wp2_with fail
  refine (PUT.out _).mono ?_
  rintro e w1 ⟨rfl, hb1⟩
  have HX1 : Hid (w1.heap[w.heap.size]? = some (.cells (slotC ⟨num, life, clock, seg, at_, next, seq, m0, m1, m2, m3, sb, sn⟩) 24 (0, 0))) := by rw [hb1.block _ hw0]; exact HX.out
  have HB1 : Hid (Below w.heap.size w w1) := HB0.out.trans (hb1.mono (by omega))
  have hw1 : w.heap.size < w1.heap.size := by have := hb1.size; omega
  clear hb1 x0 x1 x2 x3 x4 x5 x6 x7 x8 x9 x10 x11 x12 HX HB0 PLh PLg PUT
  obtain ⟨x0, x1, x2, x3, x4, x5, x6, x7, x8, x9, x10, x11, x12⟩ := cells13 HX1.out
  go_wp2_with fail
  refine (CK.out _).mono ?_
  rintro e w2 ⟨rfl, hb2⟩
  have HX2 : Hid (w2.heap[w.heap.size]? = some (.cells (slotC ⟨num, life, clock, seg, at_, next, seq, m0, m1, m2, m3, sb, sn⟩) 24 (0, 0))) := by rw [hb2.block _ hw1]; exact HX1.out
  have HB2 : Hid (Below w.heap.size w w2) := HB1.out.trans (hb2.mono HB1.out.size)
  have hw2 : w.heap.size < w2.heap.size := by have := hb2.size; omega
  clear hb2 x0 x1 x2 x3 x4 x5 x6 x7 x8 x9 x10 x11 x12 HX1 HB1 CK
  go_wp2_with fail
  refine (GET.out _).mono ?_
  rintro e w3 ⟨rfl, hb3⟩
  have HX3 : Hid (w3.heap[w.heap.size]? = some (.cells (slotC ⟨num, life, clock, seg, at_, next, seq, m0, m1, m2, m3, sb, sn⟩) 24 (0, 0))) := by rw [hb3.block _ hw2]; exact HX2.out
  have HB3 : Hid (Below w.heap.size w w3) := HB2.out.trans (hb3.mono HB2.out.size)
  have hw3 : w.heap.size < w3.heap.size := by have := hb3.size; omega
  clear hb3 HX2 HB2 GET
  obtain ⟨x0, x1, x2, x3, x4, x5, x6, x7, x8, x9, x10, x11, x12⟩ := cells13 HX3.out
  go_wp2_with fail
  refine (SAME.out _).mono ?_
  rintro e w4 ⟨rfl, hb4⟩
  have HB4 : Hid (Below w.heap.size w w4) := (HB3.out.alloc HB3.out.size _).trans (hb4.mono (by have := HB3.out.size; simp; omega))
  clear hb4 x0 x1 x2 x3 x4 x5 x6 x7 x8 x9 x10 x11 x12 HX3 HB3 SAME
  have hcv := run_bytes_of_string (P := Try.prog) w4 9 34 5 S Try.underlying9 Try.underlying34 Try.underlying5
  generalize grownCap w4 S.size 0 5 = gc at *
  obtain ⟨D, hD⟩ : ∃ D, D = w4.drew.alloc (.cells (bytesRow S gc) 5 ((bytesRow S gc).size, (bytesRow S gc).size + 1)) := ⟨_, rfl⟩
  rw [← hD] at hcv
  have HDB : Hid (Below w4.heap.size w4 D) := by rw [hD]; exact ((Below.refl _ w4).drew).alloc (Nat.le_refl _) _
  have HDR : Hid (D.heap[w4.heap.size]? = some (.cells (bytesRow S gc) 5 ((bytesRow S gc).size, (bytesRow S gc).size + 1))) := by
    rw [hD]
    exact heap_alloc_new _ _
  clear hD
  rw [HSZ.out] at hcv
  go_wp2_with fail
  refine (PLq.out _).mono ?_
  rintro e w' ⟨rfl, rfl⟩
  clear PLq
  have hql : q / 8 < S.data.toList.length := by
    have := HSZ.out
    have e : S.data.toList.length = S.size := by simp
    omega
  have hx := brow_cell HDR.out (q / 8) hql
  have hxf := brow_frozen HDR.out (q / 8) (by have := HSZ.out; omega)
  obtain ⟨x, hxx⟩ : ∃ x : UInt8, x = S.data.toList[q / 8] := ⟨_, rfl⟩
  rw [← hxx] at hx
  have HXE := slthid hxx
  clear hxx
  go_wp2_with fail
  rw [turn_bit]
  obtain ⟨y, hy⟩ : ∃ y : UInt8, y = x ^^^ UInt8.ofNat (2 ^ (q % 8) % 256) := ⟨_, rfl⟩
  rw [← hy]
  have hyx : y ≠ x := by rw [hy]; exact turn_other x _ (Nat.mod_lt _ (by decide))
  clear hy
  generalize hE : World.setCell _ _ _ = E
  have HEB : Hid (Below w4.heap.size w4 E) := by rw [← hE]; exact HDB.out.setCell (Nat.le_refl _) _
  have HBE : Hid (Below w.heap.size w E) := HB4.out.trans (HEB.out.mono HB4.out.size)
  have hlen : (S.data.toList.set (q / 8) y).length = 256 := by
    have := HSZ.out
    rw [List.length_set]
    simpa using this
  have hcb := run_convert_bytes_back (P := Try.prog) E 34 9 5 ⟨w4.heap.size, 0, none⟩ gc (S.data.toList.set (q / 8) y) Try.underlying34 Try.underlying5 Try.underlying9 (fun j hj => by
    have hj2 : j < S.data.toList.length := by rw [List.length_set] at hj; exact hj
    rw [addr_plain, Nat.zero_add, ← hE, List.getElem_set]
    by_cases hjq : q / 8 = j
    · subst hjq
      rw [if_pos rfl]
      exact World.cell?_setCell_same' _ _ _ (by rw [hx]; rfl)
    · rw [if_neg hjq]
      exact (World.cell?_setCell_other _ _ _ _ (by intro h; cases h; exact hjq rfl)).trans (brow_cell HDR.out j hj2))
  rw [hlen] at hcb
  have hno : getB ⟨(S.data.toList.set (q / 8) y).toArray⟩ = false := TURN.out _ (q / 8) y hql (by rw [← HXE.out]; exact hyx) (by simp)
  have hs2 : (⟨(S.data.toList.set (q / 8) y).toArray⟩ : ByteArray).size ≤ 9223372036854775807 := by
    show (S.data.toList.set (q / 8) y).toArray.size ≤ _
    rw [List.size_toArray, hlen]
    decide
  generalize (⟨(S.data.toList.set (q / 8) y).toArray⟩ : ByteArray) = S2 at *
  have GNO := slthid (fun w6 => nget0_t S2 w6 hno hs2)
  clear hE hx hxf hyx hno HXE TURN HDR HDB HB4 HEB hql hlen hcv hs2
  rw [hcb]
  clear hcb
  go_wp2_with fail
  refine (GNO.out _).mono ?_
  rintro e w5 ⟨rfl, hb5⟩
  have HB6 : Hid (Below w.heap.size w w5) := HBE.out.trans (hb5.mono HBE.out.size)
  clear hb5 HBE GNO
  go_wp2_with fail
  refine (GNO2.out _).mono ?_
  rintro e w6 ⟨rfl, hb6⟩
  have HB7 : Hid (Below w.heap.size w w6) := (HB6.out.alloc HB6.out.size _).trans (hb6.mono (by have := HB6.out.size; simp; omega))
  clear hb6 HB6 GNO2
  go_wp2_with fail
  refine (GNO3.out _).mono ?_
  rintro e w7 ⟨rfl, hb7⟩
  have HB8 : Hid (Below w.heap.size w w7) := (HB7.out.alloc HB7.out.size _).trans (hb7.mono (by have := HB7.out.size; simp; omega))
  clear hb7 HB7 GNO3
  go_wp2_with fail
  refine (AW.out _).mono ?_
  rintro e w8 ⟨rfl, hb8⟩
  have HB9 : Hid (Below w.heap.size w w8) := (HB8.out.alloc HB8.out.size _).trans (hb8.mono (by have := HB8.out.size; simp; omega))
  clear hb8 HB8 AW
  go_wp2_with fail
  go_ret
  exact ⟨rfl, HB9.out⟩

theorem slotBack_t (house gen bit : Int) (x : Sl) (w : World) :
    Calls Try.prog 4 #[.int .i64 house, .int .i64 gen, slotV x, .int .i64 bit] w fun e w' => e = .returned (.bool true) ∧ Below w.heap.size w w' := by
  cases h : okB x
  · exact slotBack_no house gen bit x w h
  · exact slotBack_yes house gen bit x w h
end Go.Proofs.Ytgpjjbffndmhjaa
