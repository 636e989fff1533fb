/- ChunkApart walked: a chunk whose blocks are others is none: four bytes in a row turned. -/
import Derived.Test.YtpfcfldkhecijaaChunkBack
import Derived.Test.YtpfcfldkhecijaaChunkBurst
namespace Go.Proofs.Ytpfcfldkhecijaa
open Go.RowKit Rec Hdp Chk

/-- Bytes in a row that may be written. -/
def Byt (w : World) (g : Nat) (T : List UInt8) : Prop :=
  g < w.heap.size ∧ ∀ j (h : j < T.length), w.cell? ⟨g, j, none⟩ = some (.int .u8 (T[j].toNat : Int)) ∧ w.frozen? ⟨g, j, none⟩ = false
theorem Byt.set {w : World} {g : Nat} {T : List UInt8} (h : Byt w g T) (j : Nat) (hj : j < T.length) (y : UInt8) : Byt (w.setCell ⟨g, j, none⟩ (.int .u8 (y.toNat : Int))) g (T.set j y) := by
  refine ⟨by simpa using h.1, fun i hi => ?_⟩
  rw [List.length_set] at hi
  refine ⟨?_, (World.frozen?_setCell _ _ _ _).trans (h.2 i hi).2⟩
  by_cases e : j = i
  · subst e
    rw [List.getElem_set_self]
    exact World.cell?_setCell_same' _ _ _ (by rw [(h.2 j hj).1]; rfl)
  · rw [List.getElem_set_ne e]
    exact (World.cell?_setCell_other _ _ _ _ (by intro h; cases h; exact e rfl)).trans (h.2 i hi).1
theorem Byt.conv {w : World} {g : Nat} {T : List UInt8} (h : Byt w g T) (cap : Nat) : (convert 38 9 (.slice (some ⟨g, 0, none⟩) T.length cap)).run Try.prog w = .ok (.string ⟨T.toArray⟩) w :=
  part_conv w g 0 cap T fun j hj => by rw [Nat.zero_add]; exact (h.2 j hj).1
theorem xor_byte (y : UInt8) (n : Nat) : bits .xor .u8 (y.toNat : Int) ((n % 256 : Nat) : Int) = ((y ^^^ UInt8.ofNat (n % 256)).toNat : Int) := by
  rw [u8_xor_nat _ _ (Sum.byte_lt y) (by omega), UInt8.toNat_xor, Sum.toNat_low]

set_option maxRecDepth 20000 in
set_option maxHeartbeats 8000000 in
theorem chunkApart_t (l : List Int) (v : Value) (at' : Int) (row : Nat) (w : World) (hI : Ints w v l) (hl : l.length ≤ 9223372036854775807) (hr : row < 4294967296) :
    Calls Try.prog 6 #[v, .int .i64 at', .int .u32 row] w fun e w' => e = .returned (.bool true) ∧ Below w.heap.size w w' := by
  have AW := hdhid awake_t
  have MD := hdhid (made_agg l v w hI hl)
  have hL24 : (l.take 24).length ≤ 24 := by rw [List.length_take]; omega
  obtain ⟨L, hL⟩ : ∃ L, l.take 24 = L := ⟨_, rfl⟩
  rw [hL] at MD hL24
  clear hL hI
  have MK := hdhid (fun ad n cap bv w1 hE hT => make_agg L ad n cap bv w1 hL24 hE hT)
  have NT := hdhid (fun s w1 h hl => none_agg s w1 h hl)
  have HBU : Hid (∀ k s, 256 ≤ k → k + 5 ≤ (makeS (madeX L) (madeK L)).data.toList.length → row ≠ 0 → s.data.toList = Tw (makeS (madeX L) (madeK L)).data.toList k row 4 → parB s = false) := fun k s hk hk5 h0 hs => par_burst (made_yes hL24) hk hk5 h0 hr hs
  have hM0 : (makeS (madeX L) (madeK L)).size = 256 * (1 + L.length) := by rw [makeS_size (made_yes hL24), madeK_length]
  generalize makeS (madeX L) (madeK L) = S at *
  obtain ⟨M, hM⟩ : ∃ M, S.size = M := ⟨_, rfl⟩
  rw [hM] at hM0
  obtain ⟨n, hn⟩ : ∃ n, L.length = n := ⟨_, rfl⟩
  rw [hn] at MD hL24 hM0
  clear hn
  have HM0 := hdhid hM0
  by_cases h0 : n = 0 ∨ row = 0
  · have d1 : ((n : Int) == 0) = decide (n = 0) := by
      by_cases h : n = 0
      · rw [h]; rfl
      · rw [decide_eq_false h, beq_eq_false_iff_ne]; omega
    have d2 : ((row : Int) == 0) = decide (row = 0) := by
      by_cases h : row = 0
      · rw [h]; rfl
      · rw [decide_eq_false h, beq_eq_false_iff_ne]; omega
    clear MK NT HBU hM0 HM0
    go_enter Try.func6, Try.ntmps6
    go_wp2_with fail
    refine MD.out.mono ?_
    rintro e w1 ⟨ad, cap, bad, bcap, rfl, -, -, hb⟩
    have HB1 : Hid (∀ o, Below w.heap.size w (w1.alloc o)) := fun o => hb.alloc hb.size _
    clear hb MD
    by_cases hn0 : n = 0
    · subst hn0
      go_wp2_with fail
      refine (AW.out _).mono ?_
      rintro e w2 ⟨rfl, hb⟩
      have HB2 : Hid (Below w.heap.size w w2) := (HB1.out _).trans (hb.mono (HB1.out _).size)
      clear hb HB1 AW
      go_wp2_with fail
      go_ret
      exact ⟨rfl, HB2.out⟩
    · have hr0 : row = 0 := by omega
      subst hr0
      have d3 : ((n : Int) == 0) = false := by rw [beq_eq_false_iff_ne]; omega
      go_wp2_with fail
      refine (AW.out _).mono ?_
      rintro e w2 ⟨rfl, hb⟩
      have HB2 : Hid (Below w.heap.size w w2) := (HB1.out _).trans (hb.mono (HB1.out _).size)
      clear hb HB1 AW
      go_wp2_with fail
      go_ret
      exact ⟨rfl, HB2.out⟩
  · have hn0 : ¬ n = 0 := fun h => h0 (.inl h)
    have hr0 : ¬ row = 0 := fun h => h0 (.inr h)
    have d1 : ((n : Int) == 0) = false := by rw [beq_eq_false_iff_ne]; omega
    have d2 : ((row : Int) == 0) = false := by rw [beq_eq_false_iff_ne]; omega
    have hne : ((M : Int) != 256 * (1 + (n : Int))) = false := by rw [bne_eq_false_iff_eq]; omega
    have hM1 : M ≤ 6400 := by omega
    have hM2 : 512 ≤ M := by omega
    obtain ⟨Q, hQ⟩ : ∃ Q : Nat, Q + 4 = 256 * n := ⟨256 * n - 4, by omega⟩
    have eQ : (n : Int) * 256 - 4 = (Q : Int) := by omega
    have p0 := Int.emod_nonneg at' (show (Q : Int) ≠ 0 by omega)
    have p1 := Int.emod_lt_of_pos at' (show (0 : Int) < (Q : Int) by omega)
    have PL := hdhid (fun w => gplace_t at' (Q : Int) w (by omega) (by omega))
    obtain ⟨q, hq⟩ : ∃ q : Nat, at' % (Q : Int) = (q : Int) := ⟨(at' % (Q : Int)).toNat, by omega⟩
    rw [hq] at PL p0 p1
    obtain ⟨k, hk⟩ : ∃ k : Nat, (q : Int) + 256 = (k : Int) := ⟨q + 256, by omega⟩
    have hk1 : 256 ≤ k := by omega
    have hk2 : k + 5 ≤ M := by omega
    have HK := hdhid hk
    have HBU2 := hdhid (fun s hs => HBU.out k s hk1 (by rw [← size_list, hM]; exact hk2) hr0 hs)
    clear HBU hq p0 p1 hQ hM0 HM0 h0 hr0
    go_enter Try.func6, Try.ntmps6
    go_wp2_with fail
    refine MD.out.mono ?_
    rintro e w1 ⟨ad, cap, bad, bcap, rfl, hE1, hT1, hb1⟩
    have HE1 := hdhid hE1
    have HT1 := hdhid hT1.txts
    have HB1 := hdhid hb1
    have hz := fun V h => cells9 (w := V) (b := w1.heap.size) (house := 1) (gen := 2) (life := 3) (seq := 4) (next := 5) (clock := 6) (sb := 0) (sn := 0) (v := .slice ad n cap) (l := []) (t := 24) h
    clear hE1 hT1 hb1 MD hz
    go_wp2_with fail
    generalize hV : World.alloc w1 _ = V1
    have HV1 : Below w1.heap.size w1 V1 := by rw [← hV]; exact (Below.refl _ w1).alloc (Nat.le_refl _) _
    have HE2 := hdhid (HE1.out.on HV1)
    have HT2 := hdhid (HT1.out.on HV1)
    have HB2 : Hid (Below w.heap.size w V1) := HB1.out.trans (HV1.mono HB1.out.size)
    clear hV HV1 HE1 HT1 HB1
    refine (MK.out _ _ _ _ _ HE2.out HT2.out).mono ?_
    rintro e wb ⟨rfl, hb⟩
    have HBb : Hid (Below w.heap.size w wb) := HB2.out.trans (hb.mono HB2.out.size)
    clear hb HE2 HT2 HB2 MK
    have hcv := run_bytes_of_string (P := Try.prog) wb 9 38 5 S Try.underlying9 Try.underlying38 Try.underlying5
    have hgc := grownCap_ge wb S.size 0 5
    have hgm := grownCap_le_maxLen wb S.size 0 5 (by rw [hM]; unfold maxLen; omega)
    unfold maxLen at hgm
    generalize grownCap wb S.size 0 5 = gc at *
    obtain ⟨D, hD⟩ : ∃ D, D = wb.drew.alloc (.cells (bytesRow S gc) 5 ((bytesRow S gc).size, (bytesRow S gc).size + 1)) := ⟨_, rfl⟩
    rw [← hD] at hcv
    have HDB : Hid (Below wb.heap.size wb D) := by rw [hD]; exact ((Below.refl _ wb).drew).alloc (Nat.le_refl _) _
    have HDR : Hid (D.heap[wb.heap.size]? = some (.cells (bytesRow S gc) 5 ((bytesRow S gc).size, (bytesRow S gc).size + 1))) := by
      rw [hD]
      exact heap_alloc_new _ _
    clear hD
    have HBY : Hid (Byt D wb.heap.size S.data.toList) := ⟨(Array.getElem?_eq_some_iff.1 HDR.out).1, fun j hj => ⟨brow_cell HDR.out j hj, brow_frozen HDR.out j (by rw [size_list]; exact hj)⟩⟩
    have hTl : S.data.toList.length = M := by rw [← size_list, hM]
    have HTL := hdhid hTl
    rw [hM] at hcv hgc
    obtain ⟨T0, hT0⟩ : ∃ T0, S.data.toList = T0 := ⟨_, rfl⟩
    rw [hT0] at HBY HTL HBU2
    have HTW := hdhid (Tw_length T0 k row)
    have HTS := hdhid (Tw_succ T0 k row)
    clear hT0 hTl HDR
    go_wp2_with fail
    refine (PL.out _).mono ?_
    rintro e wc ⟨rfl, rfl⟩
    clear PL
    go_wp2_with fail
    have HB0 : Hid (Below w.heap.size w D) := HBb.out.trans (HDB.out.mono HBb.out.size)
    have hbs := HBb.out.size
    clear HBb HDB
    go_loopw [13] (fun c wr => ∃ i : Nat, i ≤ 4 ∧ c = .int .i64 i ∧ Hid (Byt wr wb.heap.size (Tw T0 k row i)) ∧ Hid (Below w.heap.size w wr)) (fun c _ => 4 - (intOf c).toNat)
    case atStart => exact ⟨0, by omega, rfl, HBY.out, HB0.out⟩
    case round =>
      obtain ⟨i, hi, rfl, HY, HW⟩ := hrel
      by_cases h4 : i < 4
      · have hlt : k + i < (Tw T0 k row i).length := by rw [HTW.out, HTL.out]; omega
        obtain ⟨hc, hf⟩ := HY.out.2 (k + i) hlt
        have HS : Hid (∀ y, y = (Tw T0 k row i)[k + i] ^^^ UInt8.ofNat (row / 256 ^ i % 256) → Byt (wr.setCell ⟨wb.heap.size, k + i, none⟩ (.int .u8 (y.toNat : Int))) wb.heap.size (Tw T0 k row (i + 1))) := fun y hy => by
          rw [HTS.out i hlt, ← hy]
          exact HY.out.set (k + i) hlt y
        have HW2 : Hid (∀ u, Below w.heap.size w (wr.setCell ⟨wb.heap.size, k + i, none⟩ u)) := fun u => HW.out.setCell (by dsimp only; omega) _
        obtain ⟨y, hy⟩ : ∃ y : UInt8, y = (Tw T0 k row i)[k + i] := ⟨_, rfl⟩
        rw [← hy] at HS hc
        clear hy hlt HY
        have hcs : i = 0 ∨ i = 1 ∨ i = 2 ∨ i = 3 := by omega
        rcases hcs with rfl | rfl | rfl | rfl
        · have ev : Hid (bits .xor .u8 (y.toNat : Int) ((row : Int) % 256) = ((y ^^^ UInt8.ofNat (row / 256 ^ 0 % 256)).toNat : Int)) := by
            show _ = _
            rw [← xor_byte, show ((row : Int) % 256 : Int) = ((row / 256 ^ 0 % 256 : Nat) : Int) by omega]
          rw [Nat.add_zero] at hc hf
          go_wp2_with fail
          rw [ev.out]
          exact ⟨⟨1, by omega, rfl, HS.out _ rfl, HW2.out _⟩, by simp [intOf]⟩
        · have ev : Hid (bits .xor .u8 (y.toNat : Int) ((row : Int) / 256 % 256) = ((y ^^^ UInt8.ofNat (row / 256 ^ 1 % 256)).toNat : Int)) := by
            show _ = _
            rw [← xor_byte, show ((row : Int) / 256 % 256 : Int) = ((row / 256 ^ 1 % 256 : Nat) : Int) by omega]
          go_wp2_with fail
          rw [ev.out]
          exact ⟨⟨2, by omega, rfl, HS.out _ rfl, HW2.out _⟩, by simp [intOf]⟩
        · have ev : Hid (bits .xor .u8 (y.toNat : Int) ((row : Int) / 65536 % 256) = ((y ^^^ UInt8.ofNat (row / 256 ^ 2 % 256)).toNat : Int)) := by
            show _ = _
            rw [← xor_byte, show ((row : Int) / 65536 % 256 : Int) = ((row / 256 ^ 2 % 256 : Nat) : Int) by omega]
          go_wp2_with fail
          rw [ev.out]
          exact ⟨⟨3, by omega, rfl, HS.out _ rfl, HW2.out _⟩, by simp [intOf]⟩
        · have ev : Hid (bits .xor .u8 (y.toNat : Int) ((row : Int) / 16777216) = ((y ^^^ UInt8.ofNat (row / 256 ^ 3 % 256)).toNat : Int)) := by
            show _ = _
            rw [← xor_byte, show ((row : Int) / 16777216 : Int) = ((row / 256 ^ 3 % 256 : Nat) : Int) by omega]
          go_wp2_with fail
          rw [ev.out]
          exact ⟨⟨4, by omega, rfl, HS.out _ rfl, HW2.out _⟩, by simp [intOf]⟩
      · have hi4 : i = 4 := by omega
        subst hi4
        have hl4 : (Tw T0 k row 4).length = M := by rw [HTW.out, HTL.out]
        have CV := HY.out.conv gc
        rw [hl4] at CV
        have NT1 := hdhid (fun w1 => NT.out ⟨(Tw T0 k row 4).toArray⟩ w1 (HBU2.out _ (by simp)) (by show (Tw T0 k row 4).toArray.size ≤ _; rw [List.size_toArray, hl4]; omega))
        clear NT HBU2 hl4 HY HBY HTS HTW HTL hcv hgc hgm
        generalize (⟨(Tw T0 k row 4).toArray⟩ : ByteArray) = TS at *
        go_wp2_with fail
        refine (NT1.out _).mono ?_
        rintro e w6 ⟨ad6, cap6, bad6, bcap6, rfl, hb⟩
        have HB6 : Hid (Below w.heap.size w w6) := HW.out.trans (hb.mono HW.out.size)
        clear hb HW CV NT1
        go_wp2_with fail
        refine (AW.out _).mono ?_
        rintro e w9 ⟨rfl, hb⟩
        have HB9 : Hid (Below w.heap.size w w9) := (HB6.out.alloc HB6.out.size _).trans (hb.mono (HB6.out.alloc HB6.out.size _).size)
        clear hb HB6 AW
        go_wp2_with fail
        go_ret
        exact ⟨rfl, HB9.out⟩
end Go.Proofs.Ytpfcfldkhecijaa
