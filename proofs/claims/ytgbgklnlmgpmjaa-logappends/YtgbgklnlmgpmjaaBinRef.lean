/- The document's own numbers as bytes (chapter 3's answer): Put, Get walked. -/
import Derived.Test.YtgbgklnlmgpmjaaBinPut
import Derived.Deep.AppendLies
namespace Go.Proofs.Ytgbgklnlmgpmjaa
open Go.RowKit

/-- Bytes as cells. -/
def lowCells (n : Nat) (v : Int) : List Value := (Bin.low n v).map fun b => .int .u8 (b.toNat : Int)
theorem low_snoc : ∀ (n : Nat) (v : Int), Bin.low (n + 1) v = Bin.low n v ++ [UInt8.ofNat (v / 256 ^ n % 256).toNat]
  | 0, v => by simp [Bin.low]
  | n + 1, v => by
    have e := low_snoc n (v / 256)
    rw [Bin.low, e, Bin.low, List.cons_append, Int.ediv_ediv_of_nonneg (by decide), Int.pow_succ, Int.mul_comm (256 ^ n) 256]
theorem lowCells_snoc (n : Nat) (v : Int) : lowCells (n + 1) v = lowCells n v ++ [.int .u8 (v / 256 ^ n % 256)] := by
  have h0 : 0 ≤ v / 256 ^ n % 256 := Int.emod_nonneg _ (by decide)
  have h1 : v / 256 ^ n % 256 < 256 := Int.emod_lt_of_pos _ (by decide)
  rw [lowCells, low_snoc, List.map_append, lowCells]
  congr 1
  rw [List.map_cons, List.map_nil, Bin.toNat_of _ (by omega), Int.toNat_of_nonneg h0]
theorem lowCells_length (n : Nat) (v : Int) : (lowCells n v).length = n := by simp [lowCells, Bin.low_length]
theorem lowCells_get (n : Nat) (v : Int) (j : Nat) (hj : j < (Bin.low n v).length) : (lowCells n v)[j]? = some (.int .u8 ((Bin.low n v)[j].toNat : Int)) := by
  simp [lowCells, hj]

theorem refOwn_on {w w' : World} {base : Nat} {e : TypeId} {size : Nat} {v : Value} {n : Nat} {xs : List Value} (h : w.ownsRow base e size v n xs) (k : Below w.heap.size w w') : w'.ownsRow base e size v n xs := by
  obtain ⟨h1, h2⟩ := h
  refine ⟨h1, ?_⟩
  rcases h2 with h2 | ⟨g, cap, cur, rfl, hg, hh, r⟩
  · exact Or.inl h2
  · exact Or.inr ⟨g, cap, cur, rfl, hg, by rw [k.block g (Array.getElem?_eq_some_iff.1 hh).1]; exact hh, r⟩

set_option maxRecDepth 10000 in
set_option maxHeartbeats 1000000 in
theorem refPut_t (v : Int) (k : Nat) (w : World) (hk : k ≤ 7) (h1 : -9223372036854775808 ≤ v) (h2 : v ≤ 9223372036854775807) :
    Calls Try.prog 74 #[.int .i64 v, .int .i64 k] w fun e w' => e = .returned (.string ⟨(Bin.low k v).toArray⟩) ∧ Below w.heap.size w w' := by
  obtain ⟨i5, hi5, hz0, hz1, hz2⟩ := info_parts Try.binfo5
  have HV := binhid (And.intro h1 h2)
  clear h1 h2
  go_enter Try.func74, Try.ntmps74
  go_wp2_with fail
  go_loopw [0, 5, 6] (fun x bv c wr => ∃ (i : Nat) (q : Int), i ≤ k ∧ c = .int .i64 i ∧ x = .int .i64 q ∧ -9223372036854775808 ≤ q ∧ q ≤ 9223372036854775807 ∧ Hid (q = v / 256 ^ i) ∧ Hid (wr.ownsRow w.heap.size 5 1 bv i (lowCells i v)) ∧ Hid (Below w.heap.size w wr)) (fun _ _ c _ => k - (intOf c).toNat)
  case atStart => exact ⟨0, v, by omega, rfl, rfl, HV.out.1, HV.out.2, by show _ = _; simp, ⟨rfl, .inl ⟨rfl, rfl⟩⟩, Below.refl _ _⟩
  case round =>
    obtain ⟨i, q, hi, rfl, rfl, hq1, hq2, HQ, HO, HB⟩ := hrel
    have hsz := HB.out.size
    by_cases hlt : i < k
    · have h7 : i < 7 := by omega
      have HQ2 : Hid (q / 256 = v / 256 ^ (i + 1)) := by
        show _ = _
        rw [HQ.out, Int.ediv_ediv_of_nonneg (Int.pow_nonneg (by decide)), Int.pow_succ]
      have HSN : Hid (lowCells (i + 1) v = lowCells i v ++ [.int .u8 (q % 256)]) := by
        show _ = _
        rw [lowCells_snoc, HQ.out]
      have hq3 : -9223372036854775808 ≤ q / 256 := by omega
      have hq4 : q / 256 ≤ 9223372036854775807 := by omega
      generalize lowCells i v = lc at *
      go_wp2_with (first | (refine wpList_append_lies _ rfl _ _ 92 rfl w.heap.size 5 i5 _ 1 1 Try.underlying92 hi5 hz0 hz1 hz2 rfl (by decide) u5 i lc rfl ?_ ⟨wr.heap.size, 0, none⟩ 1 1 [.int .u8 (q % 256)] rfl rfl ?_ (by simp [Value.oneCell']) (by decide) (by unfold maxLen; omega) (by omega) ?_ (wr.heap.size + 1) (by simp) ?_) | fail)
      · exact refOwn_on HO.out ((Below.refl _ _).alloc (Nat.le_refl _) _)
      · exact World.news_of_block (cs := #[.int .u8 (q % 256)]) (t := 5) (fr := (0, 0)) (heap_alloc_new wr _)
      · simp; omega
      intro g cap7 w7 hown7 hgrow7 hat7 hlt7
      have HO7 : Hid (w7.ownsRow w.heap.size 5 1 (.slice (some ⟨g, 0, none⟩) (i + 1) cap7) (i + 1) (lowCells (i + 1) v)) := by
        show World.ownsRow _ _ _ _ _ _ _
        rw [HSN.out]
        exact hown7
      have HB7 : Hid (Below w.heap.size w w7) := (HB.out.alloc HB.out.size _).grown hgrow7 (by simp; omega) (fun q hq => (HO.out.lt q hq).1)
      clear hown7 hgrow7 hat7 HO HB HSN
      go_wp2_with fail
      exact ⟨⟨i + 1, q / 256, by omega, by go_num, rfl, hq3, hq4, HQ2, HO7, HB7⟩, by simp [intOf]; omega⟩
    · have hik : i = k := by omega
      subst hik
      obtain ⟨ho1, ho2⟩ := HO.out
      rcases ho2 with ⟨rfl, hz⟩ | ⟨g, cap, cur, rfl, hgb, hg, hle, hmx, hcs, htk⟩
      · subst hz
        have hcv : (convert 92 9 (.slice none 0 0)).run Try.prog wr = .ok (.string ⟨#[]⟩) wr := by kernel_rfl
        go_wp2_with fail
        go_ret
        exact ⟨rfl, HB.out⟩
      · have hcv := bin_conv wr g 0 cap (Bin.low i v) (fun t ht => by
          have ht2 : t < i := by rw [Bin.low_length] at ht; exact ht
          rw [cell_of_row wr g _ cur 5 _ hg, Nat.zero_add, ← lowCells_get i v t ht, ← htk, Nat.mul_one, List.getElem?_take_of_lt ht2, Array.getElem?_toList])
        rw [Bin.low_length] at hcv
        obtain ⟨T, hT⟩ : ∃ T, T = Bin.low i v := ⟨_, rfl⟩
        rw [← hT] at hcv
        have HT := binhid hT
        clear hT htk hcs hmx hle ho1 hg
        by_cases h7 : i < 7
        · go_wp2_with fail
          go_ret
          exact ⟨by rw [← HT.out]; rfl, HB.out⟩
        · go_wp2_with fail
          go_ret
          exact ⟨by rw [← HT.out]; rfl, HB.out⟩

theorem small_wrap (n : Nat) (h : n < 4611686018427387904) : IntKind.i64.wrap (n : Int) = (n : Int) := by
  have e : (n : Int) % 2 ^ 64 = n := by omega
  unfold IntKind.wrap
  simp only [IntKind.bits, IntKind.signed, e]
  split
  · next h1 =>
    simp at h1
    omega
  · rfl
theorem or_join (v b : Nat) (hv : v < 281474976710656) (hb : b < 256) : bits .or .i64 ((v : Int) * 256) (b : Int) = ((b + 256 * v : Nat) : Int) := by
  have e : (v : Int) * 256 = ((v * 256 : Nat) : Int) := by omega
  rw [e]
  show IntKind.i64.wrap ((BitVec.ofInt 64 ((v * 256 : Nat) : Int) ||| BitVec.ofInt 64 ((b : Nat) : Int)).toNat : Int) = _
  rw [BitVec.toNat_or, ofInt_u64 _ (by omega), ofInt_u64 _ (by omega), nat_join8 _ _ (by omega) hb, small_wrap _ (by omega)]
  omega

theorem part_cut (s : ByteArray) (a i n : Nat) (h : a + n ≤ s.size) (hi : i < n) : (part s a n).drop i = s[a + i] :: (part s a n).drop (i + 1) := by
  have hl : (part s a n).length = n := part_length s a n h
  rw [List.drop_eq_getElem_cons (by omega)]
  congr 1
  unfold part
  simp
  rfl

set_option maxRecDepth 10000 in
set_option maxHeartbeats 1000000 in
theorem refGet_t (s : ByteArray) (a n : Nat) (w : World) (hn : n ≤ 7) (ha : a + n ≤ s.size) (hl : s.size ≤ 9223372036854775807) :
    Calls Try.prog 71 #[.string s, .int .i64 a, .int .i64 n] w fun e w' => e = .returned (.tuple #[.int .i64 (Bin.num (part s a n) : Nat), .bool true]) ∧ w = w' := by
  have hd1 : decide ((n : Int) < 0) = false := by simp
  have hd2 : decide (7 < (n : Int)) = false := by simp; omega
  have hd3 : decide ((a : Int) < 0) = false := by simp
  have hd4 : decide (s.size < a) = false := by simp; omega
  have hd5 : decide ((s.size : Int) - (a : Int) < (n : Int)) = false := by simp; omega
  go_enter Try.func71, Try.ntmps71
  go_wp2_with fail
  go_loopw [8, 9] (fun x c wr => ∃ (j v : Nat), j ≤ n ∧ c = .int .i64 ((j : Int) - 1) ∧ x = .int .i64 v ∧ v < 72057594037927936 ∧ Hid (v = Bin.num ((part s a n).drop j)) ∧ w = wr) (fun _ c _ => (intOf c + 1).toNat)
  case atStart => exact ⟨n, 0, by omega, rfl, rfl, by omega, by show _ = _; rw [List.drop_of_length_le (by rw [part_length s a n ha]; omega)]; rfl, rfl⟩
  case round =>
    obtain ⟨j, v, hj, rfl, rfl, hv, HV, rfl⟩ := hrel
    by_cases hlt : 0 < j
    · obtain ⟨i, rfl⟩ : ∃ i, j = i + 1 := ⟨j - 1, by omega⟩
      have hsi : a + i < s.size := by omega
      have B := Bin.byte_lt s[a + i]
      have HC := binhid (part_cut s a i n ha (by omega))
      have hi : (((i + 1 : Nat) : Int) - 1) = (i : Int) := by omega
      have hlen : ((part s a n).drop (i + 1)).length ≤ 6 := by rw [List.length_drop, part_length s a n ha]; omega
      have hv6 : v < 281474976710656 := by
        rw [HV.out]
        have := Bin.num_lt ((part s a n).drop (i + 1))
        have h2 : 256 ^ ((part s a n).drop (i + 1)).length ≤ 256 ^ 6 := Nat.pow_le_pow_right (by decide) hlen
        omega
      have HV2 : Hid (s[a + i].toNat + 256 * v = Bin.num ((part s a n).drop i)) := by
        show _ = _
        rw [HC.out, Bin.num, HV.out]
      have HOR := binhid (or_join v s[a + i].toNat hv6 B)
      rw [hi]
      clear hlen HC
      go_wp2_with fail
      rw [HOR.out]
      exact ⟨⟨i, s[a + i].toNat + 256 * v, by omega, rfl, rfl, by omega, HV2, trivial⟩, by simp [intOf]⟩
    · have hj0 : j = 0 := by omega
      subst hj0
      rw [List.drop_zero] at HV
      go_wp2_with fail
      go_ret2
      exact ⟨by rw [← HV.out]; rfl, rfl⟩
end Go.Proofs.Ytgbgklnlmgpmjaa
