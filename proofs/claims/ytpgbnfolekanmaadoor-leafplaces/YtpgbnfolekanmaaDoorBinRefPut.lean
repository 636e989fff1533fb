/- The document's own numbers as bytes (chapter 3's answer): Put walked (for seats without its Get). -/
import Derived.Test.YtpgbnfolekanmaaDoorBinCode
import Derived.Deep.AppendLies
namespace Go.Proofs.YtpgbnfolekanmaaDoor
open Go.RowKit

/-- Bytes as cells. -/
def lowCells (n : Nat) (v : Int) : List Value := (Bin.low n v).map fun b => .int .u8 (b.toNat : Int)
theorem low_snoc : ∀ (n : Nat) (v : Int), Bin.low (n + 1) v = Bin.low n v ++ [UInt8.ofNat (v / 256 ^ n % 256).toNat]
  | 0, v => by simp [Bin.low]
  | n + 1, v => by
    have e := low_snoc n (v / 256)
    rw [Bin.low, e, Bin.low, List.cons_append, Int.ediv_ediv_of_nonneg (by decide), Int.pow_succ, Int.mul_comm (256 ^ n) 256]
theorem lowCells_snoc (n : Nat) (v : Int) : lowCells (n + 1) v = lowCells n v ++ [.int .u8 (v / 256 ^ n % 256)] := by
  have h0 : 0 ≤ v / 256 ^ n % 256 := Int.emod_nonneg _ (by decide)
  have h1 : v / 256 ^ n % 256 < 256 := Int.emod_lt_of_pos _ (by decide)
  rw [lowCells, low_snoc, List.map_append, lowCells]
  congr 1
  rw [List.map_cons, List.map_nil, Bin.toNat_of _ (by omega), Int.toNat_of_nonneg h0]
theorem lowCells_length (n : Nat) (v : Int) : (lowCells n v).length = n := by simp [lowCells, Bin.low_length]
theorem lowCells_get (n : Nat) (v : Int) (j : Nat) (hj : j < (Bin.low n v).length) : (lowCells n v)[j]? = some (.int .u8 ((Bin.low n v)[j].toNat : Int)) := by
  simp [lowCells, hj]

theorem refOwn_on {w w' : World} {base : Nat} {e : TypeId} {size : Nat} {v : Value} {n : Nat} {xs : List Value} (h : w.ownsRow base e size v n xs) (k : Below w.heap.size w w') : w'.ownsRow base e size v n xs := by
  obtain ⟨h1, h2⟩ := h
  refine ⟨h1, ?_⟩
  rcases h2 with h2 | ⟨g, cap, cur, rfl, hg, hh, r⟩
  · exact Or.inl h2
  · exact Or.inr ⟨g, cap, cur, rfl, hg, by rw [k.block g (Array.getElem?_eq_some_iff.1 hh).1]; exact hh, r⟩

set_option maxRecDepth 10000 in
set_option maxHeartbeats 1000000 in
theorem refPut_t (v : Int) (k : Nat) (w : World) (hk : k ≤ 7) (h1 : -9223372036854775808 ≤ v) (h2 : v ≤ 9223372036854775807) :
    Calls Tryd.prog 32 #[.int .i64 v, .int .i64 k] w fun e w' => e = .returned (.string ⟨(Bin.low k v).toArray⟩) ∧ Below w.heap.size w w' := by
  obtain ⟨i5, hi5, hz0, hz1, hz2⟩ := info_parts Tryd.binfo5
  have HV := binhid (And.intro h1 h2)
  clear h1 h2
  go_enter Tryd.func32, Tryd.ntmps32
  go_wp2_with fail
  go_loopw [0, 5, 6] (fun x bv c wr => ∃ (i : Nat) (q : Int), i ≤ k ∧ c = .int .i64 i ∧ x = .int .i64 q ∧ -9223372036854775808 ≤ q ∧ q ≤ 9223372036854775807 ∧ Hid (q = v / 256 ^ i) ∧ Hid (wr.ownsRow w.heap.size 5 1 bv i (lowCells i v)) ∧ Hid (Below w.heap.size w wr)) (fun _ _ c _ => k - (intOf c).toNat)
  case atStart => exact ⟨0, v, by omega, rfl, rfl, HV.out.1, HV.out.2, by show _ = _; simp, ⟨rfl, .inl ⟨rfl, rfl⟩⟩, Below.refl _ _⟩
  case round =>
    obtain ⟨i, q, hi, rfl, rfl, hq1, hq2, HQ, HO, HB⟩ := hrel
    have hsz := HB.out.size
    by_cases hlt : i < k
    · have h7 : i < 7 := by omega
      have HQ2 : Hid (q / 256 = v / 256 ^ (i + 1)) := by
        show _ = _
        rw [HQ.out, Int.ediv_ediv_of_nonneg (Int.pow_nonneg (by decide)), Int.pow_succ]
      have HSN : Hid (lowCells (i + 1) v = lowCells i v ++ [.int .u8 (q % 256)]) := by
        show _ = _
        rw [lowCells_snoc, HQ.out]
      have hq3 : -9223372036854775808 ≤ q / 256 := by omega
      have hq4 : q / 256 ≤ 9223372036854775807 := by omega
      generalize lowCells i v = lc at *
      go_wp2_with (first | (refine wpList_append_lies _ rfl _ _ 46 rfl w.heap.size 5 i5 _ 1 1 Tryd.underlying46 hi5 hz0 hz1 hz2 rfl (by decide) u5 i lc rfl ?_ ⟨wr.heap.size, 0, none⟩ 1 1 [.int .u8 (q % 256)] rfl rfl ?_ (by simp [Value.oneCell']) (by decide) (by unfold maxLen; omega) (by omega) ?_ (wr.heap.size + 1) (by simp) ?_) | fail)
      · exact refOwn_on HO.out ((Below.refl _ _).alloc (Nat.le_refl _) _)
      · exact World.news_of_block (cs := #[.int .u8 (q % 256)]) (t := 5) (fr := (0, 0)) (heap_alloc_new wr _)
      · simp; omega
      intro g cap7 w7 hown7 hgrow7 hat7 hlt7
      have HO7 : Hid (w7.ownsRow w.heap.size 5 1 (.slice (some ⟨g, 0, none⟩) (i + 1) cap7) (i + 1) (lowCells (i + 1) v)) := by
        show World.ownsRow _ _ _ _ _ _ _
        rw [HSN.out]
        exact hown7
      have HB7 : Hid (Below w.heap.size w w7) := (HB.out.alloc HB.out.size _).grown hgrow7 (by simp; omega) (fun q hq => (HO.out.lt q hq).1)
      clear hown7 hgrow7 hat7 HO HB HSN
      go_wp2_with fail
      exact ⟨⟨i + 1, q / 256, by omega, by go_num, rfl, hq3, hq4, HQ2, HO7, HB7⟩, by simp [intOf]; omega⟩
    · have hik : i = k := by omega
      subst hik
      obtain ⟨ho1, ho2⟩ := HO.out
      rcases ho2 with ⟨rfl, hz⟩ | ⟨g, cap, cur, rfl, hgb, hg, hle, hmx, hcs, htk⟩
      · subst hz
        have hcv : (convert 46 9 (.slice none 0 0)).run Tryd.prog wr = .ok (.string ⟨#[]⟩) wr := by kernel_rfl
        go_wp2_with fail
        go_ret
        exact ⟨rfl, HB.out⟩
      · have hcv := bin_conv wr g 0 cap (Bin.low i v) (fun t ht => by
          have ht2 : t < i := by rw [Bin.low_length] at ht; exact ht
          rw [cell_of_row wr g _ cur 5 _ hg, Nat.zero_add, ← lowCells_get i v t ht, ← htk, Nat.mul_one, List.getElem?_take_of_lt ht2, Array.getElem?_toList])
        rw [Bin.low_length] at hcv
        obtain ⟨T, hT⟩ : ∃ T, T = Bin.low i v := ⟨_, rfl⟩
        rw [← hT] at hcv
        have HT := binhid hT
        clear hT htk hcs hmx hle ho1 hg
        by_cases h7 : i < 7
        · go_wp2_with fail
          go_ret
          exact ⟨by rw [← HT.out]; rfl, HB.out⟩
        · go_wp2_with fail
          go_ret
          exact ⟨by rw [← HT.out]; rfl, HB.out⟩
end Go.Proofs.YtpgbnfolekanmaaDoor
