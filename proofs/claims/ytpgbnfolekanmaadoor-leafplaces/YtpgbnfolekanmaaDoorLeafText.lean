/- The laws' own Text walked: which letters it makes. -/
import Derived.Test.YtpgbnfolekanmaaDoorLeafPlain
import Derived.Test.YtpgbnfolekanmaaDoorPlace
import Derived.Test.YtpgbnfolekanmaaDoorBinRefPut
import Derived.Laws.BytesArg
import Derived.Deep.AppendLies
namespace Go.Proofs.YtpgbnfolekanmaaDoor
open Go.RowKit

theorem txhid {P : Prop} (h : P) : Hid P := h

/-- The letter at a place of a text by a number. -/
def txB (v : Int) (i : Nat) : UInt8 := UInt8.ofNat (97 + (v + (i : Int) * (1 + v % 7)) % 26).toNat
/-- A text by a number. -/
def txL (v : Int) (n : Nat) : List UInt8 := (List.range n).map (txB v)
theorem txL_length (v : Int) (n : Nat) : (txL v n).length = n := by simp [txL]
theorem txL_succ (v : Int) (n : Nat) : txL v (n + 1) = txL v n ++ [txB v n] := by simp [txL, List.range_succ]
theorem txB_nat (v : Int) (i : Nat) : ((txB v i).toNat : Int) = 97 + (v + (i : Int) * (1 + v % 7)) % 26 := by
  have h1 := Int.emod_nonneg (v + (i : Int) * (1 + v % 7)) (show (26 : Int) ≠ 0 by decide)
  have h2 := Int.emod_lt_of_pos (v + (i : Int) * (1 + v % 7)) (show (0 : Int) < 26 by decide)
  rw [txB, Bin.toNat_of _ (by omega)]
  omega
theorem txB_low (v : Int) (i : Nat) : 97 ≤ (txB v i).toNat ∧ (txB v i).toNat ≤ 122 := by
  have h := txB_nat v i
  have h1 := Int.emod_nonneg (v + (i : Int) * (1 + v % 7)) (show (26 : Int) ≠ 0 by decide)
  have h2 := Int.emod_lt_of_pos (v + (i : Int) * (1 + v % 7)) (show (0 : Int) < 26 by decide)
  omega
/-- A text by a number, as bytes. -/
def txS (v : Int) (n : Nat) : ByteArray := ⟨(txL v n).toArray⟩
theorem txS_list (v : Int) (n : Nat) : (txS v n).data.toList = txL v n := rfl
theorem txS_size (v : Int) (n : Nat) : (txS v n).size = n := by
  show (txL v n).toArray.size = n
  rw [List.size_toArray, txL_length]

/-- Bytes as cells. -/
def tcells (T : List UInt8) : List Value := T.map fun b => .int .u8 (b.toNat : Int)
theorem tcells_snoc (T : List UInt8) (b : UInt8) : tcells (T ++ [b]) = tcells T ++ [.int .u8 (b.toNat : Int)] := by simp [tcells]

theorem towns_conv {w : World} {base : Nat} {a : Option Addr} {c : Nat} {T : List UInt8} (h : w.ownsRow base 5 1 (.slice a T.length c) T.length (tcells T)) :
    (convert 46 9 (.slice a T.length c)).run Tryd.prog w = .ok (.string ⟨T.toArray⟩) w := by
  obtain ⟨_, ⟨he, hn⟩ | ⟨g, cap, cur, he, _, hg, _, _, _, ht⟩⟩ := h
  · have hT := List.eq_nil_of_length_eq_zero hn
    subst hT
    cases he
    exact run_convert_bytes_nil (P := Tryd.prog) w 46 5 Tryd.underlying46 Tryd.underlying5 0 0 9 Tryd.underlying9
  · cases he
    refine bin_conv w g 0 c T fun t htl => ?_
    rw [cell_of_row w g _ cur 5 _ hg, Nat.zero_add]
    have e : (tcells T)[t]? = some (.int .u8 (T[t].toNat : Int)) := by simp [tcells, htl]
    rw [← e, ← ht, Nat.mul_one, List.getElem?_take_of_lt htl, Array.getElem?_toList]

set_option maxHeartbeats 2000000 in
/-- Text: its letters. -/
theorem ltext_t (v : Nat) (n : Nat) (w : World) (h2 : v ≤ 1000000) (hn : n ≤ 1000) :
    Calls Tryd.prog 21 #[.int .i64 v, .int .i64 n] w fun e w' => e = .returned (.string (txS v n)) ∧ Below w.heap.size w w' := by
  obtain ⟨i0, hi0, hz0, hz1, hz2⟩ := info_parts Tryd.binfo5
  have HSN := txhid (txL_succ v)
  have HNT := txhid (txB_nat v)
  have HLN := txhid (txL_length v)
  have HFIN : Hid (∀ m, m = n → (⟨(txL v m).toArray⟩ : ByteArray) = txS v n) := fun m h => by rw [h]; rfl
  obtain ⟨TX, hTX⟩ : ∃ TX : Nat → List UInt8, TX = txL v := ⟨_, rfl⟩
  rw [← hTX] at HSN HLN
  have HFIN2 : Hid (∀ m, m = n → (⟨(TX m).toArray⟩ : ByteArray) = txS v n) := by rw [hTX]; exact HFIN
  have HT0 : Hid (TX 0 = []) := by rw [hTX]; rfl
  clear HFIN hTX
  obtain ⟨r, hr⟩ : ∃ r : Nat, (v : Int) % 7 = (r : Int) := ⟨v % 7, by omega⟩
  have hr7 : r < 7 := by omega
  have HR := txhid hr
  clear hr
  rw [HR.out] at HNT
  generalize txS v n = TS at *
  generalize txB (v : Int) = TB at *
  go_enter Tryd.func21, Tryd.ntmps21
  go_wp2_with fail
  go_loopw [5, 6] (fun bv iv wr => ∃ (k : Nat) (av : Option Addr) (cv : Nat), bv = .slice av k cv ∧ iv = .int .i64 k ∧ k ≤ n ∧ Hid (wr.ownsRow w.heap.size 5 1 (.slice av k cv) k (tcells (TX k))) ∧ Hid (Below w.heap.size w wr)) (fun _ iv _ => n - (intOf iv).toNat)
  case atStart => exact ⟨0, none, 0, rfl, rfl, by omega, by show World.ownsRow _ _ _ _ _ _ _; rw [HT0.out]; exact World.ownsRow_nil _ _ _ _, Below.refl _ _⟩
  case round =>
    obtain ⟨k, av, cv, rfl, rfl, hk, HO, HB⟩ := hrel
    by_cases hlt : k < n
    · go_wp2_with fail
      refine (gplace_t v 7 wr (by decide) (by decide)).mono ?_
      rintro e w2 ⟨rfl, rfl⟩
      rw [HR.out]
      obtain ⟨q, hq⟩ : ∃ q : Nat, (k : Int) * (1 + (r : Int)) = (q : Int) := ⟨k * (1 + r), by simp⟩
      have hq2 : q ≤ 7000 := by
        have : k * (1 + r) ≤ 1000 * 7 := Nat.mul_le_mul (by omega) (by omega)
        have e : ((k * (1 + r) : Nat) : Int) = q := by rw [← hq]; simp
        omega
      go_wp2_with fail
      refine (gplace_t ((v : Int) + (q : Int)) 26 wr (by decide) (by decide)).mono ?_
      rintro e w2 ⟨rfl, rfl⟩
      have HBT : Hid (((TB k).toNat : Int) = 97 + ((v : Int) + (q : Int)) % 26) := by
        have := HNT.out k
        rw [hq] at this
        exact this
      obtain ⟨p2, hp2⟩ : ∃ p2 : Nat, ((v : Int) + (q : Int)) % 26 = (p2 : Int) := ⟨(((v : Int) + (q : Int)) % 26).toNat, by omega⟩
      have hp26 : p2 < 26 := by omega
      rw [hp2] at HBT ⊢
      have hb : (97 : Int) + (p2 : Int) = ((TB k).toNat : Int) := HBT.out.symm
      have hb3 : (TB k).toNat ≤ 122 := by omega
      have HS := txhid (HSN.out k)
      have HLk := txhid (HLN.out k)
      generalize TB k = b at *
      have HM1 : Hid (k + 1 ≤ maxLen) := by show k + 1 ≤ maxLen; unfold maxLen; omega
      have HM2 : Hid ((k + 1) * 1 ≤ 140737488355328) := by show (k + 1) * 1 ≤ 140737488355328; omega
      have hbs := HB.out.size
      clear hq hp2 hp26 hq2 HBT HNT
      go_wp2_with (at_builtin; refine wpList_append_lies _ rfl _ _ _ rfl w.heap.size 5 i0 _ 1 1 Tryd.underlying46 hi0 hz0 hz1 hz2 rfl (by omega) (.slice av k cv) k (tcells (TX k)) rfl (HO.out.alloc _) ⟨wr.heap.size, 0, none⟩ 1 1 [.int .u8 (b.toNat : Int)] rfl rfl (World.news_of_block (cs := #[.int .u8 (b.toNat : Int)]) (t := 5) (fr := (0, 0)) (heap_alloc_new wr _)) (by simp [Value.oneCell']) (by omega) HM1.out HM2.out (by simp; omega) (wr.heap.size + 1) (by simp) ?_; intro g' cap' w7 hown7 hgrow7 hat7 hlt7)
      have HB7 : Hid (Below w.heap.size w w7) := (HB.out.alloc hbs _).grown hgrow7 (by simp; omega) (fun q hq => (HO.out.lt q hq).1)
      have HO7 : Hid (w7.ownsRow w.heap.size 5 1 (.slice (some ⟨g', 0, none⟩) (k + 1) cap') (k + 1) (tcells (TX (k + 1)))) := by
        show World.ownsRow _ _ _ _ _ _ _
        rw [HS.out, tcells_snoc]
        exact hown7
      clear hgrow7 hat7 hown7 HO HB HS HLk
      go_wp2_with fail
      exact ⟨⟨k + 1, some ⟨g', 0, none⟩, cap', rfl, by go_num, hlt, HO7, HB7⟩, by simp [intOf]; omega⟩
    · have hkn : k = n := by omega
      subst hkn
      have hcv : (convert 46 9 (.slice av k cv)).run Tryd.prog wr = .ok (.string TS) wr := by
        have h1 := HO.out
        have e : (TX k).length = k := HLN.out k
        rw [← HFIN2.out k rfl]
        have := towns_conv (a := av) (c := cv) (T := TX k) (w := wr) (base := w.heap.size) (by rw [e]; exact h1)
        rw [e] at this
        exact this
      clear HO HFIN2 HNT HSN HLN
      go_wp2_with fail
      go_ret
      exact ⟨rfl, HB.out⟩
end Go.Proofs.YtpgbnfolekanmaaDoor
