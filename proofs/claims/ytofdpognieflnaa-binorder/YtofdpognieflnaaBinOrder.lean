/- The law BinOrder walked. -/
import Derived.Test.YtofdpognieflnaaBinCode
import Derived.BigRegion
import Derived.Deep.QuietTactic
import Derived.BigQuiet
import Derived.Deep.AppendLies
namespace Go.Proofs.Ytofdpognieflnaa
open Go.RowKit

namespace Bin
/-- Numbers, each as its k bytes, one behind the other. -/
def cat (k : Nat) : List Nat → List UInt8
  | [] => []
  | x :: l => low k x ++ cat k l
theorem cat_append (k : Nat) : ∀ a b : List Nat, cat k (a ++ b) = cat k a ++ cat k b
  | [], _ => rfl
  | x :: a, b => by rw [List.cons_append, cat, cat, cat_append k a b, List.append_assoc]
theorem cat_snoc (k : Nat) (a : List Nat) (x : Nat) : cat k (a ++ [x]) = cat k a ++ low k x := by
  rw [cat_append]
  simp [cat]
theorem cat_drop (k : Nat) : ∀ (l : List Nat) (i : Nat) (h : i < l.length), ∃ r, (cat k l).drop (i * k) = low k l[i] ++ r
  | x :: l, 0, _ => ⟨cat k l, by simp [cat]⟩
  | x :: l, i + 1, h => by
    obtain ⟨r, hr⟩ := cat_drop k l i (by simpa using h)
    refine ⟨r, ?_⟩
    rw [cat, Nat.succ_mul, Nat.add_comm, ← List.drop_drop, List.drop_left' (low_length k _), hr]
    simp
end Bin

theorem part_of {s : ByteArray} {a n : Nat} {l r : List UInt8} (h : s.data.toList.drop a = l ++ r) (hn : l.length = n) : part s a n = l := by
  unfold part
  rw [h, List.take_left' hn]

theorem at_of {s : ByteArray} {a : Nat} {b : UInt8} {r : List UInt8} (h : s.data.toList.drop a = b :: r) (ha : a < s.size) : s[a] = b := by
  have e : s.data.toList[a]? = some b := by
    have := congrArg List.head? h
    rw [List.head?_drop] at this
    simpa using this
  have e2 : s.data.toList[a]? = some s[a] := by
    rw [List.getElem?_eq_getElem (by simpa using ha)]
    rfl
  rw [e] at e2
  exact (Option.some.inj e2).symm

theorem order_num {k : Nat} {ms : List Nat} {s : ByteArray} (h : s.data.toList = Bin.cat k ms) (i : Nat) (hi : i < ms.length) (hm : ms[i] < 256 ^ k) : Bin.num (part s (i * k) k) = ms[i] := by
  obtain ⟨r, hr⟩ := Bin.cat_drop k ms i hi
  rw [← h] at hr
  rw [part_of hr (Bin.low_length _ _)]
  have := Bin.num_low k ms[i] (by omega) (by omega)
  omega

theorem order_first {k : Nat} {ms : List Nat} {s : ByteArray} (h : s.data.toList = Bin.cat k ms) (hk : 0 < k) (i : Nat) (hi : i < ms.length) (q : Nat) (hq : q = i * k) (ha : q < s.size) : s[q].toNat = ms[i] % 256 := by
  subst hq
  obtain ⟨r, hr⟩ := Bin.cat_drop k ms i hi
  rw [← h] at hr
  obtain ⟨j, rfl⟩ : ∃ j, k = j + 1 := ⟨k - 1, by omega⟩
  rw [Bin.low, List.cons_append] at hr
  rw [at_of hr ha, Bin.toNat_of _ (by omega)]
  omega

/-- A list of numbers that came in, cut at its length. -/
structure Nums (w : World) (a : Option Addr) (xs : List Int) (b off : Nat) : Prop where
  at' : xs ≠ [] → a = some ⟨b, off, none⟩ ∧ b < w.heap.size
  cell : ∀ t, t < xs.length → w.cell? ⟨b, off + t, none⟩ = some (.int .i64 (xs.getD t 0))

theorem bowns_of_block {w w' : World} {base : Nat} {e : TypeId} {size : Nat} {v : Value} {n : Nat} {xs : List Value} (h : w.ownsRow base e size v n xs)
    (k : ∀ g, v.ownBlock = some g → w'.heap[g]? = w.heap[g]?) : w'.ownsRow base e size v n xs := by
  obtain ⟨hl, ⟨rfl, hn⟩ | ⟨g, cap, cur, rfl, hb, hg, h1, h2, h3, h4⟩⟩ := h
  · exact ⟨hl, .inl ⟨rfl, hn⟩⟩
  · exact ⟨hl, .inr ⟨g, cap, cur, rfl, hb, by rw [k g rfl]; exact hg, h1, h2, h3, h4⟩⟩

theorem bowns_below {w w' : World} {base : Nat} {e : TypeId} {size : Nat} {v : Value} {n : Nat} {xs : List Value} (h : w.ownsRow base e size v n xs) (hb : Below w.heap.size w w') : w'.ownsRow base e size v n xs :=
  bowns_of_block h fun g hg => hb.block g (h.lt g hg).2

theorem Try.binfo3 : (Try.prog.info? 3).map (fun i => (i.zero, i.size, i.bytes)) = some (some (.int .i64 0), 1, 8) := by kernel_rfl

def icells (l : List Nat) : List Value := l.map fun x : Nat => Value.int .i64 (x : Int)
theorem icells_length (l : List Nat) : (icells l).length = l.length := by simp [icells]
theorem icells_snoc (l : List Nat) (x : Nat) : icells (l ++ [x]) = icells l ++ [.int .i64 x] := by simp [icells]

/-- What 8 k - 1 bits hold. -/
def Top (k M : Nat) : Prop := M = 2 ^ (8 * k - 1)
theorem Top.facts {k M : Nat} (h : Top k M) (h1 : 1 ≤ k) (h7 : k ≤ 7) : 0 < M ∧ M ≤ 36028797018963968 ∧ M ≤ 256 ^ k := by
  have hc : k = 1 ∨ k = 2 ∨ k = 3 ∨ k = 4 ∨ k = 5 ∨ k = 6 ∨ k = 7 := by omega
  rw [show M = _ from h]
  rcases hc with rfl | rfl | rfl | rfl | rfl | rfl | rfl <;> decide

theorem Top.shift {k M : Nat} (h : Top k M) (h1 : 1 ≤ k) (h7 : k ≤ 7) : wrap64 (2 ^ (8 * k - 1)) = (M : Int) := by
  have hc : k = 1 ∨ k = 2 ∨ k = 3 ∨ k = 4 ∨ k = 5 ∨ k = 6 ∨ k = 7 := by omega
  rw [show M = _ from h]
  rcases hc with rfl | rfl | rfl | rfl | rfl | rfl | rfl <;> simp [wrap64]

theorem get_end (s : ByteArray) (w : World) (hl : s.size ≤ 9223372036854775807) :
    Calls Try.prog 14 #[.string s, .int .i64 s.size, .int .i64 0] w fun e w' => e = .returned (.tuple #[.int .i64 0, .bool true]) ∧ w = w' := by
  have := get_t s s.size 0 w (by decide) (by omega) hl
  rw [part_zero] at this
  exact this

theorem put_none (k : Nat) (w : World) (hk : 1 ≤ k) : Calls Try.prog 13 #[.int .i64 5, .int .i64 (-(k : Int))] w fun e w' => e = .returned (.string ⟨#[]⟩) ∧ Below w.heap.size w w' :=
  put_t 5 (-(k : Int)) 0 w (by omega) (by decide) (by decide)

theorem put_seven (k : Nat) (w : World) (hk : 1 ≤ k) : Calls Try.prog 13 #[.int .i64 5, .int .i64 (7 + (k : Int))] w fun e w' => (∃ T : ByteArray, e = .returned (.string T) ∧ T.size = 7) ∧ Below w.heap.size w w' :=
  (put_t 5 (7 + (k : Int)) 7 w (by omega) (by decide) (by decide)).mono fun _ _ ⟨he, hw⟩ => ⟨⟨_, he, rfl⟩, hw⟩

theorem bown_at {w : World} {base : Nat} {av : Option Addr} {cv : Nat} {ms : List Nat} (h : w.ownsRow base 3 1 (.slice av ms.length cv) ms.length (icells ms)) (i : Nat) (hi : i < ms.length) :
    ∃ g, av = some ⟨g, 0, none⟩ ∧ w.cell? ⟨g, i, none⟩ = some (.int .i64 (ms[i] : Int)) := by
  obtain ⟨_, ⟨_, hn⟩ | ⟨g, cap, cur, he, _, hg, _, _, _, ht⟩⟩ := h
  · omega
  · cases he
    refine ⟨g, rfl, ?_⟩
    rw [cell_of_row w g i cur 3 _ hg]
    have e : (icells ms)[i]? = some (.int .i64 (ms[i] : Int)) := by simp [icells, hi]
    rw [← e, ← ht, Nat.mul_one, List.getElem?_take_of_lt hi, Array.getElem?_toList]

set_option maxHeartbeats 4000000 in
theorem binOrder_t (a : Option Addr) (xs : List Int) (cap b off : Nat) (n : Int) (w : World) (hx : Nums w a xs b off) (_hl : xs.length ≤ 9223372036854775807) :
    Calls Try.prog 7 #[.slice a xs.length cap, .int .i64 n] w fun e w' => e = .returned (.bool true) ∧ Below w.heap.size w w' := by
  obtain ⟨i0, hi0, hz0, hz1, hz2⟩ := info_parts Try.binfo3
  have HX := binhid hx
  clear hx
  go_enter Try.func7, Try.ntmps7
  go_wp2_with fail
  refine (bplace_t n 7 w (by decide) (by decide)).mono ?_
  rintro e w1 ⟨⟨p, rfl, hp⟩, rfl⟩
  obtain ⟨k, hk⟩ : ∃ k : Nat, 1 + (p : Int) = k := ⟨1 + p, by omega⟩
  have hk1 : 1 ≤ k := by omega
  have hk7 : k ≤ 7 := by omega
  obtain ⟨M, hM⟩ : ∃ M, Top k M := ⟨_, rfl⟩
  have hMf := hM.facts hk1 hk7
  have HM := binhid hM
  have HMf := binhid hMf
  clear hM hMf hp
  go_wp2_with fail
  go_loopw [6, 7, 8] (fun sv mv iv wr => ∃ (ms : List Nat) (S : ByteArray) (av : Option Addr) (cv : Nat), mv = .slice av ms.length cv ∧ iv = .int .i64 ms.length ∧ ms.length ≤ 30 ∧ ms.length ≤ xs.length ∧ sv = .string S ∧ Hid (S.size = k * ms.length) ∧ Hid (S.data.toList = Bin.cat k ms) ∧ Hid (∀ x ∈ ms, x < M) ∧
      Hid (wr.ownsRow w.heap.size 3 1 (.slice av ms.length cv) ms.length (icells ms)) ∧ Hid (Below w.heap.size w wr)) (fun _ _ iv _ => 30 - (intOf iv).toNat)
  case atStart => exact ⟨[], ⟨#[]⟩, none, 0, rfl, rfl, by simp, by simp, rfl, rfl, rfl, fun x hx => (by cases hx), World.ownsRow_nil _ _ _ _, Below.refl _ _⟩
  case round =>
    obtain ⟨ms, S, av, cv, rfl, rfl, h30, hxs, rfl, HS, HC, HA, HO, HB⟩ := hrel
    by_cases hlt : ms.length < xs.length ∧ ms.length < 30
    · have hne : xs ≠ [] := by intro h; rw [h] at hlt; simp at hlt
      obtain ⟨rfl, hbw⟩ := HX.out.at' hne
      have hcell : wr.cell? ⟨b, off + ms.length, none⟩ = some (.int .i64 (xs.getD ms.length 0)) := by
        rw [HB.out.cell (by exact hbw)]
        exact HX.out.cell _ hlt.1
      have hl1 : ms.length < xs.length := hlt.1
      have hl2 : ms.length < 30 := hlt.2
      generalize xs.getD ms.length 0 = x at *
      clear hne hlt
      go_wp2_with fail
      rw [HM.out.shift hk1 hk7]
      refine (bplace_t x M wr (by have := HMf.out.1; omega) (by have := HMf.out.2.1; omega)).mono ?_
      rintro e w2 ⟨⟨v, rfl, hv⟩, rfl⟩
      have hvM : v < M := by omega
      have hv2 : v ≤ 36028797018963968 := by have := HMf.out.2.1; omega
      have HVM := binhid hvM
      have HM1 : Hid (ms.length + 1 ≤ maxLen) := by show ms.length + 1 ≤ maxLen; unfold maxLen; omega
      have HM2 : Hid ((ms.length + 1) * 8 ≤ 140737488355328) := by show (ms.length + 1) * 8 ≤ 140737488355328; omega
      have hbs := HB.out.size
      clear hcell hv hvM
      go_wp2_with (at_builtin; refine wpList_append_lies _ rfl _ _ _ rfl w.heap.size 3 i0 (.int .i64 0) 1 8 Try.underlying32 hi0 hz0 hz1 hz2 rfl (by omega) (.slice av ms.length cv) ms.length (icells ms) rfl (HO.out.alloc _) ⟨wr.heap.size, 0, none⟩ 1 1 [.int .i64 v] rfl rfl (World.news_of_block (cs := #[.int .i64 v]) (t := 3) (fr := (0, 0)) (heap_alloc_new wr _)) (by simp [Value.oneCell']) (by omega) HM1.out HM2.out (by simp; omega) (wr.heap.size + 1) (by simp) ?_; intro g' cap' w7 hown7 hgrow7 hat7 hlt7)
      have HB7 : Hid (Below w.heap.size w w7) := (HB.out.alloc hbs _).grown hgrow7 (by simp; omega) (fun q hq => (HO.out.lt q hq).1)
      have HO7 : Hid (w7.ownsRow w.heap.size 3 1 (.slice (some ⟨g', 0, none⟩) (ms ++ [v]).length cap') (ms ++ [v]).length (icells (ms ++ [v]))) := by
        show World.ownsRow _ _ _ _ _ _ _
        rw [icells_snoc, List.length_append]
        exact hown7
      clear hgrow7 hat7 hown7
      go_wp2_with fail
      refine (put_mid v k w7 hk7 (by omega) (by omega)).mono ?_
      rintro e w8 ⟨rfl, hb8⟩
      have HB8 := binhid (HB7.out.trans (hb8.mono HB7.out.size))
      have HO8 := binhid (bowns_below HO7.out hb8)
      have HS8 : Hid ((S ++ ⟨(Bin.low k v).toArray⟩).size = k * (ms ++ [v]).length) := by
        show _ = _
        rw [ByteArray.size_append, HS.out, List.length_append]
        show k * ms.length + (Bin.low k v).length = _
        rw [Bin.low_length, List.length_singleton, Nat.mul_succ]
      have HC8 : Hid ((S ++ ⟨(Bin.low k v).toArray⟩).data.toList = Bin.cat k (ms ++ [v])) := by
        show _ = _
        rw [Bin.cat_snoc, ← HC.out]
        simp
      have hsz8 : (⟨(Bin.low k v).toArray⟩ : ByteArray).size ≤ 7 := by
        show (Bin.low k v).length ≤ 7
        rw [Bin.low_length]; exact hk7
      have hS2 : S.size ≤ 210 := by
        rw [HS.out]
        exact Nat.mul_le_mul hk7 h30
      have HA8 : Hid (∀ x ∈ ms ++ [v], x < M) := fun x hx => by
        rcases List.mem_append.1 hx with h | h
        · exact HA.out x h
        · rw [List.mem_singleton.1 h]; exact HVM.out
      generalize (⟨(Bin.low k v).toArray⟩ : ByteArray) = T at *
      clear HS HC HA HO HB HB7 HO7 hb8 HVM
      go_wp2_with fail
      exact ⟨⟨ms ++ [v], S ++ T, some ⟨g', 0, none⟩, cap', by rw [List.length_append]; rfl, by rw [List.length_append]; go_num, by rw [List.length_append]; exact hl2, by rw [List.length_append]; exact hl1, rfl, HS8, HC8, HA8, HO8, HB8⟩, by simp [intOf]; omega⟩
    · have hS2 : S.size ≤ 210 := by
        rw [HS.out]
        exact Nat.mul_le_mul hk7 h30
      have hkn : (k : Int) * (ms.length : Int) = (S.size : Int) := by rw [HS.out]; simp
      have HE : (ms.length < xs.length ∧ 30 ≤ ms.length) ∨ xs.length ≤ ms.length := by omega
      clear HX hlt
      rcases HE with ⟨hE1, hE2⟩ | hE
      all_goals
        go_wp2_with fail
        go_loopw [10] (fun iv wq => ∃ i : Nat, iv = .int .i64 i ∧ i ≤ ms.length ∧ Hid (wq.ownsRow w.heap.size 3 1 (.slice av ms.length cv) ms.length (icells ms)) ∧ Hid (Below w.heap.size w wq)) (fun iv _ => ms.length - (intOf iv).toNat)
        case atStart => exact ⟨0, rfl, by omega, HO, HB⟩
        case round =>
          obtain ⟨i, rfl, hi, HO2, HB2⟩ := hrel
          by_cases hlt : i < ms.length
          · obtain ⟨g, rfl, hcell⟩ := bown_at HO2.out i hlt
            have hmul : i * k + k ≤ k * ms.length := by
              rw [← Nat.succ_mul, Nat.mul_comm k]
              exact Nat.mul_le_mul_right k hlt
            have hM2 : ms[i] < 256 ^ k := Nat.lt_of_lt_of_le (HA.out _ (List.getElem_mem hlt)) HMf.out.2.2
            have hN := order_num HC.out i hlt hM2
            obtain ⟨q, hq0⟩ : ∃ q, q = i * k := ⟨_, rfl⟩
            have hq : q + k ≤ S.size := by rw [HS.out, hq0]; exact hmul
            have hq1 : q < S.size := by omega
            have hF := order_first HC.out hk1 i hlt q hq0 hq1
            have hp2 : (i : Int) * (k : Int) = (q : Int) := by rw [hq0]; simp
            rw [← hq0] at hN
            clear hmul hq0
            generalize ms[i] = x at *
            have G := get_t S q k wr hk7 hq (by omega)
            rw [hN] at G
            go_wp2_with fail
            refine G.mono ?_
            rintro e w5 ⟨rfl, rfl⟩
            have hF2 : (S[q].toNat : Int) = (x : Int).tmod 256 := by rw [hF, Int.tmod_eq_emod_of_nonneg (by omega)]; omega
            clear hF hN G HS HC HA HO HB
            go_wp2_with fail
            go_quiet (fail)
            go_wp2_with fail
            exact ⟨⟨i + 1, by go_num, by omega, HO2, ⟨HB2.out.os, HB2.out.tape, HB2.out.output, HB2.out.size, HB2.out.block⟩⟩, by simp [intOf]; omega⟩
          · have hi2 : i = ms.length := by omega
            subst hi2
            clear HS HC HA HO HB HO2
            go_wp2_with fail
            refine (get_no S S.size 1 wr (by omega) (by omega)).mono ?_
            rintro e w5 ⟨rfl, rfl⟩
            go_wp2_with fail
            refine (get_end S wr (by omega)).mono ?_
            rintro e w5 ⟨rfl, rfl⟩
            go_wp2_with fail
            refine (put_none k wr hk1).mono ?_
            rintro e w5 ⟨rfl, hb5⟩
            go_wp2_with fail
            refine (put_seven k w5 hk1).mono ?_
            rintro e w6 ⟨⟨T, rfl, hT⟩, hb6⟩
            go_wp2_with fail
            refine (bawake_t w6).mono ?_
            rintro e w7 ⟨rfl, hb7⟩
            have h5 := HB2.out.trans (hb5.mono HB2.out.size)
            have h6 := h5.trans (hb6.mono h5.size)
            have h7 := h6.trans (hb7.mono h6.size)
            have H7 := binhid h7
            clear h5 h6 h7 hb5 hb6 hb7
            go_wp2_with fail
            go_ret
            exact ⟨rfl, H7.out⟩
end Go.Proofs.Ytofdpognieflnaa
