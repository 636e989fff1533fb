/- The law LeafPlaces walked: names put at places by numbers: found there, the first empty place, trimmed to whole blocks. -/
import Derived.Test.YtpgbnfolekanmaaDoorLeafBack
import Derived.Test.YtpgbnfolekanmaaDoorLeafPlPlain
import Derived.Test.YtpgbnfolekanmaaDoorLeafApp
import Derived.Lib.MinMax
namespace Go.Proofs.YtpgbnfolekanmaaDoor
open Go.RowKit Lf

/-- Where a list of numbers lies. -/
def Ints (w : World) (a : Option Addr) (xs : List Int) : Prop :=
  xs = [] ∨ ∃ bk o, a = some ⟨bk, o, none⟩ ∧ bk < w.heap.size ∧ ∀ (j : Nat) y, xs[j]? = some y → w.cell? ⟨bk, o + j, none⟩ = some (.int .i64 y) ∧ (Lit.int .i64 y).wf = true
theorem Ints.some_ {w : World} {a : Option Addr} {xs : List Int} (h : Ints w a xs) {i : Nat} (hi : i < xs.length) :
    ∃ bk o y, a = some ⟨bk, o, none⟩ ∧ bk < w.heap.size ∧ w.cell? ⟨bk, o + i, none⟩ = some (.int .i64 y) := by
  rcases h with h | ⟨bk, o, e, hk, hc⟩
  · rw [h] at hi
    simp at hi
  · exact ⟨bk, o, xs[i], e, hk, (hc i _ (List.getElem?_eq_getElem hi)).1⟩

theorem zero40 (w : World) : (zeroValue 37).run Tryd.prog w = .ok (.agg (brow (fun _ => false))) w := by kernel_rfl

set_option maxRecDepth 10000 in
set_option maxHeartbeats 8000000 in
theorem leafPlaces_t (a : Option Addr) (n c : Nat) (xs : List Int) (w : World) (hn : xs.length = n) (hX : Ints w a xs) :
    Calls Tryd.prog 5 #[.slice a n c] w fun e w' => e = .returned (.bool true) ∧ Below w.heap.size w w' := by
  have hmk : (Instr.makeSlice 22 (.int .i64 40) (.int .i64 40)).run Tryd.prog w = .ok (.slice (some ⟨w.heap.size, 0, none⟩) 40 40) (w.alloc (.cells (ncells (List.replicate 40 z)).toArray 41)) := nmake 40 (by decide) w
  have HR0 : Hid (NRow (w.alloc (.cells (ncells (List.replicate 40 z)).toArray 41)) w.heap.size (pl (fun _ => false))) := by
    show NRow _ _ _
    rw [pl_none]
    exact nmake_row 40 w
  generalize (ncells (List.replicate 40 z)).toArray = R at *
  have hz40 := zero40
  obtain ⟨B0, hB0⟩ : ∃ B0, B0 = brow (fun _ => false) := ⟨_, rfl⟩
  have HB0 := lfhid hB0
  rw [← hB0] at hz40
  clear hB0
  have AW := lfhid awake_t
  have HX := lfhid hX
  have HN := lfhid hn
  have TX1 : Hid (∀ (k : Nat) w1, k < 40 → Calls Tryd.prog 21 #[.int .i64 (k : Int), .int .i64 3] w1 fun e w' => e = .returned (.string (txS k 3)) ∧ Below w1.heap.size w1 w') := fun k w1 h => ltext_t k 3 w1 (by omega) (by decide)
  have TX2 : Hid (∀ (k : Nat) w1, k < 40 → Calls Tryd.prog 21 #[.int .i64 ((k : Int) / 26), .int .i64 2] w1 fun e w' => e = .returned (.string (txS (k / 26 : Nat) 2)) ∧ Below w1.heap.size w1 w') := fun k w1 h => by
    have := ltext_t (k / 26) 2 w1 (by omega) (by decide)
    have e : ((k / 26 : Nat) : Int) = (k : Int) / 26 := by omega
    rw [e] at this ⊢
    exact this
  have HPS := lfhid pl_set
  have HPL := lfhid pl_length
  clear hX hn
  go_enter Tryd.func5, Tryd.ntmps5
  go_wp2_with fail
  generalize hW : World.alloc (World.alloc w _) _ = W
  have HRW : Hid (NRow W w.heap.size (pl (fun _ => false))) := by
    rw [← hW]
    exact HR0.out.on ((Below.refl _ _).alloc (Nat.le_refl _) _)
  have HIW : Hid (W.heap[w.heap.size + 1]? = some (.cells (brow (fun _ => false)) 37 (0, 0))) := by
    rw [← hW, ← HB0.out]
    have e : ∀ o, w.heap.size + 1 = (w.alloc o).heap.size := fun o => by simp
    rw [e]
    exact heap_alloc_new _ _
  have HBW : Hid (Below w.heap.size w W) := by rw [← hW]; exact ((Below.refl _ w).alloc (Nat.le_refl _) _).alloc (by simp) _
  clear hW HR0 hmk hz40
  go_loopw [5] (fun iv wr => ∃ (i : Nat) (b : Nat → Bool), iv = .int .i64 i ∧ i ≤ 30 ∧ Hid (NRow wr w.heap.size (pl b)) ∧ Hid (wr.heap[w.heap.size + 1]? = some (.cells (brow b) 37 (0, 0))) ∧ Hid (Below w.heap.size w wr)) (fun iv _ => 30 - (intOf iv).toNat)
  case atStart => exact ⟨0, fun _ => false, rfl, by omega, HRW, HIW, HBW⟩
  case round =>
    obtain ⟨i, b, rfl, hi, HR, HI, HB⟩ := hrel
    clear HRW HIW HBW
    by_cases hin : i < n ∧ i < 30
    · obtain ⟨hin1, hin2⟩ := hin
      obtain ⟨bk, o, y, rfl, hbk, hy0⟩ := HX.out.some_ (show i < xs.length by rw [HN.out]; exact hin1)
      have hy : wr.cell? ⟨bk, o + i, none⟩ = some (.int .i64 y) := by rw [HB.out.cell hbk]; exact hy0
      clear hy0
      go_wp2_with fail
      refine (gplace_t y 40 wr (by decide) (by decide)).mono ?_
      rintro e w1 ⟨rfl, rfl⟩
      obtain ⟨k, hk⟩ : ∃ k : Nat, y % 40 = (k : Int) := ⟨(y % 40).toNat, by omega⟩
      have hk40 : k < 40 := by omega
      rw [hk]
      clear hk hy
      have T1 := lfhid (fun w1 => TX1.out k w1 hk40)
      have T2 := lfhid (fun w1 => TX2.out k w1 hk40)
      have z1 : (txS (k : Int) 3).size = 3 := txS_size _ _
      have z2 : (txS ((k / 26 : Nat) : Int) 2).size = 2 := txS_size _ _
      have HNM : Hid ((pf k).name = ⟨#[110]⟩ ++ txS (k : Int) 3 ++ txS ((k / 26 : Nat) : Int) 2) := rfl
      have HND : Hid ((pf k).node = 1 + (k : Int)) := rfl
      generalize txS (k : Int) 3 = X1 at *
      generalize txS ((k / 26 : Nat) : Int) 2 = X2 at *
      clear TX1 TX2 AW
      go_wp2_with fail
      refine (T1.out wr).mono ?_
      rintro e w2 ⟨rfl, hb2⟩
      have HR2 := lfhid (HR.out.on hb2)
      have HI2 : Hid (w2.heap[w.heap.size + 1]? = some (.cells (brow b) 37 (0, 0))) := (hb2.block _ (Array.getElem?_eq_some_iff.1 HI.out).1).trans HI.out
      have HB2 : Hid (Below w.heap.size w w2) := HB.out.trans (hb2.mono HB.out.size)
      clear hb2 HR HI HB T1
      go_wp2_with fail
      refine (T2.out w2).mono ?_
      rintro e w3 ⟨rfl, hb3⟩
      have HR3 : Hid (NRow w3 w.heap.size (pl b)) := HR2.out.on hb3
      have HI3 : Hid (w3.heap[w.heap.size + 1]? = some (.cells (brow b) 37 (0, 0))) := (hb3.block _ (Array.getElem?_eq_some_iff.1 HI2.out).1).trans HI2.out
      have HB3 : Hid (Below w.heap.size w w3) := HB2.out.trans (hb3.mono HB2.out.size)
      clear hb3 HR2 HI2 HB2 T2
      have hlen : k < (pl b).length := by rw [HPL.out]; exact hk40
      have c0 := HR3.out.name k hlen
      have c1 := HR3.out.node k hlen
      have f0 := HR3.out.frozen (k * 2)
      have f1 := HR3.out.frozen (k * 2 + 1)
      have HP4 := lfhid (HR3.out.put k (pf k) hlen)
      rw [HPS.out, HNM.out, HND.out] at HP4
      have HI4 : Hid (((w3.setCell ⟨w.heap.size, k * 2, none⟩ (.string (⟨#[110]⟩ ++ X1 ++ X2))).setCell ⟨w.heap.size, k * 2 + 1, none⟩ (.int .i64 (1 + (k : Int)))).heap[w.heap.size + 1]? = some (.cells (brow b) 37 (0, 0))) := by
        show _ = _
        rw [heap_setCell_other _ _ _ _ (by simp), heap_setCell_other _ _ _ _ (by simp)]
        exact HI3.out
      have g0 : ((w3.setCell ⟨w.heap.size, k * 2, none⟩ (.string (⟨#[110]⟩ ++ X1 ++ X2))).setCell ⟨w.heap.size, k * 2 + 1, none⟩ (.int .i64 (1 + (k : Int)))).cell? ⟨w.heap.size + 1, k, none⟩ = some (.bool (b k)) := by
        rw [cell_of_row _ _ _ _ _ _ HI4.out]
        exact brow_get b k hk40
      have g1 := frozen_of_row _ (w.heap.size + 1) k _ _ HI4.out
      have HI5 : Hid ((((w3.setCell ⟨w.heap.size, k * 2, none⟩ (.string (⟨#[110]⟩ ++ X1 ++ X2))).setCell ⟨w.heap.size, k * 2 + 1, none⟩ (.int .i64 (1 + (k : Int)))).setCell ⟨w.heap.size + 1, k, none⟩ (.bool true)).heap[w.heap.size + 1]? = some (.cells (brow (putB1 b k)) 37 (0, 0))) := by
        show _ = _
        rw [heap_setCell_same _ _ k _ _ _ HI4.out, brow_set b k hk40]
      have HR5 : Hid (NRow (((w3.setCell ⟨w.heap.size, k * 2, none⟩ (.string (⟨#[110]⟩ ++ X1 ++ X2))).setCell ⟨w.heap.size, k * 2 + 1, none⟩ (.int .i64 (1 + (k : Int)))).setCell ⟨w.heap.size + 1, k, none⟩ (.bool true)) w.heap.size (pl (putB1 b k))) := HP4.out.other (by simp) _
      have HB5 : Hid (Below w.heap.size w (((w3.setCell ⟨w.heap.size, k * 2, none⟩ (.string (⟨#[110]⟩ ++ X1 ++ X2))).setCell ⟨w.heap.size, k * 2 + 1, none⟩ (.int .i64 (1 + (k : Int)))).setCell ⟨w.heap.size + 1, k, none⟩ (.bool true))) := ((HB3.out.setCell (Nat.le_refl _) _).setCell (Nat.le_refl _) _).setCell (by simp) _
      generalize (pl b)[k] = y0 at *
      generalize b k = bk0 at *
      clear HR3 HI3 HB3 HP4 HI4 hlen HNM HND
      go_wp2_with fail
      exact ⟨⟨i + 1, putB1 b k, by go_num, by omega, HR5, HI5, HB5⟩, by simp [intOf]; omega⟩
    · have hcs : (i < n ∧ 30 ≤ i) ∨ n ≤ i := by omega
      clear hin TX1 TX2 HPS
      rcases hcs with ⟨h1, h2⟩ | h1
      all_goals
        go_wp2_with fail
        have HF0 := lfhid (FirstF.start b)
        have HL0 := lfhid (LastF.start b)
        go_loopw [7, 8, 9] (fun fv tv kv wx => ∃ m f t : Nat, kv = .int .i64 ((m : Int) - 1) ∧ m ≤ 40 ∧ fv = .int .i64 f ∧ tv = .int .i64 t ∧ t ≤ 40 ∧ Hid (FirstF b m f) ∧ Hid (LastF b m t) ∧ wr = wx) (fun _ _ kv _ => (intOf kv + 1).toNat)
        case atStart => exact ⟨40, 40, 0, by go_num, by omega, rfl, rfl, by omega, HF0, HL0, rfl⟩
        case round =>
          obtain ⟨m, f, t, rfl, hm, rfl, rfl, ht40, HF, HL, rfl⟩ := hrel
          clear HF0 HL0
          by_cases h0 : 0 < m
          · obtain ⟨j, hj⟩ : ∃ j, m = j + 1 := ⟨m - 1, by omega⟩
            subst hj
            have hj40 : j < 40 := by omega
            have ej : (((j + 1 : Nat) : Int) - 1) = (j : Int) := by omega
            have g0 : wr.cell? ⟨w.heap.size + 1, j, none⟩ = some (.bool (b j)) := by
              rw [cell_of_row _ _ _ _ _ _ HI.out]
              exact brow_get b j hj40
            rw [ej]
            clear ej
            cases hb : b j
            · have HF2 := lfhid (FirstF.no hj40 hb)
              have HL2 := lfhid (HL.out.no hb)
              rw [hb] at g0
              clear HF HL hb
              go_wp2_with fail
              exact ⟨⟨j, j, t, rfl, by omega, rfl, rfl, ht40, HF2, HL2, trivial⟩, by simp [intOf]⟩
            · have HF2 := lfhid (HF.out.yes hb)
              have HL2 := lfhid (HL.out.yes hj40 hb)
              have hmx : max (t : Int) ((j : Int) + 1) = ((max t (j + 1) : Nat) : Int) := by omega
              have hmx4 : max t (j + 1) ≤ 40 := by omega
              rw [hb] at g0
              generalize max t (j + 1) = t' at *
              clear HF HL hb
              go_wp2_with fail
              exact ⟨⟨j, f, t', rfl, by omega, rfl, rfl, hmx4, HF2, HL2, trivial⟩, by simp [intOf]⟩
          · have hm0 : m = 0 := by omega
            subst hm0
            have HNW : Hid (Nams wr (.slice (some ⟨w.heap.size, 0, none⟩) 40 40) (pl b)) := by
              have := HR.out.nams (cap := 40) (by rw [pl_length]; exact Nat.le_refl _)
              rw [pl_length] at this
              exact this
            have TRIM := lfhid (fun v w1 (h : Nams w1 v (pl b)) => trim_t v (pl b) t w1 h (by rw [pl_length]; decide) HL.out.lst)
            have FREE := lfhid (fun v w1 (h : Nams w1 v (pl b)) => free_t v (pl b) w1 h (by rw [pl_length]; decide))
            rw [HF.out.free] at FREE
            obtain ⟨D, hD⟩ : ∃ D, (t + 7) / 8 = D := ⟨_, rfl⟩
            have hD5 : D ≤ 5 := by omega
            obtain ⟨L, hL⟩ : ∃ L, D * 8 = L := ⟨_, rfl⟩
            have HTL : Hid ((trimTo (pl b) t).length = L) := by
              show _ = _
              rw [trimTo_length (by rw [pl_length]; exact ht40), hD, hL]
            have HPC : Hid (∀ q, q < D → ((trimTo (pl b) t).drop (8 * q)).take 8 = pc b q) := fun q hq => pc_trim HL.out (by rw [hD]; omega)
            have hLE : ((t : Int) + 7) / 8 * 8 = (L : Int) := by omega
            have hLD : (L : Int) / 8 = (D : Int) := by omega
            have hL40 : L ≤ 40 := by omega
            have HLD : Hid (L = D * 8) := hL.symm
            clear hD hL HF HL
            generalize trimTo (pl b) t = TL at *
            obtain ⟨BL, hBL⟩ : ∃ BL : World → Prop, BL = fun wx => Below wr.heap.size wr wx := ⟨_, rfl⟩
            have BLT : Hid (∀ x y, BL x → Below x.heap.size x y → BL y) := fun x y h1 h2 => by
              subst hBL
              exact h1.trans (h2.mono h1.size)
            have BLD : Hid (∀ x m, BL x → BL (World.drewN x m)) := fun x m h1 => by
              subst hBL
              exact ⟨h1.os, h1.tape, h1.output, h1.size, h1.block⟩
            have BLK : Hid (∀ x, BL x → NRow x w.heap.size (pl b) ∧ x.heap[w.heap.size + 1]? = some (.cells (brow b) 37 (0, 0)) ∧ Below w.heap.size w x) := fun x h1 => by
              subst hBL
              exact ⟨HR.out.on h1, (h1.block _ (Array.getElem?_eq_some_iff.1 HI.out).1).trans HI.out, HB.out.trans (h1.mono HB.out.size)⟩
            have BLN : Hid (∀ x, BL x → Nams x (.slice (some ⟨w.heap.size, 0, none⟩) 40 40) (pl b)) := fun x h1 => by
              subst hBL
              exact HNW.out.on h1
            have BLS : Hid (∀ x, Below wr.heap.size wr x → BL x) := fun x h1 => by
              subst hBL
              exact h1
            clear hBL HR HI HB HX HN
            go_wp2_with (first | (refine wpList_append_nams rfl _ _ rfl wr.heap.size _ [] rfl (NOwn.nil _ _) _ (pl b) rfl HNW.out ?_ (Nat.le_refl _) ?_) | fail)
            · rw [pl_length]
              decide
            intro v2 w2 HO2 HB2 hs2
            try rw [List.nil_append] at HO2
            have HN2 := lfhid HO2.out.nams
            have HL2 := lfhid (BLS.out _ HB2.out)
            clear HO2 HB2 hs2 HNW BLS
            go_wp2_with fail
            refine (TRIM.out _ _ HN2.out).mono ?_
            rintro e w3 ⟨ad3, cap3, rfl, hx, hb⟩
            rw [HTL.out] at hx ⊢
            have HX3 := lfhid hx
            have HL3 := lfhid (BLT.out _ _ HL2.out hb)
            clear hx hb HN2 HL2 TRIM
            go_wp2_with fail
            refine (FREE.out _ _ (BLN.out _ HL3.out)).mono ?_
            rintro e w4 ⟨rfl, hb⟩
            have HX4 := lfhid (HX3.out.on hb)
            have HL4 := lfhid (BLT.out _ _ HL3.out hb)
            have hcap : L ≤ cap3 := by
              obtain ⟨_, _, hv, _, hcp, _⟩ := HX4.out
              cases hv
              rw [HTL.out] at hcp
              exact hcp
            clear hb HX3 HL3 FREE
            have PUT : Hid (∀ q v w1, q < 5 → Nams w1 v (pc b q) → Calls Tryd.prog 9 #[v] w1 fun e w' => e = .returned (.tuple #[.string (putS (pc b q)), .bool true]) ∧ Below w1.heap.size w1 w') := fun q v w1 hq h => by
              have := put_t11 v (pc b q) w1 h (by rw [pc_length hq]; decide)
              rw [pc_ok hq] at this
              exact this
            have GET : Hid (∀ q w1, q < 5 → Calls Tryd.prog 11 #[.string (putS (pc b q))] w1 fun e w' => ∃ ad cap, e = .returned (.tuple #[.slice ad 8 cap, .bool true]) ∧ Nams w' (.slice ad 8 cap) (pc b q) ∧ Below w1.heap.size w1 w') := fun q w1 hq => by
              have := get_t11 (putS (pc b q)) w1
              have hg := back_got (pc_ok (b := b) hq)
              rw [hg.1, hg.2, pc_length hq] at this
              exact this
            have FIND : Hid (∀ v w1 s, Nams w1 v (pl b) → Calls Tryd.prog 13 #[v, .string s] w1 fun e w' => e = .returned (.tuple #[.int .i64 (findI (pl b) s : Nat), .bool (findB (pl b) s)]) ∧ Below w1.heap.size w1 w') := fun v w1 s h => find_t v (pl b) s w1 h (by rw [pl_length]; decide)
            go_wp2_with fail
            go_loopw [11] (fun qv wx => ∃ q : Nat, qv = .int .i64 q ∧ q ≤ D ∧ Hid (BL wx) ∧ Hid (Nams wx (.slice ad3 L cap3) TL)) (fun qv _ => 5 - (intOf qv).toNat)
            case atStart => exact ⟨0, rfl, Nat.zero_le _, HL4, HX4⟩
            case round =>
              obtain ⟨q, rfl, hq, HL, HX⟩ := hrel
              clear HL4 HX4
              by_cases hqD : q < D
              · have hq5 : q < 5 := by omega
                obtain ⟨A, hA⟩ : ∃ A, 8 * q = A := ⟨_, rfl⟩
                have hAi : (8 : Int) * (q : Int) = (A : Int) := by omega
                have hAL : A + 8 ≤ L := by have := HLD.out; omega
                have hTL : 0 < TL.length := by rw [HTL.out]; omega
                obtain ⟨bb, oo, rfl, -, -, -⟩ := HX.out.at hTL
                have HS : Hid (Nams wr (.slice (some ⟨bb, oo + A * 2, none⟩) 8 (cap3 - A)) (pc b q)) := by
                  have := HX.out.sub A 8 (by rw [HTL.out]; omega)
                  rw [← hA, HPC.out q hqD, hA] at this
                  exact this
                have hAc : A + 8 ≤ cap3 := by omega
                have PQ := lfhid (fun v w1 => PUT.out q v w1 hq5)
                have GQ := lfhid (fun w1 => GET.out q w1 hq5)
                have HPG : Hid (∀ k, (h : k < (pc b q).length) → (h2 : A + k < (pl b).length) → (pc b q)[k] = (pl b)[A + k]) := fun k h h2 => by
                  subst hA
                  exact pc_get h h2
                have HPQ : Hid ((pc b q).length = 8) := pc_length hq5
                clear hA hTL PUT GET
                generalize putS (pc b q) = PS at *
                go_wp2_with fail
                refine (PQ.out _ wr HS.out).mono ?_
                rintro e w5 ⟨rfl, hb⟩
                have HL5 := lfhid (BLT.out _ _ HL.out hb)
                have HX5 := lfhid (HX.out.on hb)
                clear hb HL HX HS PQ
                go_wp2_with fail
                refine (GQ.out w5).mono ?_
                rintro e w6 ⟨ad6, cap6, rfl, hg, hb⟩
                have HG6 := lfhid hg
                have HL6 := lfhid (BLT.out _ _ HL5.out hb)
                have HX6 := lfhid (HX5.out.on hb)
                clear hg hb HL5 HX5 GQ
                go_wp2_with fail
                go_loopw [16] (fun kv wx => ∃ k m : Nat, kv = .int .i64 k ∧ k ≤ 8 ∧ wx = w6.drewN m) (fun kv _ => 8 - (intOf kv).toNat)
                case atStart => exact ⟨0, 0, rfl, Nat.zero_le _, rfl⟩
                case round =>
                  obtain ⟨k, m, rfl, hk, rfl⟩ := hrel
                  by_cases hk8 : k < 8
                  · have hkl : k < (pc b q).length := by rw [HPQ.out]; exact hk8
                    have hAk : A + k < (pl b).length := by rw [pl_length]; omega
                    obtain ⟨b6, o6, rfl, _, d0, d1⟩ := HG6.out.at hkl
                    have c0 := (BLK.out _ HL6.out).1.name (A + k) hAk
                    have c1 := (BLK.out _ HL6.out).1.node (A + k) hAk
                    rw [← HPG.out k hkl hAk] at c0 c1
                    generalize (pc b q)[k] = y at *
                    obtain ⟨nm, nd⟩ := y
                    obtain ⟨Q, hQ⟩ : ∃ Q, A + k = Q := ⟨_, rfl⟩
                    rw [hQ] at c0 c1
                    have hQi : (A : Int) + (k : Int) = (Q : Int) := by omega
                    have hQw : IntKind.i64.wrap ((A : Int) + (k : Int)) = (Q : Int) := by rw [hQi]; rw [IntKind.wrap_i64]; omega
                    have hAw : IntKind.i64.wrap ((8 : Int) * (q : Int)) = (A : Int) := by rw [hAi]; rw [IntKind.wrap_i64]; omega
                    have k0 : (0 : Int) ≤ (k : Int) := by omega
                    have k1 : (k : Int) < 8 := by omega
                    have Q0 : (0 : Int) ≤ (Q : Int) := by omega
                    have Q1 : (Q : Int) < 40 := by omega
                    clear HPG FIND hkl hAk hQ
                    go_wp2_with fail
                    go_quiet (fail)
                    go_wp2_with fail
                    exact ⟨⟨k + 1, _, by go_num, by omega, rfl⟩, by simp [intOf]; omega⟩
                  · have hk8' : k = 8 := by omega
                    have HL7 := lfhid (BLD.out _ m HL6.out)
                    have HX7 : Hid (Nams (w6.drewN m) (.slice (some ⟨bb, oo, none⟩) L cap3) TL) := HX6.out.on ⟨rfl, rfl, rfl, Nat.le_refl _, fun _ _ => rfl⟩
                    clear HPG FIND HG6 HX6 HL6
                    go_wp2_with fail
                    exact ⟨⟨q + 1, by go_num, by omega, HL7, HX7⟩, by simp [intOf]; omega⟩
              · have hqe : q = D := by omega
                clear PUT GET HPC HX hqD
                subst hqe
                go_wp2_with fail
                go_loopw [17] (fun kv wx => ∃ k : Nat, kv = .int .i64 k ∧ k ≤ 40 ∧ Hid (BL wx)) (fun kv _ => 40 - (intOf kv).toNat)
                case atStart => exact ⟨0, rfl, Nat.zero_le _, HL⟩
                case round =>
                  obtain ⟨k, rfl, hk, HL⟩ := hrel
                  by_cases hk4 : k < 40
                  · have hkl : k < (pl b).length := by rw [pl_length]; exact hk4
                    have c0 := (BLK.out _ HL.out).1.name k hkl
                    have HPF := lfhid (pl_find hkl)
                    have HNM := lfhid (BLN.out _ HL.out)
                    generalize (pl b)[k].name = nm at *
                    have FI := lfhid (fun w1 h => FIND.out (.slice (some ⟨w.heap.size, 0, none⟩) 40 40) w1 nm h)
                    generalize findI (pl b) nm = fi at *
                    generalize findB (pl b) nm = fb at *
                    clear FIND hkl
                    go_wp2_with fail
                    refine (FI.out _ HNM.out).mono ?_
                    rintro e w5 ⟨rfl, hb5⟩
                    have HL5 := lfhid (BLT.out _ _ HL.out hb5)
                    have g0 : w5.cell? ⟨w.heap.size + 1, k, none⟩ = some (.bool (b k)) := by
                      rw [cell_of_row _ _ _ _ _ _ (BLK.out _ HL5.out).2.1]
                      exact brow_get b k hk4
                    clear hb5 HNM HL FI c0
                    cases hb : b k
                    · rw [hb] at HPF g0
                      have hfb : fb = false := HPF.out.1
                      subst hfb
                      clear HPF hb
                      go_wp2_with fail
                      exact ⟨⟨k + 1, by go_num, by omega, HL5⟩, by simp [intOf]; omega⟩
                    · rw [hb] at HPF g0
                      have hfb : fb = true := HPF.out.1
                      have hfi : fi = k := HPF.out.2 rfl
                      subst hfb
                      subst hfi
                      clear HPF hb
                      go_wp2_with fail
                      exact ⟨⟨fi + 1, by go_num, by omega, HL5⟩, by simp [intOf]; omega⟩
                  · clear FIND
                    go_wp2_with fail
                    refine (AW.out _).mono ?_
                    rintro e w5 ⟨rfl, hb5⟩
                    have HB5 : Hid (Below w.heap.size w w5) := (BLK.out _ HL.out).2.2.trans (hb5.mono (BLK.out _ HL.out).2.2.size)
                    clear hb5
                    go_wp2_with fail
                    go_ret
                    exact ⟨rfl, HB5.out⟩
end Go.Proofs.YtpgbnfolekanmaaDoor
