/- The law GeomApart walked: each sector is one thing's: the table's, a slot, a segment's block, or nothing's. -/
import Derived.Test.YtnglimdapkhjbaaGeomMore
namespace Go.Proofs.Ytnglimdapkhjbaa
open Go.RowKit

/-- Start, and the two cells of a geometry that lies there, kept. -/
theorem start_with {S G k q : Int} (h : GeomOk S G) (h0 : 0 ≤ k) (hk : k < (S - 48) / G) (hq : k * G = q) (hq0 : 0 ≤ q) (hq1 : q ≤ 16384) (w : World) (b : Nat) (c0 : w.cell? ⟨b, 0, none⟩ = some (.int .i64 S)) (c1 : w.cell? ⟨b, 1, none⟩ = some (.int .i64 G)) :
    Calls Try.prog 8 #[geomV S G, .int .i64 k] w fun e w' => e = .returned (.int .i64 (48 + q)) ∧ Hid (Below w.heap.size w w') ∧ w'.cell? ⟨b, 0, none⟩ = some (.int .i64 S) ∧ w'.cell? ⟨b, 1, none⟩ = some (.int .i64 G) :=
  (start_yes S G k q w h h0 hk hq hq0 hq1).mono fun _ _ ⟨he, hb⟩ => ⟨he, hb, by rw [hb.cell (block_lt_of_cell c0)]; exact c0, by rw [hb.cell (block_lt_of_cell c1)]; exact c1⟩

/-- At of Start and a block, as the region says it. -/
theorem at_with {S G p n t i j : Int} (HC : SegsSaid S G n) (hG : 0 < G) (hG2 : G ≤ 64) (ht : i * G = t) (hp : n * G = p) (hp0 : p ≤ 16384) (hi : 0 ≤ t) (hj : 0 ≤ j) (hj2 : j < G) (h2 : t + j < p) (w : World) (b : Nat) (c0 : w.cell? ⟨b, 0, none⟩ = some (.int .i64 S)) (c1 : w.cell? ⟨b, 1, none⟩ = some (.int .i64 G)) :
    Calls Try.prog 7 #[geomV S G, .int .i64 (IntKind.i64.wrap (48 + t + j))] w fun e w' => e = .returned (.tuple #[.int .i64 i, .int .i64 j, .bool true]) ∧ Hid (Below w.heap.size w w') ∧ w'.cell? ⟨b, 0, none⟩ = some (.int .i64 S) ∧ w'.cell? ⟨b, 1, none⟩ = some (.int .i64 G) := by
  rw [gwrap _ (by omega) (by omega)]
  have e1 : (48 + t + j - 48) / G = i := by
    rw [show 48 + t + j - 48 = j + i * G by omega, Int.add_mul_ediv_right _ _ (by omega), Int.ediv_eq_zero_of_lt hj hj2]
    omega
  have e2 : (48 + t + j - 48) % G = j := by
    rw [show 48 + t + j - 48 = j + i * G by omega, Int.add_mul_emod_self_right, Int.emod_eq_of_lt hj hj2]
  have := at_yes S G (48 + t + j) p n w HC hG hG2 (by omega) hp hp0 (by omega)
  rw [e1, e2] at this
  exact this.mono fun _ _ ⟨he, hb⟩ => ⟨he, hb, by rw [hb.cell (block_lt_of_cell c0)]; exact c0, by rw [hb.cell (block_lt_of_cell c1)]; exact c1⟩

/-- The houses' slots that were seen: those below a sector. -/
def seenRow (k : Nat) : Array Value := ((List.range 64).map fun x => Value.bool (decide (16 ≤ x) && decide (x < k))).toArray

theorem seenRow_get (k x : Nat) (hx : x < 64) : (seenRow k)[x]? = some (.bool (decide (16 ≤ x) && decide (x < k))) := by
  simp [seenRow, List.getElem?_range hx]

theorem seenRow_size (k : Nat) : (seenRow k).size = 64 := by simp [seenRow]

theorem seenRow_set (k : Nat) (h1 : 16 ≤ k) (h2 : k < 64) : (seenRow k).setIfInBounds k (.bool true) = seenRow (k + 1) := by
  apply Array.ext_getElem?
  intro x
  by_cases hx : x < 64
  · by_cases e : k = x
    · subst e
      rw [Array.getElem?_setIfInBounds_self_of_lt (by rw [seenRow_size]; exact h2), seenRow_get _ _ hx]
      simp [h1]
    · rw [Array.getElem?_setIfInBounds_ne e, seenRow_get _ _ hx, seenRow_get _ _ hx]
      have : (x < k + 1) = (x < k) := by simp; omega
      simp [this]
  · rw [Array.getElem?_eq_none (by simp [seenRow_size]; omega), Array.getElem?_eq_none (by simp [seenRow_size]; omega)]

/-- A store into another block. -/
theorem Kept.set {b : Nat} {S G : Int} {w w1 : World} (h : Kept b S G w w1) (B k : Nat) (v : Value) (hB : b ≠ B) (hw : w.heap.size ≤ B) : Kept b S G w (w1.setCell ⟨B, k, none⟩ v) :=
  ⟨by rw [World.cell?_setCell_other _ _ _ _ (by intro e; simp only [Addr.mk.injEq] at e; exact hB e.1.symm)]; exact h.c0, by rw [World.cell?_setCell_other _ _ _ _ (by intro e; simp only [Addr.mk.injEq] at e; exact hB e.1.symm)]; exact h.c1, h.below.setCell (by exact hw) _⟩

set_option maxRecDepth 10000 in
set_option maxHeartbeats 4000000 in
theorem geomApart_w (a0 a1 a2 a3 n m i j p t : Int) (w : World) (hn : 8 + a0 % 30 = n) (hm : 32 + a1 % 33 = m) (hi : a2 % n = i) (hj : a3 % m = j) (hp : n * m = p) (ht : i * m = t) :
    Calls Try.prog 3 #[.int .i64 a0, .int .i64 a1, .int .i64 a2, .int .i64 a3] w fun e w' => e = .returned (.bool true) ∧ Below w.heap.size w w' := by
  obtain ⟨u, hu⟩ : ∃ u, a0 % 30 = u := ⟨_, rfl⟩
  obtain ⟨v, hv⟩ : ∃ v, a1 % 33 = v := ⟨_, rfl⟩
  rw [hu] at hn
  rw [hv] at hm
  have hn1 : 8 ≤ n := by omega
  have hn2 : n ≤ 37 := by omega
  have hm1 : 32 ≤ m := by omega
  have hm2 : m ≤ 64 := by omega
  have hi1 : 0 ≤ i := by rw [← hi]; exact Int.emod_nonneg _ (by omega)
  have hi2 : i < n := by rw [← hi]; exact Int.emod_lt_of_pos _ (by omega)
  have hj1 : 0 ≤ j := by rw [← hj]; exact Int.emod_nonneg _ (by omega)
  have hj2 : j < m := by rw [← hj]; exact Int.emod_lt_of_pos _ (by omega)
  have hp1 : 8 * m ≤ p := by rw [← hp]; exact Int.mul_le_mul_of_nonneg_right hn1 (by omega)
  have hp2 : p ≤ 37 * 64 := by rw [← hp]; exact Int.mul_le_mul hn2 hm2 (by omega) (by decide)
  have ht1 : 0 ≤ t := by rw [← ht]; exact Int.mul_nonneg hi1 (by omega)
  have ht2 : t + m ≤ p := by
    rw [← ht, ← hp]
    have := Int.mul_le_mul_of_nonneg_right (show i + 1 ≤ n by omega) (show 0 ≤ m by omega)
    rw [Int.add_mul, Int.one_mul] at this
    exact this
  have P1 := geomhid fun w => gplace_t a0 30 w (by decide) (by decide)
  have P2 := geomhid fun w => gplace_t a1 33 w (by decide) (by decide)
  have P3 := geomhid fun w => gplace_t a3 m w (by omega) (by omega)
  have P4 := geomhid fun w => gplace_t a2 n w (by omega) (by omega)
  rw [hu] at P1
  rw [hv] at P2
  rw [hj] at P3
  rw [hi] at P4
  clear hu hv hi hj
  obtain ⟨S, hS⟩ : ∃ S, 48 + p + j = S := ⟨_, rfl⟩
  have hok : GeomOk S m := by unfold GeomOk; omega
  have hdiv : (S - 48) / m = n := by
    rw [show S - 48 = j + n * m by omega, Int.add_mul_ediv_right _ _ (by omega), Int.ediv_eq_zero_of_lt hj1 hj2]
    omega
  have HS := geomhid (segsSaid_of hok hdiv)
  have HK := geomhid (And.intro hok hdiv)
  have C1 := geomhid fun w => at_before S m (47 - j) p n w HS.out hp (by omega) (by omega) (by omega)
  have C2 := geomhid fun w => at_behind S m (48 + p + j) p n w HS.out hp (by omega) (by omega) (by omega)
  rw [hS] at C2
  have C3 := geomhid fun w => check_yes S m w hok
  have C4 := geomhid fun w => start_behind S m n w hok (by omega)
  have C5 := geomhid fun w => start_less S m (-1) w (by decide)
  have HT := geomhid ht
  clear hok hdiv ht
  go_enter Try.func3, Try.ntmps3
  go_wp2_with fail
  refine (P1.out _).mono ?_
  rintro e w1 ⟨rfl, rfl⟩
  clear P1
  go_wp2_with fail
  refine (P2.out _).mono ?_
  rintro e w1 ⟨rfl, rfl⟩
  clear P2
  go_wp2_with fail
  refine (P3.out _).mono ?_
  rintro e w1 ⟨rfl, rfl⟩
  go_wp2_with fail
  refine (P4.out _).mono ?_
  rintro e w1 ⟨rfl, rfl⟩
  clear P4
  go_wp2_with fail
  refine (P3.out _).mono ?_
  rintro e w1 ⟨rfl, rfl⟩
  clear P3
  go_wp2_with fail
  have KK := geomhid (Kept.new S m w)
  generalize w.alloc (.cells #[.int .i64 S, .int .i64 m] 24) = W at *
  have c0 := KK.out.c0
  have c1 := KK.out.c1
  go_cut [14, 15, 16] (fun v1 v2 v3 wc => v1 = .int .i64 i ∧ v2 = .int .i64 j ∧ v3 = .bool true ∧ Hid (Kept w.heap.size S m w wc))
  case first =>
    have HF := geomhid (And.intro (And.intro hi1 hi2) (And.intro (And.intro hj1 hj2) (And.intro (And.intro hm1 hm2) (And.intro (And.intro ht1 ht2) (And.intro hp hp2)))))
    clear hn hm hn1 hn2 hm1 hm2 hi1 hi2 hj1 hj2 hp1 hp2 ht1 ht2 hp hS C1 C2 C3 C4 C5
    go_region_held3 (fun w' => w'.cell? ⟨w.heap.size, 0, none⟩ = some (.int .i64 S) ∧ w'.cell? ⟨w.heap.size, 1, none⟩ = some (.int .i64 m)) (go_keep)
      (first
        | (go_at_call 8; refine (start_with HK.out.1 HF.out.1.1 (by rw [HK.out.2]; exact HF.out.1.2) HT.out HF.out.2.2.2.1.1 (by have := HF.out; omega) _ w.heap.size ?_ ?_).mono ?_; (first | assumption | simp [*]); (first | assumption | simp [*]); rintro e w1 ⟨rfl, hb1, hc1, hc2⟩)
        | (go_at_call 7; refine (at_with HS.out (by have := HF.out; omega) (by have := HF.out; omega) HT.out HF.out.2.2.2.2.1 (by have := HF.out; omega) (by have := HF.out; omega) (by have := HF.out; omega) (by have := HF.out; omega) (by have := HF.out; omega) _ w.heap.size ?_ ?_).mono ?_; (first | assumption | simp [*]); (first | assumption | simp [*]); rintro e w2 ⟨rfl, hb2, hc3, hc4⟩))
    go_wp2_with fail
    go_meet
    case rel => exact ⟨rfl, rfl, rfl, geomhid ((KK.out.drew.on hb1.out).on hb2.out)⟩
  case rest =>
    obtain ⟨rfl, rfl, rfl, KK⟩ := hcut
    clear c0 c1 HK HT
    have c0 := KK.out.c0
    have c1 := KK.out.c1
    go_wp2_with fail
    refine (C1.out _).mono ?_
    rintro e w1 ⟨rfl, hb⟩
    replace KK := geomhid (KK.out.on hb)
    clear hb c0 c1 C1
    have c0 := KK.out.c0
    have c1 := KK.out.c1
    go_wp2_with fail
    refine (C2.out _).mono ?_
    rintro e w1 ⟨rfl, hb⟩
    replace KK := geomhid (KK.out.on hb)
    clear hb c0 c1 C2
    have c0 := KK.out.c0
    have c1 := KK.out.c1
    go_wp2_with fail
    refine (C3.out _).mono ?_
    rintro e w1 ⟨rfl, hb⟩
    replace KK := geomhid (KK.out.on hb)
    clear hb c0 c1 C3
    have c0 := KK.out.c0
    have c1 := KK.out.c1
    go_wp2_with fail
    refine (HS.out _).mono ?_
    rintro e w1 ⟨rfl, hb⟩
    replace KK := geomhid (KK.out.on hb)
    clear hb c0 c1 HS
    have c0 := KK.out.c0
    have c1 := KK.out.c1
    go_wp2_with fail
    have hB := KK.out.below.size
    have HR : Hid ((w1.alloc (.cells (seenRow 16) 30)).heap[w1.heap.size]? = some (.cells (seenRow 16) 30 (0, 0))) := heap_alloc_new _ _
    have hgb : w.heap.size < w1.heap.size := block_lt_of_cell c0
    replace KK : Hid (Kept w.heap.size S m w (w1.alloc (.cells (seenRow 16) 30))) := geomhid (KK.out.on ((Below.refl _ w1).alloc (Nat.le_refl _) _))
    clear c0 c1 hB
    change Code.wp _ _ _ _ (w1.alloc (.cells (seenRow 16) 30))
    generalize w1.alloc (.cells (seenRow 16) 30) = W2 at *
    generalize w1.heap.size = B at *
    have HF := geomhid (And.intro hn (And.intro hm (And.intro hn1 (And.intro hn2 (And.intro hm1 (And.intro hm2 (And.intro hS (And.intro hp hp1))))))))
    clear hn hm hn1 hn2 hm1 hm2 hi1 hi2 hj1 hj2 hp1 hp2 ht1 ht2 hp hS
    go_loopw [24] (fun hv wr => ∃ h : Nat, 1 ≤ h ∧ h ≤ 17 ∧ hv = .int .i64 h ∧ Hid (wr.heap[B]? = some (.cells (seenRow (14 + 2 * h)) 30 (0, 0))) ∧ Hid (Kept w.heap.size S m w wr)) (fun hv _ => 17 - (intOf hv).toNat)
    case atStart => exact ⟨1, by omega, by omega, rfl, HR, KK⟩
    case round =>
      obtain ⟨h, h1, h2, rfl, HR, KK⟩ := hrel
      by_cases hlt : h ≤ 16
      · have hlt' : (h : Int) ≤ 16 := by omega
        go_wp2_with fail
        go_loopw [25] (fun cv wq => ∃ c : Nat, c ≤ 2 ∧ cv = .int .i64 c ∧ Hid (wq.heap[B]? = some (.cells (seenRow (14 + 2 * h + c)) 30 (0, 0))) ∧ Hid (Kept w.heap.size S m w wq)) (fun cv _ => 2 - (intOf cv).toNat)
        case atStart => exact ⟨0, by omega, rfl, HR, KK⟩
        case round =>
          obtain ⟨c, hc, rfl, HR2, KK2⟩ := hrel
          by_cases hc2 : c < 2
          · obtain ⟨q, hq⟩ : ∃ q : Nat, q = 14 + 2 * h + c := ⟨_, rfl⟩
            have hq1 : 16 ≤ q := by omega
            have hq2 : q < 48 := by omega
            rw [← hq] at HR2
            have M := slotAt_yes (h : Int) (c : Int) wr (by omega) (by omega) (by omega) (by omega)
            rw [show (14 : Int) + 2 * h + c = (q : Int) by omega] at M
            have hcell : wr.cell? ⟨B, q, none⟩ = some (.bool false) := by
              rw [cell_of_row wr _ _ _ 30 _ HR2.out, seenRow_get _ _ (by omega)]
              simp
            have hfr := frozen_of_row wr B q _ 30 HR2.out
            have HQ := geomhid (And.intro hq (seenRow_set q hq1 (by omega)))
            have hc2' : (c : Int) < 2 := by omega
            clear hq
            go_wp2_with fail
            refine M.mono ?_
            rintro e w5 ⟨rfl, rfl⟩
            clear M
            go_wp2_with fail
            refine ⟨⟨c + 1, by omega, by go_num, ?_, KK2.out.set B q _ (by omega) (by omega)⟩, by simp [intOf]; omega⟩
            show _ = _
            rw [heap_setCell_same wr B q _ 30 _ HR2.out, HQ.out.2, HQ.out.1]
            rfl
          · have e : c = 2 := by omega
            subst e
            go_wp2_with fail
            exact ⟨⟨h + 1, by omega, by omega, by go_num, HR2, KK2⟩, by simp [intOf]; omega⟩
      · have e : h = 17 := by omega
        subst e
        have c0 := KK.out.c0
        have c1 := KK.out.c1
        go_wp2_with fail
        refine (C4.out _).mono ?_
        rintro e w5 ⟨rfl, hb⟩
        replace KK := geomhid (KK.out.on hb)
        clear hb c0 c1
        have c0 := KK.out.c0
        have c1 := KK.out.c1
        go_wp2_with fail
        refine (C5.out _).mono ?_
        rintro e w6 ⟨rfl, hb⟩
        replace KK := geomhid (KK.out.on hb)
        clear hb c0 c1
        go_wp2_with fail
        refine (gawake_t _).mono ?_
        rintro e w7 ⟨rfl, hb⟩
        replace KK := geomhid (KK.out.on hb)
        clear hb
        go_wp2_with fail
        go_ret
        exact ⟨rfl, KK.out.below⟩

theorem geomApart_t (a0 a1 a2 a3 : Int) (w : World) :
    Calls Try.prog 3 #[.int .i64 a0, .int .i64 a1, .int .i64 a2, .int .i64 a3] w fun e w' => e = .returned (.bool true) ∧ Below w.heap.size w w' :=
  geomApart_w a0 a1 a2 a3 _ _ _ _ _ _ w rfl rfl rfl rfl rfl rfl
end Go.Proofs.Ytnglimdapkhjbaa
