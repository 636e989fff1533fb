/- Houses by numbers, plainly; they may be. Rows of houses whose segments lie in rows of their own, apart. -/
import Derived.Test.YtdhdjnpgebddmaaTabLimit
import Derived.Test.YtdhdjnpgebddmaaTabGet
namespace Go.Proofs.Ytdhdjnpgebddmaa
open Go.RowKit Tab

/-! ### Plainly -/
def mdStep (v : Int) : Int := 1 + v / 7 % 3
def mdSegs (n d : Int) (j : Nat) : List Int := (List.range j).map fun (k : Nat) => n + ((k : Int) + 1) * d
def mdHouse (v n : Int) : Ho := if v % 3 = 0 then ⟨0, v % 65536, Lm.z, []⟩ else ⟨1 + v % 2, 1 + v % 65535, limOf v, mdSegs n (mdStep v) (8 + v % 4).toNat⟩
def mdNext (v n : Int) : Int := if v % 3 = 0 then n else n + (8 + v % 4) * mdStep v
def mv (xs : List Int) (i : Nat) : Int := xs.getD i 0 % 1048576
def nx (xs : List Int) : Nat → Int
  | 0 => 0
  | i + 1 => mdNext (mv xs i) (nx xs i)
def mh (xs : List Int) (i : Nat) : Ho := mdHouse (mv xs i) (nx xs i)
def mdOne (xs : List Int) (c t : Nat) : Ho := if t < c then mh xs t else Ho.z
def mdL (xs : List Int) (c : Nat) : List Ho := (List.range 16).map (mdOne xs c)

theorem mdStep_is (v : Int) : mdStep v = 1 ∨ mdStep v = 2 ∨ mdStep v = 3 := by unfold mdStep; omega
theorem mdNext_le (v n : Int) : n ≤ mdNext v n ∧ mdNext v n ≤ n + 33 := by
  unfold mdNext
  split
  · omega
  · rcases mdStep_is v with h | h | h <;> rw [h] <;> omega
theorem nx_bounds (xs : List Int) : ∀ i, 0 ≤ nx xs i ∧ nx xs i ≤ 33 * (i : Int)
  | 0 => by simp [nx]
  | i + 1 => by
    have h := nx_bounds xs i
    have h2 := mdNext_le (mv xs i) (nx xs i)
    simp only [nx]
    omega
theorem nx_mono (xs : List Int) {i : Nat} : ∀ {j : Nat}, i ≤ j → nx xs i ≤ nx xs j
  | 0, h => by
    have : i = 0 := by omega
    subst this
    exact Int.le_refl _
  | j + 1, h => by
    rcases Nat.lt_or_ge i (j + 1) with h' | h'
    · exact Int.le_trans (nx_mono xs (Nat.lt_succ_iff.1 h')) (mdNext_le _ _).1
    · have : i = j + 1 := by omega
      subst this
      exact Int.le_refl _
theorem mdSegs_length (n d : Int) (j : Nat) : (mdSegs n d j).length = j := by simp [mdSegs]
theorem mdSegs_succ (n d : Int) (j : Nat) : mdSegs n d (j + 1) = mdSegs n d j ++ [n + ((j : Int) + 1) * d] := by simp [mdSegs, List.range_succ]
theorem mdSegs_mem {n d x : Int} {j : Nat} (hd : 0 < d) (hx : x ∈ mdSegs n d j) : n < x ∧ x ≤ n + (j : Int) * d := by
  obtain ⟨k, hk, rfl⟩ := List.mem_map.1 hx
  have hk' : k < j := List.mem_range.1 hk
  have h1 : 0 < ((k : Int) + 1) * d := Int.mul_pos (by omega) hd
  have h2 : ((k : Int) + 1) * d ≤ (j : Int) * d := Int.mul_le_mul_of_nonneg_right (by omega) (by omega)
  omega
theorem mdSegs_lt {n d : Int} (hd : 0 < d) (j : Nat) : (mdSegs n d j).Pairwise (· < ·) := by
  unfold mdSegs
  rw [List.pairwise_map]
  refine List.pairwise_lt_range.imp fun {a b} h => ?_
  have := Int.mul_lt_mul_of_pos_right (show (a : Int) + 1 < (b : Int) + 1 by omega) hd
  omega
theorem rises_of {n : Int} : ∀ (l : List Int) (least : Int), l.Pairwise (· < ·) → (∀ x ∈ l, least ≤ x ∧ x < n) → rises n least l = true
  | [], _, _, _ => rfl
  | a :: r, least, hp, hb => by
    rw [List.pairwise_cons] at hp
    rw [rises, rises_of r (a + 1) hp.2 (fun x hx => ⟨by have := hp.1 x hx; omega, (hb x (by simp [hx])).2⟩), decide_eq_true (hb a (by simp))]
    rfl
theorem mh_segs {xs : List Int} {i : Nat} {x : Int} (hx : x ∈ (mh xs i).segs) : nx xs i < x ∧ x ≤ nx xs (i + 1) := by
  simp only [mh, mdHouse] at hx
  simp only [nx, mdNext]
  split at hx
  · cases hx
  · next h =>
    have hd : 0 < mdStep (mv xs i) := by rcases mdStep_is (mv xs i) with h | h | h <;> omega
    have := mdSegs_mem hd hx
    rw [if_neg h]
    have e : (((8 + mv xs i % 4).toNat : Nat) : Int) = 8 + mv xs i % 4 := by omega
    rw [e] at this
    exact this
theorem mh_lt (xs : List Int) (i : Nat) : (mh xs i).segs.Pairwise (· < ·) := by
  simp only [mh, mdHouse]
  split
  · exact List.Pairwise.nil
  · exact mdSegs_lt (by rcases mdStep_is (mv xs i) with h | h | h <;> omega) _
theorem mh_may (xs : List Int) {i : Nat} (hi : i < 16) : houseB 65536 (mh xs i) = true := by
  have hb := nx_bounds xs i
  have hb2 := nx_bounds xs (i + 1)
  have hr : rises 65536 0 (mh xs i).segs = true := rises_of _ _ (mh_lt xs i) (fun x hx => by
    have := mh_segs hx
    omega)
  have h20 : 0 ≤ mv xs i := Int.emod_nonneg _ (by decide)
  unfold houseB
  revert hr
  simp only [mh, mdHouse]
  split
  · next h =>
    intro _
    have e1 : inB 0 0 2 = true := rfl
    have e2 : inB (mv xs i % 65536) 0 65535 = true := inB_yes (by omega) (by omega)
    simp [e1, e2, zeroB]
  · next h =>
    intro hr
    have e1 : inB (1 + mv xs i % 2) 0 2 = true := inB_yes (by omega) (by omega)
    have e2 : inB (1 + mv xs i % 65535) 0 65535 = true := inB_yes (by omega) (by omega)
    have e3 : ¬ (1 + mv xs i % 2 = 0) := by omega
    have e4 : decide (0 < 1 + mv xs i % 65535) = true := decide_eq_true (by omega)
    have e5 : decide ((((mdSegs (nx xs i) (mdStep (mv xs i)) (8 + mv xs i % 4).toNat).length : Nat) : Int) = (limOf (mv xs i)).s) = true := by
      rw [mdSegs_length]
      exact decide_eq_true (by show _ = 8 + mv xs i % 4; omega)
    rw [e1, e2, if_neg e3, e4, limOf_may, e5, hr]
    rfl
theorem mdOne_may (xs : List Int) (c t : Nat) (ht : t < 16) : houseB 65536 (mdOne xs c t) = true := by
  unfold mdOne
  split
  · exact mh_may xs ht
  · rfl
theorem mdL_length (xs : List Int) (c : Nat) : (mdL xs c).length = 16 := by simp [mdL]
theorem mdL_get (xs : List Int) (c t : Nat) (h : t < (mdL xs c).length) : (mdL xs c)[t] = mdOne xs c t := by simp [mdL]
theorem mdOne_segs {xs : List Int} {c t : Nat} {x : Int} (hx : x ∈ (mdOne xs c t).segs) : nx xs t < x ∧ x ≤ nx xs (t + 1) := by
  unfold mdOne at hx
  split at hx
  · exact mh_segs hx
  · cases hx
theorem mdOne_lt (xs : List Int) (c t : Nat) : (mdOne xs c t).segs.Pairwise (· < ·) := by
  unfold mdOne
  split
  · exact mh_lt xs t
  · exact List.Pairwise.nil
theorem mdL_lt (xs : List Int) (c : Nat) : (allSegs (mdL xs c)).Pairwise (· < ·) := by
  unfold allSegs mdL
  rw [List.flatMap_map, List.pairwise_flatMap]
  refine ⟨fun t _ => mdOne_lt xs c t, List.pairwise_lt_range.imp fun {a b} h => ?_⟩
  intro x hx y hy
  have h1 := mdOne_segs hx
  have h2 := mdOne_segs hy
  have h3 := nx_mono xs (show a + 1 ≤ b by omega)
  omega
theorem mdL_check (xs : List Int) (c : Nat) : checkB 65536 (mdL xs c) = true := by
  have h1 : (mdL xs c).all (houseB 65536) = true := by
    rw [List.all_eq_true]
    intro x hx
    obtain ⟨t, ht, rfl⟩ := List.mem_map.1 hx
    exact mdOne_may xs c t (List.mem_range.1 ht)
  have h2 : apartB (mdL xs c) = true := decide_eq_true ((mdL_lt xs c).imp (fun h => by omega))
  unfold checkB
  rw [mdL_length, h1, h2]
  rfl
theorem mdL_put (xs : List Int) (c : Nat) {num : Int} (h0 : 0 ≤ num) (h1 : num ≤ 1099511627776) : putB num (mdL xs c) = true := by
  unfold putB
  rw [inB_yes h0 h1, mdL_check]
  rfl
theorem mdL_zero (xs : List Int) : mdL xs 0 = zero16 := by
  apply List.ext_getElem
  · simp [mdL, zero16]
  · intro i h1 h2
    rw [mdL_get]
    rw [show zero16[i] = Ho.z from List.getElem_replicate ..]
    rfl
theorem mdL_succ (xs : List Int) (i : Nat) : mdL xs (i + 1) = (mdL xs i).set i (mh xs i) := by
  apply List.ext_getElem
  · simp [mdL]
  · intro t h1 h2
    rw [List.getElem_set, mdL_get]
    split
    · next h => subst h; simp [mdOne]
    · next h =>
      rw [mdL_get]
      unfold mdOne
      have e : (t < i + 1) ↔ (t < i) := by omega
      simp only [e]
theorem mdL_segs (xs : List Int) (c : Nat) : ∀ x ∈ mdL xs c, x.segs.length ≤ 40 := fun x hx => checkB_segs (mdL_check xs c) x hx

/-- A segment that two houses have makes the table none. -/
theorem shared_no {n : Int} {l : List Ho} {i j : Nat} (hi : i < l.length) (hj : j < l.length) (hij : i < j) {x : Int} (h1 : x ∈ l[i].segs) (h2 : x ∈ l[j].segs) : checkB n l = false := by
  have : apartB l = false := by
    refine decide_eq_false fun hn => ?_
    unfold allSegs at hn
    rw [List.Nodup, List.pairwise_flatMap] at hn
    have := List.pairwise_iff_getElem.1 hn.2 i j hi hj hij
    exact this x h1 x h2 rfl
  unfold checkB
  rw [this, Bool.and_false]

/-! ### Rows -/
theorem own_same {w w' : World} {base : Nat} {e : TypeId} {size : Nat} {v : Value} {n : Nat} {xs : List Value} (h : w.ownsRow base e size v n xs) (k : ∀ g, v.ownBlock = some g → w'.heap[g]? = w.heap[g]?) : w'.ownsRow base e size v n xs := by
  obtain ⟨h1, h2⟩ := h
  refine ⟨h1, ?_⟩
  rcases h2 with h2 | ⟨g, cap, cur, rfl, hg, hh, r⟩
  · exact Or.inl h2
  · exact Or.inr ⟨g, cap, cur, rfl, hg, by rw [k g rfl]; exact hh, r⟩
theorem own_lt {w : World} {base : Nat} {e : TypeId} {size : Nat} {v : Value} {n : Nat} {xs : List Value} (h : w.ownsRow base e size v n xs) {g : Nat} (hg : v.ownBlock = some g) : base ≤ g ∧ g < w.heap.size := by
  rcases h.2 with ⟨rfl, _⟩ | ⟨g', cap, cur, rfl, hb, hh, _⟩
  · simp [Value.ownBlock] at hg
  · simp only [Value.ownBlock, Option.some.injEq] at hg
    subst hg
    exact ⟨hb, (Array.getElem?_eq_some_iff.1 hh).1⟩

/-- A row of houses, their segments each in a row of its own. -/
structure MRow (w : World) (B : Nat) (L : List (Ho × Value)) : Prop where
  row : HRow w B L
  own : ∀ p ∈ L, w.ownsRow (B + 1) 3 1 p.2 p.1.segs.length (icells p.1.segs)
  apart : ∀ i j (hi : i < L.length) (hj : j < L.length), i ≠ j → ∀ g, L[i].2.ownBlock = some g → L[j].2.ownBlock ≠ some g

/-- Numbers that a row of one's own holds. -/
theorem ints_owns {w : World} {base : Nat} {v : Value} {l : List Int} (h : w.ownsRow base 3 1 v l.length (icells l)) : Ints w v l := by
  rcases h.2 with ⟨rfl, h0⟩ | ⟨g, cap, cur, rfl, hbg, hg, hle, hmx, hcs, htk⟩
  · exact ⟨none, 0, by rw [h0], fun _ => rfl, fun h => by omega⟩
  · refine ⟨some ⟨g, 0, none⟩, cap, rfl, (fun h => by cases h), fun _ => ⟨g, 0, rfl, (Array.getElem?_eq_some_iff.1 hg).1, fun j hj => ?_⟩⟩
    rw [cell_of_row w g _ cur 3 _ hg, Nat.zero_add, ← icells_get l j hj, ← htk, Nat.mul_one, List.getElem?_take_of_lt hj, Array.getElem?_toList]
theorem MRow.ints {w : World} {B : Nat} {L : List (Ho × Value)} (h : MRow w B L) : ∀ p ∈ L, Ints w p.2 p.1.segs := fun p hp => ints_owns (h.own p hp)
theorem MRow.on {w w' : World} {B : Nat} {L : List (Ho × Value)} (h : MRow w B L) (k : Below w.heap.size w w') : MRow w' B L :=
  ⟨h.row.on k, fun p hp => own_same (h.own p hp) (fun _ hg => k.block _ (own_lt (h.own p hp) hg).2), h.apart⟩
theorem MRow.same {w w' : World} {B : Nat} {L : List (Ho × Value)} (h : MRow w B L) (k : ∀ g, g < w.heap.size → w'.heap[g]? = w.heap[g]?) : MRow w' B L :=
  ⟨by unfold HRow; rw [k B h.row.lt]; exact h.row, fun p hp => own_same (h.own p hp) (fun g hg => k g (own_lt (h.own p hp) hg).2), h.apart⟩
theorem MRow.new (w : World) : MRow (w.alloc (.cells none16c 42)) w.heap.size none16 := by
  refine ⟨none16_row w, fun p hp => ?_, fun i j hi hj _ g hg => ?_⟩
  · rw [List.eq_of_mem_replicate hp]
    exact ⟨rfl, .inl ⟨rfl, rfl⟩⟩
  · rw [show none16[i] = (Ho.z, .slice none 0 0) from List.getElem_replicate ..] at hg
    simp [Value.ownBlock] at hg

theorem mem_set_getElem {α : Type} {l : List α} {k : Nat} {q p : α} (h : p ∈ l.set k q) : (∃ t, ∃ ht : t < l.length, t ≠ k ∧ p = l[t]) ∨ p = q := by
  obtain ⟨t, ht, rfl⟩ := List.getElem_of_mem h
  rw [List.getElem_set]
  split
  · exact .inr rfl
  · next hne => exact .inl ⟨t, by simpa using ht, fun e => hne e.symm, rfl⟩

/-- One house turned; its segments' slice is another one, or as it was. -/
theorem MRow.turn {w w' : World} {B : Nat} {L : List (Ho × Value)} (h : MRow w B L) (k : Nat) (_hk : k < L.length) (q : Ho × Value) (hr : HRow w' B (L.set k q))
    (ho : w'.ownsRow (B + 1) 3 1 q.2 q.1.segs.length (icells q.1.segs))
    (hs : ∀ t (ht : t < L.length), t ≠ k → ∀ g, L[t].2.ownBlock = some g → w'.heap[g]? = w.heap[g]? ∧ q.2.ownBlock ≠ some g) : MRow w' B (L.set k q) := by
  refine ⟨hr, fun p hp => ?_, fun i j hi hj hij g hg => ?_⟩
  · rcases mem_set_getElem hp with ⟨t, ht, hne, rfl⟩ | rfl
    · exact own_same (h.own _ (List.getElem_mem ht)) (fun g hg => (hs t ht hne g hg).1)
    · exact ho
  · have hi' : i < L.length := by simpa using hi
    have hj' : j < L.length := by simpa using hj
    rw [List.getElem_set] at hg ⊢
    split at hg
    · next e =>
      subst e
      rw [if_neg hij]
      intro hc
      exact (hs j hj' (Ne.symm hij) g hc).2 hg
    · next e =>
      split
      · next e2 => exact (hs i hi' (fun x => e x.symm) g hg).2
      · exact h.apart i j hi' hj' hij g hg

/-- A field of one house turned. -/
theorem MRow.field {w : World} {B : Nat} {L : List (Ho × Value)} (h : MRow w B L) (k r : Nat) (u : Value) (q : Ho × Value) (hk : k < L.length) (hr : r < 10) (hp : (houseCells q.1 q.2).toList = (houseCells L[k].1 L[k].2).toList.set r u) (h1 : q.1.segs = L[k].1.segs) (h2 : q.2 = L[k].2) : MRow (w.setCell ⟨B, k * 10 + r, none⟩ u) B (L.set k q) := by
  have hne : ∀ (v : Value) (n : Nat) (xs : List Value), w.ownsRow (B + 1) 3 1 v n xs → ∀ g, v.ownBlock = some g → (w.setCell ⟨B, k * 10 + r, none⟩ u).heap[g]? = w.heap[g]? := fun v n xs ho g hg => by
    have := (own_lt ho hg).1
    exact Below.heap_setCell _ _ _ _ (by show g ≠ B; omega)
  refine h.turn k hk q (h.row.set k r u q hk hr hp) ?_ ?_
  · rw [h1, h2]
    exact own_same (h.own _ (List.getElem_mem hk)) (hne _ _ _ (h.own _ (List.getElem_mem hk)))
  · intro t ht hne2 g hg
    refine ⟨hne _ _ _ (h.own _ (List.getElem_mem ht)) g hg, ?_⟩
    rw [h2]
    exact h.apart t k ht hk hne2 g hg

/-- A number more behind one house's segments. -/
theorem MRow.step {w2 w7 : World} {B i g cap : Nat} {L : List (Ho × Value)} {y : Int} {q : Ho} {n : Nat} (hM : MRow w2 B L) (hi : i < L.length)
    (hgrow : (w2.alloc (.cells #[.int .i64 y] 3)).grownBy w7 L[i].2.ownBlock)
    (hown : w7.ownsRow (B + 1) 3 1 (.slice (some ⟨g, 0, none⟩) n cap) n (icells q.segs)) (hn : n = q.segs.length)
    (hg : L[i].2.ownBlock = some g ∨ g = w2.heap.size + 1)
    (hq : (houseCells q (.slice (some ⟨g, 0, none⟩) n cap)).toList = (houseCells L[i].1 L[i].2).toList.set 9 (.slice (some ⟨g, 0, none⟩) n cap)) :
    MRow (w7.setCell ⟨B, i * 10 + 9, none⟩ (.slice (some ⟨g, 0, none⟩) n cap)) B (L.set i (q, .slice (some ⟨g, 0, none⟩) n cap)) := by
  have hBl := hM.row.lt
  have hBo : L[i].2.ownBlock ≠ some B := fun h => by
    have := (own_lt (hM.own _ (List.getElem_mem hi)) h).1
    omega
  have hR7 : HRow w7 B L := by
    unfold HRow
    rw [hgrow.block _ (by simp; omega) (Ne.symm hBo), Below.heap_alloc _ _ _ hBl]
    exact hM.row
  refine hM.turn i hi _ (hR7.set i 9 _ _ hi (by decide) hq) ?_ ?_
  · have := ownsRow_setCell_below hown (a := ⟨B, i * 10 + 9, none⟩) (by show B < B + 1; omega) (.slice (some ⟨g, 0, none⟩) n cap)
    rw [← hn]
    exact this
  · intro t ht hne g' hg'
    have hb := own_lt (hM.own _ (List.getElem_mem ht)) hg'
    have hap := hM.apart t i ht hi hne g' hg'
    refine ⟨?_, ?_⟩
    · rw [Below.heap_setCell _ _ _ _ (by show g' ≠ B; omega), hgrow.block _ (by simp; omega) (Ne.symm hap), Below.heap_alloc _ _ _ hb.2]
    · intro hc
      simp only [Value.ownBlock, Option.some.injEq] at hc
      rcases hg with hg | hg
      · exact hap (by rw [hg, hc])
      · omega
end Go.Proofs.Ytdhdjnpgebddmaa
