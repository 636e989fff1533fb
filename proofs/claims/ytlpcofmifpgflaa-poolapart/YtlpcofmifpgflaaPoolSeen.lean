/- Segments that were seen: two hundred bools in a block; what is taken from the free ones. -/
import Derived.Test.YtlpcofmifpgflaaPoolRow
import Derived.Test.YtlpcofmifpgflaaPoolEvery
namespace Go.Proofs.Ytlpcofmifpgflaa
open Go.RowKit Pool

/-- Which of the first two hundred are seen. -/
def seenC (P : Int → Bool) : Array Value := ((List.range 200).map fun (i : Nat) => Value.bool (P (i : Int))).toArray
theorem seenC_size (P : Int → Bool) : (seenC P).size = 200 := by simp [seenC]
theorem seenC_get (P : Int → Bool) (x : Nat) (hx : x < 200) : (seenC P)[x]? = some (.bool (P (x : Int))) := by simp [seenC, List.getElem?_range hx]
theorem seenC_set (P : Int → Bool) (k : Nat) (hk : k < 200) : (seenC P).setIfInBounds k (.bool true) = seenC (fun s => P s || (s == (k : Int))) := by
  apply Array.ext_getElem?
  intro x
  by_cases hx : x < 200
  · by_cases e : k = x
    · subst e
      rw [Array.getElem?_setIfInBounds_self_of_lt (by rw [seenC_size]; exact hk), seenC_get _ _ hx]
      simp
    · have e2 : ((x : Int) == (k : Int)) = false := beq_eq_false_iff_ne.2 (by omega)
      rw [Array.getElem?_setIfInBounds_ne e, seenC_get _ _ hx, seenC_get _ _ hx, e2, Bool.or_false]
  · rw [Array.getElem?_eq_none (by simp [seenC_size]; omega), Array.getElem?_eq_none (by simp [seenC_size]; omega)]
theorem seenC_same {P Q : Int → Bool} (h : ∀ s, P s = Q s) : seenC P = seenC Q := by rw [funext h]

/-- One's own block of them. -/
def Seen (w : World) (b : Nat) (P : Int → Bool) : Prop := w.heap[b]? = some (.cells (seenC P) 32 (0, 0))
theorem Seen.lt {w : World} {b : Nat} {P : Int → Bool} (h : Seen w b P) : b < w.heap.size := (Array.getElem?_eq_some_iff.1 h).1
theorem Seen.on {w w' : World} {b : Nat} {P : Int → Bool} (h : Seen w b P) (k : Below w.heap.size w w') : Seen w' b P := by
  unfold Seen
  rw [k.block b h.lt]
  exact h
theorem Seen.keep {w w' : World} {b base : Nat} {P : Int → Bool} (h : Seen w b P) (hb : b < base) (k : Below base w w') : Seen w' b P := by
  unfold Seen
  rw [k.block b hb]
  exact h
theorem Seen.cell {w : World} {b : Nat} {P : Int → Bool} (h : Seen w b P) (x : Nat) (hx : x < 200) : w.cell? ⟨b, x, none⟩ = some (.bool (P (x : Int))) := by
  rw [cell_of_row w _ _ _ _ _ h, seenC_get P x hx]
theorem Seen.frozen {w : World} {b : Nat} {P : Int → Bool} (h : Seen w b P) (x : Nat) : w.frozen? ⟨b, x, none⟩ = false := frozen_of_row w _ _ _ _ h
theorem Seen.set {w : World} {b : Nat} {P : Int → Bool} (h : Seen w b P) (x : Nat) (hx : x < 200) : Seen (w.setCell ⟨b, x, none⟩ (.bool true)) b (fun s => P s || (s == (x : Int))) := by
  have := heap_setCell_same w b x _ _ (.bool true) h
  unfold Seen
  rw [this, seenC_set P x hx]
theorem Seen.same {w : World} {b : Nat} {P Q : Int → Bool} (h : Seen w b P) (e : ∀ s, P s = Q s) : Seen w b Q := by
  rw [← funext e]
  exact h

theorem grown_setCell (W : World) (b x : Nat) (v : Value) : W.grownBy (W.setCell ⟨b, x, none⟩ v) (some b) :=
  ⟨rfl, rfl, rfl, by simp, fun k _ hk => Below.heap_setCell _ _ _ _ (by
    show k ≠ b
    intro e
    exact hk (by rw [e]))⟩

/-- The houses' row and their segments, where another block was written. -/
theorem HOwn.kept {w w' : World} {base B : Nat} {v : Value} {L : List (Ho × Value)} (h : HOwn w base v L) (hB : B < base) (hL : ∀ p ∈ L, ∀ k, p.2.ownBlock = some k → B < k) (hg : w.grownBy w' (some B)) : HOwn w' base v L := by
  obtain ⟨⟨h1, h2⟩, h3⟩ := h
  refine ⟨⟨h1, ?_⟩, fun p hp => ⟨(h3 p hp).1.kept hg (fun k hk e => ?_), fun k hk => ⟨Nat.lt_of_lt_of_le ((h3 p hp).2 k hk).1 hg.size, ((h3 p hp).2 k hk).2⟩⟩⟩
  · rcases h2 with h2 | ⟨g, cap, cur, rfl, hgb, hh, r⟩
    · exact .inl h2
    · exact .inr ⟨g, cap, cur, rfl, hgb, by rw [hg.block g (Array.getElem?_eq_some_iff.1 hh).1 (by intro e; injection e with e; omega)]; exact hh, r⟩
  · injection e with e
    have := hL p hp k hk
    omega

/-! ### What is taken -/
/-- A house that takes the first of the free ones leaves the others. -/
theorem freeL_take {l : List Ho} {n k : Nat} (h : Ho) (hs : h.segs = (freeL l n).take k) : freeL (l ++ [h]) n = (freeL l n).drop k := by
  have hd : (freeL l n).Pairwise (· < ·) := freeL_lt l n
  have e1 : freeL (l ++ [h]) n = (freeL l n).filter (fun s => !inL h.segs s) := by
    unfold freeL
    rw [List.filter_filter]
    refine List.filter_congr fun s _ => ?_
    rw [tkn_app, tkn_one, Bool.not_or, Bool.and_comm]
  rw [e1, hs]
  generalize freeL l n = F at *
  have e2 : (F.take k ++ F.drop k).filter (fun s => !inL (F.take k) s) = F.drop k := by
    rw [List.filter_append]
    have e3 : (F.take k).filter (fun s => !inL (F.take k) s) = [] := by
      rw [List.filter_eq_nil_iff]
      intro s hs
      simp [inL, hs]
    have e4 : (F.drop k).filter (fun s => !inL (F.take k) s) = F.drop k := by
      rw [List.filter_eq_self]
      intro s hs2
      have hh := List.take_append_drop k F
      rw [← hh, List.pairwise_append] at hd
      have : inL (F.take k) s = false := by
        rw [Bool.eq_false_iff]
        intro hc
        have := hd.2.2 s ((inL_iff _ _).1 hc) s hs2
        omega
      rw [this]
      rfl
    rw [e3, e4, List.nil_append]
  rw [List.take_append_drop] at e2
  exact e2

/-- What stands at a place of the first free ones. -/
theorem take_at {l : List Ho} {n k j : Nat} {x : Int} (h : ((freeL l n).take k)[j]? = some x) : ∃ y : Nat, x = (y : Int) ∧ y < n ∧ tkn l x = false ∧ inL (((freeL l n).take k).take j) x = false ∧ (0 < j → ∃ z : Nat, ((freeL l n).take k)[j - 1]? = some (z : Int) ∧ z < y) := by
  obtain ⟨hj, hx⟩ := List.getElem?_eq_some_iff.1 h
  have hm : x ∈ freeL l n := List.mem_of_mem_take (hx ▸ List.getElem_mem hj)
  obtain ⟨h0, h1, h2⟩ := (freeL_mem _ _ _).1 hm
  have hp : ((freeL l n).take k).Pairwise (· < ·) := (freeL_lt l n).sublist (List.take_sublist _ _)
  refine ⟨x.toNat, by omega, by omega, h2, ?_, fun h3 => ?_⟩
  · rw [Bool.eq_false_iff]
    intro hc
    obtain ⟨t, ht, e⟩ := List.getElem_of_mem ((inL_iff _ _).1 hc)
    have ht2 : t < j := by
      rw [List.length_take] at ht
      omega
    rw [List.getElem_take] at e
    have := List.pairwise_iff_getElem.1 hp t j (by omega) hj ht2
    rw [e, hx] at this
    omega
  · have hj1 : j - 1 < ((freeL l n).take k).length := by omega
    have := List.pairwise_iff_getElem.1 hp (j - 1) j hj1 hj (by omega)
    rw [hx] at this
    have hm2 : ((freeL l n).take k)[j - 1] ∈ freeL l n := List.mem_of_mem_take (List.getElem_mem hj1)
    obtain ⟨g0, _, _⟩ := (freeL_mem _ _ _).1 hm2
    exact ⟨(((freeL l n).take k)[j - 1]).toNat, by rw [List.getElem?_eq_getElem hj1]; congr 1; omega, by omega⟩
theorem take_is {l : List Ho} {n k j : Nat} {m : List Int} {x : Int} (hm : m = (freeL l n).take k) (h : m[j]? = some x) : ∃ y : Nat, x = (y : Int) ∧ y < n ∧ tkn l x = false ∧ inL (m.take j) x = false ∧ (0 < j → ∃ z : Nat, m[j - 1]? = some (z : Int) ∧ z < y) := by
  subst hm
  exact take_at h
theorem inL_take? {l : List Int} {j : Nat} {x : Int} (h : l[j]? = some x) (s : Int) : (inL (l.take j) s || (s == x)) = inL (l.take (j + 1)) s := by
  obtain ⟨hj, rfl⟩ := List.getElem?_eq_some_iff.1 h
  exact (inL_take l j hj s).symm
end Go.Proofs.Ytlpcofmifpgflaa
