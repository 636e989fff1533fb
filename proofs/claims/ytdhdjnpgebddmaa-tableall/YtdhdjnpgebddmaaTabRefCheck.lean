/- The document's own Check walked. -/
import Derived.Test.YtdhdjnpgebddmaaTabRefMore
import Derived.Test.YtdhdjnpgebddmaaTabMadePlain
namespace Go.Proofs.Ytdhdjnpgebddmaa
open Go.RowKit Tab

/-- Whether a house may be, by the document's own answer. -/
theorem rone_t (n : Int) (h : Ho) (v : Value) (w : World) (hI : Ints w v h.segs) (hl : h.segs.length ≤ 4611686018427387904) :
    Calls Try.prog 39 #[.int .i64 n, houseV h v] w fun e w' => e = .returned (.bool (houseB n h)) ∧ Below w.heap.size w w' := by
  obtain ⟨st, gen, x, segs⟩ := h
  have E : Hid (houseB n ⟨st, gen, x, segs⟩ = (inB st 0 2 && inB gen 0 65535 && (if st = 0 then decide (segs.length = 0) && zeroB x else decide (0 < gen) && limB x && decide ((segs.length : Int) = x.s) && rises n 0 segs))) := rfl
  cases hs : inB st 0 2
  · have C := tabhid rin_t
    rw [E.out, hs]
    go_enter Try.func39, Try.ntmps39
    go_wp2_with (first | (refine (C.out _ _ _ _).mono ?_; rintro e w' ⟨rfl, rfl⟩) | fail)
    all_goals
      go_ret
      exact ⟨rfl, (Below.refl _ w).alloc (Nat.le_refl _) _⟩
  · cases hg : inB gen 0 65535
    · have C := tabhid rin_t
      rw [E.out, hs, hg]
      go_enter Try.func39, Try.ntmps39
      go_wp2_with (first | (refine (C.out _ _ _ _).mono ?_; rintro e w' ⟨rfl, rfl⟩) | fail)
      all_goals
        go_ret
        exact ⟨rfl, (Below.refl _ w).alloc (Nat.le_refl _) _⟩
    · rw [E.out, hs, hg]
      by_cases h0 : st = 0
      · rw [if_pos h0]
        subst h0
        exact rone_zero n gen x segs v w hI hg
      · rw [if_neg h0]
        exact rone_more n st gen x segs v w hI hl hs (by rw [beq_eq_false_iff_ne]; exact h0) hg

/-- The first so many houses may be, and none shares a segment with one ahead of it. -/
def goodTo (n : Int) (l : List Ho) (i : Nat) : Prop := ∀ t (ht : t < l.length), t < i → houseB n l[t] = true ∧ ∀ k (hk : k < l.length), k < t → ∀ x ∈ l[t].segs, x ∉ l[k].segs
theorem house_nodup {n : Int} {h : Ho} (hh : houseB n h = true) : h.segs.Nodup := by
  simp only [houseB, Bool.and_eq_true] at hh
  obtain ⟨_, hh⟩ := hh
  split at hh
  · simp only [Bool.and_eq_true, decide_eq_true_eq] at hh
    rw [List.length_eq_zero_iff.1 hh.1]
    exact List.nodup_nil
  · simp only [Bool.and_eq_true] at hh
    exact rises_nodup _ _ _ hh.2
theorem good_check {n : Int} {l : List Ho} (h16 : l.length = 16) (h : goodTo n l 16) : checkB n l = true := by
  have h1 : l.all (houseB n) = true := by
    rw [List.all_eq_true]
    intro x hx
    obtain ⟨t, ht, rfl⟩ := List.getElem_of_mem hx
    exact (h t ht (by omega)).1
  have h2 : apartB l = true := by
    refine decide_eq_true ?_
    unfold allSegs
    rw [List.Nodup, List.pairwise_flatMap]
    refine ⟨fun a ha => house_nodup (List.all_eq_true.1 h1 a ha), List.pairwise_iff_getElem.2 fun i j hi hj hij x hx y hy e => ?_⟩
    subst e
    exact (h j hj (by omega)).2 i hi hij x hy hx
  unfold checkB
  rw [h1, h2, decide_eq_true h16]
  rfl
end Go.Proofs.Ytdhdjnpgebddmaa
