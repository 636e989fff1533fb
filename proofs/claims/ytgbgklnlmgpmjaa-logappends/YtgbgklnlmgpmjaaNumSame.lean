/- The laws' own SameInts walked. -/
import Derived.Test.YtgbgklnlmgpmjaaNumLay
import Derived.BigRegion
import Derived.Deep.QuietTactic
import Derived.BigQuiet
namespace Go.Proofs.Ytgbgklnlmgpmjaa
open Go.RowKit

set_option maxHeartbeats 1000000 in
theorem nsame_len (a b : Option Addr) (n m c d : Nat) (w : World) (h : n ≠ m) :
    Calls Try.prog 18 #[.slice a n c, .slice b m d] w fun e w' => e = .returned (.bool false) ∧ Below w.heap.size w w' := by
  have h1 : ((n : Int) != (m : Int)) = true := by rw [bne_iff_ne]; omega
  go_enter Try.func18, Try.ntmps18
  go_wp2
  go_ret
  exact ⟨rfl, Below.refl _ _⟩

set_option maxHeartbeats 1000000 in
theorem nsame_zero (a b : Option Addr) (c d : Nat) (w : World) :
    Calls Try.prog 18 #[.slice a 0 c, .slice b 0 d] w fun e w' => e = .returned (.bool true) ∧ Below w.heap.size w w' := by
  go_enter Try.func18, Try.ntmps18
  go_wp2
  go_loopw [5] (fun i wr => i = .int .i64 0 ∧ w = wr) (fun _ _ => 0)
  case atStart => exact ⟨rfl, rfl⟩
  case round =>
    obtain ⟨rfl, rfl⟩ := hrel
    go_wp2
    go_ret
    exact ⟨rfl, Below.refl _ _⟩

set_option maxHeartbeats 1000000 in
theorem nsame_row (bk o bk2 o2 n c d : Nat) (xs ys : List Int) (w : World) (hx : xs.length = n) (hy : ys.length = n)
    (h63 : n ≤ 9223372036854775807)
    (hk : bk < w.heap.size) (hcx : ∀ (j : Nat) x, xs[j]? = some x → w.cell? ⟨bk, o + j, none⟩ = some (.int .i64 x))
    (hk2 : bk2 < w.heap.size) (hcy : ∀ (j : Nat) x, ys[j]? = some x → w.cell? ⟨bk2, o2 + j, none⟩ = some (.int .i64 x)) :
    Calls Try.prog 18 #[.slice (some ⟨bk, o, none⟩) n c, .slice (some ⟨bk2, o2, none⟩) n d] w fun e w' => e = .returned (.bool (decide (xs = ys))) ∧ Below w.heap.size w w' := by
  obtain ⟨B, hB⟩ : ∃ B, decide (xs = ys) = B := ⟨_, rfl⟩
  rw [hB]
  have HB := numhid hB
  have HX := numhid hcx
  have HY := numhid hcy
  have HN := numhid (And.intro hx hy)
  clear hB hcx hcy hx hy
  go_enter Try.func18, Try.ntmps18
  go_wp2
  go_loopw [5] (fun iv wr => ∃ i : Nat, iv = .int .i64 i ∧ i ≤ n ∧ Hid (∀ j, j < i → xs[j]? = ys[j]?) ∧ Hid (Below w.heap.size w wr)) (fun iv _ => n - (intOf iv).toNat)
  case atStart => exact ⟨0, rfl, Nat.zero_le _, fun j h => absurd h (Nat.not_lt_zero _), Below.refl _ _⟩
  case round =>
    obtain ⟨i, rfl, hi, HI, HW⟩ := hrel
    by_cases hlt : i < n
    · obtain ⟨x, hx⟩ : ∃ x, xs[i]? = some x := ⟨_, List.getElem?_eq_getElem (by rw [HN.out.1]; exact hlt)⟩
      obtain ⟨y, hy⟩ : ∃ y, ys[i]? = some y := ⟨_, List.getElem?_eq_getElem (by rw [HN.out.2]; exact hlt)⟩
      have hc1 : wr.cell? ⟨bk, o + i, none⟩ = some (.int .i64 x) := by rw [HW.out.cell hk]; exact HX.out i x hx
      have hc2 : wr.cell? ⟨bk2, o2 + i, none⟩ = some (.int .i64 y) := by rw [HW.out.cell hk2]; exact HY.out i y hy
      have HE := numhid (And.intro hx hy)
      clear hx hy
      by_cases e : x = y
      · subst e
        have HI2 : Hid (∀ j, j < i + 1 → xs[j]? = ys[j]?) := fun j h => by
          by_cases e : j = i
          · subst e
            rw [HE.out.1, HE.out.2]
          · exact HI.out j (by omega)
        clear HI HE
        go_wp2_with fail
        go_quiet (fail)
        go_wp2_with fail
        refine ⟨⟨i + 1, by go_num, by omega, HI2, ⟨HW.out.os, HW.out.tape, HW.out.output, HW.out.size, HW.out.block⟩⟩, by simp [intOf]; omega⟩
      · have hne : (x != y) = true := bne_iff_ne.2 e
        have hne2 : (x == y) = false := beq_eq_false_iff_ne.2 e
        have hB : B = false := by
          rw [← HB.out, decide_eq_false_iff_not]
          intro h
          have e1 := HE.out.1
          rw [h, HE.out.2] at e1
          exact e (Option.some.inj e1).symm
        subst hB
        clear HI HE HB e
        go_wp2_with fail
        go_quiet (fail)
        go_wp2_with fail
        go_ret
        exact ⟨rfl, HW.out.os, HW.out.tape, HW.out.output, HW.out.size, HW.out.block⟩
    · have hB : B = true := by
        rw [← HB.out, decide_eq_true_eq]
        apply List.ext_getElem?
        intro j
        by_cases hj : j < n
        · exact HI.out j (by omega)
        · rw [List.getElem?_eq_none (by rw [HN.out.1]; omega), List.getElem?_eq_none (by rw [HN.out.2]; omega)]
      subst hB
      clear HI HB
      go_wp2_with fail
      go_ret
      exact ⟨rfl, HW.out⟩

/-- SameInts: are the lists the same? -/
theorem sameInts_t (v u : Value) (xs ys : List Int) (w : World) (h63 : xs.length ≤ 9223372036854775807) (ha : Ints w v xs) (hb : Ints w u ys) :
    Calls Try.prog 18 #[v, u] w fun e w' => e = .returned (.bool (decide (xs = ys))) ∧ Below w.heap.size w w' := by
  obtain ⟨a, c, rfl, _, _, hca⟩ := ha
  obtain ⟨b, d, rfl, _, _, hcb⟩ := hb
  by_cases hnm : xs.length = ys.length
  · rw [← hnm]
    by_cases h0 : xs.length = 0
    · have e1 : xs = [] := List.eq_nil_of_length_eq_zero h0
      have e2 : ys = [] := List.eq_nil_of_length_eq_zero (by omega)
      subst e1; subst e2
      exact nsame_zero a b c d w
    · obtain ⟨bk, o, rfl, hk, hc⟩ := hca (by omega)
      obtain ⟨bk2, o2, rfl, hk2, hc2⟩ := hcb (by omega)
      refine nsame_row bk o bk2 o2 xs.length c d xs ys w rfl hnm.symm h63 hk (fun j x hj => ?_) hk2 (fun j x hj => ?_)
      · obtain ⟨hl, he⟩ := List.getElem?_eq_some_iff.1 hj
        rw [hc j hl, he]
      · obtain ⟨hl, he⟩ := List.getElem?_eq_some_iff.1 hj
        rw [hc2 j (by omega), he]
  · have e : decide (xs = ys) = false := by
      rw [decide_eq_false_iff_not]
      intro e
      exact hnm (by rw [e])
    rw [e]
    exact nsame_len a b xs.length ys.length c d w hnm

/-- SameInts of the same numbers. -/
theorem sameInts_yes (v u : Value) (xs : List Int) (w : World) (h63 : xs.length ≤ 9223372036854775807) (ha : Ints w v xs) (hb : Ints w u xs) :
    Calls Try.prog 18 #[v, u] w fun e w' => e = .returned (.bool true) ∧ Below w.heap.size w w' := by
  have := sameInts_t v u xs xs w h63 ha hb
  rw [show decide (xs = xs) = true from decide_eq_true rfl] at this
  exact this
end Go.Proofs.Ytgbgklnlmgpmjaa
