/- The law's own awake walked. -/
import Derived.Test.YtfiakggilhinpaaDoorNamePath
namespace Go.Proofs.YtfiakggilhinpaaDoor
open Go.RowKit

theorem raw_inj {xs ys : List ByteArray} (h : raw xs = raw ys) : xs = ys := by
  induction xs generalizing ys with
  | nil => cases ys with
    | nil => rfl
    | cons y r => simp [raw] at h
  | cons x l ih => cases ys with
    | nil => simp [raw] at h
    | cons y r =>
      simp only [raw, List.map_cons, List.cons.injEq] at h
      have e : x = y := by rw [← Lib.mk_data x, h.1, Lib.mk_data]
      rw [e, ih h.2]

/-- A row that is not empty lies somewhere. -/
theorem Strs.some_ {w : World} {a : Option Addr} {xs : List ByteArray} (h : Strs w a xs) (hne : xs ≠ []) :
    ∃ bk o, a = some ⟨bk, o, none⟩ ∧ bk < w.heap.size ∧ ∀ (j : Nat) x, xs[j]? = some x → w.cell? ⟨bk, o + j, none⟩ = some (.string x) := by
  rcases h with h | h
  · exact absurd h hne
  · exact h

theorem awakePath (w : World) : Calls Tryd.prog 9 #[.string ⟨#[97, 47, 98]⟩] w fun e w' =>
    ∃ bk o c, e = .returned (.tuple #[.slice (some ⟨bk, o, none⟩) 2 c, .bool true]) ∧ bk < w'.heap.size ∧ w'.cell? ⟨bk, o + 1, none⟩ = some (.string ⟨#[98]⟩) ∧ Below w.heap.size w w' := by
  refine (path_t ⟨#[97, 47, 98]⟩ w (by decide)).mono fun e w' ⟨a, n, c, xs, he, hn, _, _, hr, hs, hb⟩ => ?_
  have e1 : Word.pathL [97, 47, 98] = raw [⟨#[97]⟩, ⟨#[98]⟩] := by decide
  have e2 : Word.pathB [97, 47, 98] = true := by decide
  have hx : xs = [⟨#[97]⟩, ⟨#[98]⟩] := raw_inj (hr.trans e1)
  subst hx
  subst hn
  obtain ⟨bk, o, rfl, hk, hc⟩ := hs.some_ (by simp)
  exact ⟨bk, o, c, he.trans (by show _ = _; rw [show (Word.pathB _) = true from e2]; rfl), hk, hc 1 _ rfl, hb⟩

theorem awakeNone (w : World) : Calls Tryd.prog 9 #[.string ⟨#[97, 47, 47, 98]⟩] w fun e w' =>
    (∃ a n c, e = .returned (.tuple #[.slice a n c, .bool false])) ∧ Below w.heap.size w w' := by
  refine (path_t ⟨#[97, 47, 47, 98]⟩ w (by decide)).mono fun e w' ⟨a, n, c, xs, he, hn, _, _, hr, hs, hb⟩ => ?_
  have e2 : Word.pathB [97, 47, 47, 98] = false := by decide
  exact ⟨⟨a, n, c, he.trans (by rw [show (Word.pathB _) = false from e2])⟩, hb⟩

theorem checkX (w : World) : Calls Tryd.prog 11 #[.string ⟨#[120]⟩] w fun e w' => e = .returned (.bool true) ∧ Below w.heap.size w w' :=
  check_t ⟨#[120]⟩ w
theorem checkTwo (w : World) : Calls Tryd.prog 11 #[.string ⟨#[46, 46]⟩] w fun e w' => e = .returned (.bool false) ∧ Below w.heap.size w w' :=
  check_t ⟨#[46, 46]⟩ w

set_option maxHeartbeats 1000000 in
/-- awake: true. -/
theorem nawake_t (w : World) : Calls Tryd.prog 8 #[] w fun e w' => e = .returned (.bool true) ∧ Below w.heap.size w w' := by
  go_enter Tryd.func8, Tryd.ntmps8
  go_wp2_with fail
  refine (awakePath w).mono ?_
  rintro e w1 ⟨bk, o, c, rfl, hk, hc, hb1⟩
  have HB1 := namehid hb1
  clear hb1
  go_wp2_with fail
  refine (awakeNone w1).mono ?_
  rintro e w2 ⟨⟨a, n, c2, rfl⟩, hb2⟩
  have hc2 : w2.cell? ⟨bk, o + 1, none⟩ = some (.string ⟨#[98]⟩) := by rw [hb2.cell hk]; exact hc
  have HB2 := namehid (Below.trans' HB1.out hb2)
  clear hb2 hc hk HB1
  go_wp2_with fail
  refine (checkX w2).mono ?_
  rintro e w3 ⟨rfl, hb3⟩
  have HB3 := namehid (Below.trans' HB2.out hb3)
  clear hb3 hc2 HB2
  go_wp2_with fail
  refine (checkTwo w3).mono ?_
  rintro e w4 ⟨rfl, hb4⟩
  have HB4 := namehid (Below.trans' HB3.out hb4)
  clear hb4 HB3
  go_wp2_with fail
  go_ret
  exact ⟨rfl, HB4.out⟩
end Go.Proofs.YtfiakggilhinpaaDoor
