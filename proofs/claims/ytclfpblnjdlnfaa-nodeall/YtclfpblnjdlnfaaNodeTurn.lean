/- The numbers of a node, handed in turn to a function: inTurn walked, whatever the function. -/
import Derived.Test.YtclfpblnjdlnfaaNodeCheck
namespace Go.Proofs.Ytclfpblnjdlnfaa
open Go.RowKit Rec Nod

/-- How many bytes the k-th number has. -/
def wids : List Nat := [1, 1, 1, 4, 6, 2, 2, 2, 2, 2, 2, 2, 2, 2, 2, 2, 2, 2, 2]
theorem wids_ptr (k : Nat) (hk : k < 14) (h : 5 + k < 19) : wids[5 + k]'h = 2 := by
  have hc : k = 0 ∨ k = 1 ∨ k = 2 ∨ k = 3 ∨ k = 4 ∨ k = 5 ∨ k = 6 ∨ k = 7 ∨ k = 8 ∨ k = 9 ∨ k = 10 ∨ k = 11 ∨ k = 12 ∨ k = 13 := by omega
  rcases hc with rfl | rfl | rfl | rfl | rfl | rfl | rfl | rfl | rfl | rfl | rfl | rfl | rfl | rfl <;> rfl

set_option maxRecDepth 10000 in
set_option maxHeartbeats 4000000 in
theorem inTurn1_t (xb g : Nat) (c : Value) (S : Nat → World → Prop) (w : World) (h0 : S 0 w)
    (hen : ∀ args w1, (callFunc g args).run Try.prog w1 = .ok (.enter g args) w1)
    (hS : ∀ k (hk : k < 19) (w1 : World), S k w1 → Calls Try.prog g #[.pointer (some ⟨xb, k, none⟩), .int .i64 (wids[k]'hk : Nat), c] w1 fun e w' => e = .returned (.tuple #[]) ∧ S (k + 1) w') :
    Calls Try.prog 17 #[.pointer (some ⟨xb, 0, none⟩), .func (.func g) #[] #[c]] w fun e w' => e = .returned (.tuple #[]) ∧ S 19 w' := by
  have HP : Hid (∀ k (_ : k < 14) (w1 : World), S (5 + k) w1 → Calls Try.prog g #[.pointer (some ⟨xb, 5 + k, none⟩), .int .i64 2, c] w1 fun e w' => e = .returned (.tuple #[]) ∧ S (5 + (k + 1)) w') := fun k hk w1 h1 => by
    have := hS (5 + k) (by omega) w1 h1
    rw [wids_ptr k hk] at this
    exact this
  have HS := ndhid hS
  have H0 := ndhid h0
  clear hS h0
  go_enter Try.func17, Try.ntmps17
  go_wp2_with fail
  refine (HS.out 0 (by decide) _ H0.out).mono ?_
  rintro e w1 ⟨rfl, h1⟩
  have H1 := ndhid h1
  clear h1 H0
  go_wp2_with fail
  refine (HS.out 1 (by decide) _ H1.out).mono ?_
  rintro e w2 ⟨rfl, h2⟩
  have H2 := ndhid h2
  clear h2 H1
  go_wp2_with fail
  refine (HS.out 2 (by decide) _ H2.out).mono ?_
  rintro e w3 ⟨rfl, h3⟩
  have H3 := ndhid h3
  clear h3 H2
  go_wp2_with fail
  refine (HS.out 3 (by decide) _ H3.out).mono ?_
  rintro e w4 ⟨rfl, h4⟩
  have H4 := ndhid h4
  clear h4 H3
  go_wp2_with fail
  refine (HS.out 4 (by decide) _ H4.out).mono ?_
  rintro e w5 ⟨rfl, h5⟩
  have H5 := ndhid h5
  clear h5 H4
  go_wp2_with fail
  go_loopw [30] (fun i wr => ∃ k : Nat, k ≤ 14 ∧ i = .int .i64 k ∧ Hid (S (5 + k) wr)) (fun i _ => 14 - (intOf i).toNat)
  case atStart => exact ⟨0, by omega, rfl, H5⟩
  case round =>
    obtain ⟨k, hk, rfl, HK⟩ := hrel
    clear H5 HS
    by_cases hk2 : k < 14
    · go_wp2_with fail
      refine (HP.out k hk2 _ HK.out).mono ?_
      rintro e w1 ⟨rfl, h1⟩
      have H1 := ndhid h1
      clear h1 HK
      go_wp2_with fail
      exact ⟨⟨k + 1, by omega, rfl, H1⟩, by simp [intOf]; omega⟩
    · have hk3 : k = 14 := by omega
      subst hk3
      clear hk hk2
      go_wp2_with fail
      go_end0
      exact ⟨rfl, HK.out⟩

set_option maxRecDepth 10000 in
set_option maxHeartbeats 4000000 in
theorem inTurn2_t (xb g : Nat) (c d : Value) (S : Nat → World → Prop) (w : World) (h0 : S 0 w)
    (hen : ∀ args w1, (callFunc g args).run Try.prog w1 = .ok (.enter g args) w1)
    (hS : ∀ k (hk : k < 19) (w1 : World), S k w1 → Calls Try.prog g #[.pointer (some ⟨xb, k, none⟩), .int .i64 (wids[k]'hk : Nat), c, d] w1 fun e w' => e = .returned (.tuple #[]) ∧ S (k + 1) w') :
    Calls Try.prog 17 #[.pointer (some ⟨xb, 0, none⟩), .func (.func g) #[] #[c, d]] w fun e w' => e = .returned (.tuple #[]) ∧ S 19 w' := by
  have HP : Hid (∀ k (_ : k < 14) (w1 : World), S (5 + k) w1 → Calls Try.prog g #[.pointer (some ⟨xb, 5 + k, none⟩), .int .i64 2, c, d] w1 fun e w' => e = .returned (.tuple #[]) ∧ S (5 + (k + 1)) w') := fun k hk w1 h1 => by
    have := hS (5 + k) (by omega) w1 h1
    rw [wids_ptr k hk] at this
    exact this
  have HS := ndhid hS
  have H0 := ndhid h0
  clear hS h0
  go_enter Try.func17, Try.ntmps17
  go_wp2_with fail
  refine (HS.out 0 (by decide) _ H0.out).mono ?_
  rintro e w1 ⟨rfl, h1⟩
  have H1 := ndhid h1
  clear h1 H0
  go_wp2_with fail
  refine (HS.out 1 (by decide) _ H1.out).mono ?_
  rintro e w2 ⟨rfl, h2⟩
  have H2 := ndhid h2
  clear h2 H1
  go_wp2_with fail
  refine (HS.out 2 (by decide) _ H2.out).mono ?_
  rintro e w3 ⟨rfl, h3⟩
  have H3 := ndhid h3
  clear h3 H2
  go_wp2_with fail
  refine (HS.out 3 (by decide) _ H3.out).mono ?_
  rintro e w4 ⟨rfl, h4⟩
  have H4 := ndhid h4
  clear h4 H3
  go_wp2_with fail
  refine (HS.out 4 (by decide) _ H4.out).mono ?_
  rintro e w5 ⟨rfl, h5⟩
  have H5 := ndhid h5
  clear h5 H4
  go_wp2_with fail
  go_loopw [30] (fun i wr => ∃ k : Nat, k ≤ 14 ∧ i = .int .i64 k ∧ Hid (S (5 + k) wr)) (fun i _ => 14 - (intOf i).toNat)
  case atStart => exact ⟨0, by omega, rfl, H5⟩
  case round =>
    obtain ⟨k, hk, rfl, HK⟩ := hrel
    clear H5 HS
    by_cases hk2 : k < 14
    · go_wp2_with fail
      refine (HP.out k hk2 _ HK.out).mono ?_
      rintro e w1 ⟨rfl, h1⟩
      have H1 := ndhid h1
      clear h1 HK
      go_wp2_with fail
      exact ⟨⟨k + 1, by omega, rfl, H1⟩, by simp [intOf]; omega⟩
    · have hk3 : k = 14 := by omega
      subst hk3
      clear hk hk2
      go_wp2_with fail
      go_end0
      exact ⟨rfl, HK.out⟩
end Go.Proofs.Ytclfpblnjdlnfaa
