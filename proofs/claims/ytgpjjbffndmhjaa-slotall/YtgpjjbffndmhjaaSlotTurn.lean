/- The numbers of a state, handed in turn to a function: inTurn walked, whatever the function. -/
import Derived.Test.YtgpjjbffndmhjaaSlotCode
namespace Go.Proofs.Ytgpjjbffndmhjaa
open Go.RowKit Rec Slt

/-- How many bytes the k-th number has. -/
def wids : List Nat := [1, 2, 6, 3, 6, 2, 2, 2, 6, 4, 4, 4, 4, 6, 6]
/-- Where the k-th number lies. -/
def turnAt (hb gb xb : Nat) : Nat → Addr
  | 0 => ⟨hb, 0, none⟩
  | 1 => ⟨gb, 0, none⟩
  | k + 2 => ⟨xb, k, none⟩

set_option maxRecDepth 10000 in
set_option maxHeartbeats 4000000 in
theorem inTurn1_t (hb gb xb g : Nat) (c : Value) (S : Nat → World → Prop) (w : World) (h0 : S 0 w)
    (hen : ∀ args w1, (callFunc g args).run Try.prog w1 = .ok (.enter g args) w1)
    (hS : ∀ k (hk : k < 15) (w1 : World), S k w1 → Calls Try.prog g #[.pointer (some (turnAt hb gb xb k)), .int .i64 (wids[k]'hk : Nat), c] w1 fun e w' => e = .returned (.tuple #[]) ∧ S (k + 1) w') :
    Calls Try.prog 18 #[.pointer (some ⟨hb, 0, none⟩), .pointer (some ⟨gb, 0, none⟩), .pointer (some ⟨xb, 0, none⟩), .func (.func g) #[] #[c]] w fun e w' => e = .returned (.tuple #[]) ∧ S 15 w' := by
  have HS := slthid hS
  have H0 := slthid h0
  clear hS h0
  go_enter Try.func18, Try.ntmps18
  go_wp2_with fail
  refine (HS.out 0 (by decide) _ H0.out).mono ?_
  rintro e w1 ⟨rfl, h1⟩
  have H1 := slthid h1
  clear h1 H0
  go_wp2_with fail
  refine (HS.out 1 (by decide) _ H1.out).mono ?_
  rintro e w2 ⟨rfl, h2⟩
  have H2 := slthid h2
  clear h2 H1
  go_wp2_with fail
  refine (HS.out 2 (by decide) _ H2.out).mono ?_
  rintro e w3 ⟨rfl, h3⟩
  have H3 := slthid h3
  clear h3 H2
  go_wp2_with fail
  refine (HS.out 3 (by decide) _ H3.out).mono ?_
  rintro e w4 ⟨rfl, h4⟩
  have H4 := slthid h4
  clear h4 H3
  go_wp2_with fail
  refine (HS.out 4 (by decide) _ H4.out).mono ?_
  rintro e w5 ⟨rfl, h5⟩
  have H5 := slthid h5
  clear h5 H4
  go_wp2_with fail
  refine (HS.out 5 (by decide) _ H5.out).mono ?_
  rintro e w6 ⟨rfl, h6⟩
  have H6 := slthid h6
  clear h6 H5
  go_wp2_with fail
  refine (HS.out 6 (by decide) _ H6.out).mono ?_
  rintro e w7 ⟨rfl, h7⟩
  have H7 := slthid h7
  clear h7 H6
  go_wp2_with fail
  refine (HS.out 7 (by decide) _ H7.out).mono ?_
  rintro e w8 ⟨rfl, h8⟩
  have H8 := slthid h8
  clear h8 H7
  go_wp2_with fail
  refine (HS.out 8 (by decide) _ H8.out).mono ?_
  rintro e w9 ⟨rfl, h9⟩
  have H9 := slthid h9
  clear h9 H8
  go_wp2_with fail
  go_loopw [50] (fun i wr => ∃ k : Nat, k ≤ 4 ∧ i = .int .i64 k ∧ Hid (S (9 + k) wr)) (fun i _ => 4 - (intOf i).toNat)
  case atStart => exact ⟨0, by omega, rfl, H9⟩
  case round =>
    obtain ⟨k, hk, rfl, HK⟩ := hrel
    have hc : k = 0 ∨ k = 1 ∨ k = 2 ∨ k = 3 ∨ k = 4 := by omega
    clear H9
    rcases hc with rfl | rfl | rfl | rfl | rfl
    · go_wp2_with fail
      refine (HS.out 9 (by decide) _ HK.out).mono ?_
      rintro e w1 ⟨rfl, h1⟩
      have H1 := slthid h1
      clear h1 HK
      go_wp2_with fail
      exact ⟨⟨1, by omega, rfl, H1⟩, by simp [intOf]⟩
    · go_wp2_with fail
      refine (HS.out 10 (by decide) _ HK.out).mono ?_
      rintro e w1 ⟨rfl, h1⟩
      have H1 := slthid h1
      clear h1 HK
      go_wp2_with fail
      exact ⟨⟨2, by omega, rfl, H1⟩, by simp [intOf]⟩
    · go_wp2_with fail
      refine (HS.out 11 (by decide) _ HK.out).mono ?_
      rintro e w1 ⟨rfl, h1⟩
      have H1 := slthid h1
      clear h1 HK
      go_wp2_with fail
      exact ⟨⟨3, by omega, rfl, H1⟩, by simp [intOf]⟩
    · go_wp2_with fail
      refine (HS.out 12 (by decide) _ HK.out).mono ?_
      rintro e w1 ⟨rfl, h1⟩
      have H1 := slthid h1
      clear h1 HK
      go_wp2_with fail
      exact ⟨⟨4, by omega, rfl, H1⟩, by simp [intOf]⟩
    · go_wp2_with fail
      refine (HS.out 13 (by decide) _ HK.out).mono ?_
      rintro e w1 ⟨rfl, h1⟩
      have H1 := slthid h1
      clear h1 HK
      go_wp2_with fail
      refine (HS.out 14 (by decide) _ H1.out).mono ?_
      rintro e w2 ⟨rfl, h2⟩
      have H2 := slthid h2
      clear h2 H1
      go_wp2_with fail
      go_end0
      exact ⟨rfl, H2.out⟩

set_option maxRecDepth 10000 in
set_option maxHeartbeats 4000000 in
theorem inTurn2_t (hb gb xb g : Nat) (c d : Value) (S : Nat → World → Prop) (w : World) (h0 : S 0 w)
    (hen : ∀ args w1, (callFunc g args).run Try.prog w1 = .ok (.enter g args) w1)
    (hS : ∀ k (hk : k < 15) (w1 : World), S k w1 → Calls Try.prog g #[.pointer (some (turnAt hb gb xb k)), .int .i64 (wids[k]'hk : Nat), c, d] w1 fun e w' => e = .returned (.tuple #[]) ∧ S (k + 1) w') :
    Calls Try.prog 18 #[.pointer (some ⟨hb, 0, none⟩), .pointer (some ⟨gb, 0, none⟩), .pointer (some ⟨xb, 0, none⟩), .func (.func g) #[] #[c, d]] w fun e w' => e = .returned (.tuple #[]) ∧ S 15 w' := by
  have HS := slthid hS
  have H0 := slthid h0
  clear hS h0
  go_enter Try.func18, Try.ntmps18
  go_wp2_with fail
  refine (HS.out 0 (by decide) _ H0.out).mono ?_
  rintro e w1 ⟨rfl, h1⟩
  have H1 := slthid h1
  clear h1 H0
  go_wp2_with fail
  refine (HS.out 1 (by decide) _ H1.out).mono ?_
  rintro e w2 ⟨rfl, h2⟩
  have H2 := slthid h2
  clear h2 H1
  go_wp2_with fail
  refine (HS.out 2 (by decide) _ H2.out).mono ?_
  rintro e w3 ⟨rfl, h3⟩
  have H3 := slthid h3
  clear h3 H2
  go_wp2_with fail
  refine (HS.out 3 (by decide) _ H3.out).mono ?_
  rintro e w4 ⟨rfl, h4⟩
  have H4 := slthid h4
  clear h4 H3
  go_wp2_with fail
  refine (HS.out 4 (by decide) _ H4.out).mono ?_
  rintro e w5 ⟨rfl, h5⟩
  have H5 := slthid h5
  clear h5 H4
  go_wp2_with fail
  refine (HS.out 5 (by decide) _ H5.out).mono ?_
  rintro e w6 ⟨rfl, h6⟩
  have H6 := slthid h6
  clear h6 H5
  go_wp2_with fail
  refine (HS.out 6 (by decide) _ H6.out).mono ?_
  rintro e w7 ⟨rfl, h7⟩
  have H7 := slthid h7
  clear h7 H6
  go_wp2_with fail
  refine (HS.out 7 (by decide) _ H7.out).mono ?_
  rintro e w8 ⟨rfl, h8⟩
  have H8 := slthid h8
  clear h8 H7
  go_wp2_with fail
  refine (HS.out 8 (by decide) _ H8.out).mono ?_
  rintro e w9 ⟨rfl, h9⟩
  have H9 := slthid h9
  clear h9 H8
  go_wp2_with fail
  go_loopw [50] (fun i wr => ∃ k : Nat, k ≤ 4 ∧ i = .int .i64 k ∧ Hid (S (9 + k) wr)) (fun i _ => 4 - (intOf i).toNat)
  case atStart => exact ⟨0, by omega, rfl, H9⟩
  case round =>
    obtain ⟨k, hk, rfl, HK⟩ := hrel
    have hc : k = 0 ∨ k = 1 ∨ k = 2 ∨ k = 3 ∨ k = 4 := by omega
    clear H9
    rcases hc with rfl | rfl | rfl | rfl | rfl
    · go_wp2_with fail
      refine (HS.out 9 (by decide) _ HK.out).mono ?_
      rintro e w1 ⟨rfl, h1⟩
      have H1 := slthid h1
      clear h1 HK
      go_wp2_with fail
      exact ⟨⟨1, by omega, rfl, H1⟩, by simp [intOf]⟩
    · go_wp2_with fail
      refine (HS.out 10 (by decide) _ HK.out).mono ?_
      rintro e w1 ⟨rfl, h1⟩
      have H1 := slthid h1
      clear h1 HK
      go_wp2_with fail
      exact ⟨⟨2, by omega, rfl, H1⟩, by simp [intOf]⟩
    · go_wp2_with fail
      refine (HS.out 11 (by decide) _ HK.out).mono ?_
      rintro e w1 ⟨rfl, h1⟩
      have H1 := slthid h1
      clear h1 HK
      go_wp2_with fail
      exact ⟨⟨3, by omega, rfl, H1⟩, by simp [intOf]⟩
    · go_wp2_with fail
      refine (HS.out 12 (by decide) _ HK.out).mono ?_
      rintro e w1 ⟨rfl, h1⟩
      have H1 := slthid h1
      clear h1 HK
      go_wp2_with fail
      exact ⟨⟨4, by omega, rfl, H1⟩, by simp [intOf]⟩
    · go_wp2_with fail
      refine (HS.out 13 (by decide) _ HK.out).mono ?_
      rintro e w1 ⟨rfl, h1⟩
      have H1 := slthid h1
      clear h1 HK
      go_wp2_with fail
      refine (HS.out 14 (by decide) _ H1.out).mono ?_
      rintro e w2 ⟨rfl, h2⟩
      have H2 := slthid h2
      clear h2 H1
      go_wp2_with fail
      go_end0
      exact ⟨rfl, H2.out⟩
end Go.Proofs.Ytgpjjbffndmhjaa
