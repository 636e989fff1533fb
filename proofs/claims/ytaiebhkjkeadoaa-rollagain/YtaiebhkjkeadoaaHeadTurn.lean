/- A head's numbers and entries, handed in turn to a function that is a method value: numbers, entries walked, whatever the function. -/
import Derived.Test.YtaiebhkjkeadoaaHeadCode
namespace Go.Proofs.Ytaiebhkjkeadoaa
open Go.RowKit Rec Hdp

/-- How many bytes the k-th number has; the j-th one of an entry. -/
def nwids : List Nat := [1, 2, 3, 6, 2, 6, 6, 6]
def ewids : List Nat := [1, 1, 2]

set_option maxRecDepth 10000 in
set_option maxHeartbeats 4000000 in
theorem numbers_t (xb g : Nat) (c : Value) (S : Nat → World → Prop) (w : World) (h0 : S 0 w)
    (hen : ∀ args w1, (callFunc g args).run Try.prog w1 = .ok (.enter g args) w1)
    (hS : ∀ k (hk : k < 8) (w1 : World), S k w1 → Calls Try.prog g #[c, .pointer (some ⟨xb, k, none⟩), .int .i64 (nwids[k]'hk : Nat)] w1 fun e w' => e = .returned (.tuple #[]) ∧ S (k + 1) w') :
    Calls Try.prog 61 #[.pointer (some ⟨xb, 0, none⟩), .func (.func g) #[c] #[]] w fun e w' => e = .returned (.tuple #[]) ∧ S 8 w' := by
  have HS := hdhid hS
  have H0 := hdhid h0
  clear hS h0
  go_enter Try.func61, Try.ntmps61
  go_wp2_with fail
  refine (HS.out 0 (by decide) _ H0.out).mono ?_
  rintro e w1 ⟨rfl, h1⟩
  have H1 := hdhid h1
  clear h1 H0
  go_wp2_with fail
  refine (HS.out 1 (by decide) _ H1.out).mono ?_
  rintro e w2 ⟨rfl, h2⟩
  have H2 := hdhid h2
  clear h2 H1
  go_wp2_with fail
  refine (HS.out 2 (by decide) _ H2.out).mono ?_
  rintro e w3 ⟨rfl, h3⟩
  have H3 := hdhid h3
  clear h3 H2
  go_wp2_with fail
  refine (HS.out 3 (by decide) _ H3.out).mono ?_
  rintro e w4 ⟨rfl, h4⟩
  have H4 := hdhid h4
  clear h4 H3
  go_wp2_with fail
  refine (HS.out 4 (by decide) _ H4.out).mono ?_
  rintro e w5 ⟨rfl, h5⟩
  have H5 := hdhid h5
  clear h5 H4
  go_wp2_with fail
  refine (HS.out 5 (by decide) _ H5.out).mono ?_
  rintro e w6 ⟨rfl, h6⟩
  have H6 := hdhid h6
  clear h6 H5
  go_wp2_with fail
  refine (HS.out 6 (by decide) _ H6.out).mono ?_
  rintro e w7 ⟨rfl, h7⟩
  have H7 := hdhid h7
  clear h7 H6
  go_wp2_with fail
  refine (HS.out 7 (by decide) _ H7.out).mono ?_
  rintro e w8 ⟨rfl, h8⟩
  have H8 := hdhid h8
  clear h8 H7
  go_wp2_with fail
  go_end0
  exact ⟨rfl, H8.out⟩

set_option maxRecDepth 10000 in
set_option maxHeartbeats 4000000 in
theorem entries_t (b off n cap g : Nat) (c : Value) (S : Nat → World → Prop) (w : World) (h0 : S 0 w) (hn : n ≤ 1000)
    (hen : ∀ args w1, (callFunc g args).run Try.prog w1 = .ok (.enter g args) w1)
    (hS : ∀ i j (_ : i < n) (hj : j < 3) (w1 : World), S (i * 3 + j) w1 → Calls Try.prog g #[c, .pointer (some ⟨b, off + i * 3 + j, none⟩), .int .i64 (ewids[j]'hj : Nat)] w1 fun e w' => e = .returned (.tuple #[]) ∧ S (i * 3 + j + 1) w') :
    Calls Try.prog 63 #[.slice (some ⟨b, off, none⟩) n cap, .func (.func g) #[c] #[]] w fun e w' => e = .returned (.tuple #[]) ∧ S (n * 3) w' := by
  have HS := hdhid hS
  have H0 := hdhid h0
  clear hS h0
  go_enter Try.func63, Try.ntmps63
  go_wp2_with fail
  go_loopw [7] (fun i wr => ∃ k : Nat, k ≤ n ∧ i = .int .i64 k ∧ Hid (S (k * 3) wr)) (fun i _ => n - (intOf i).toNat)
  case atStart => exact ⟨0, by omega, rfl, H0⟩
  case round =>
    obtain ⟨k, hk, rfl, HK⟩ := hrel
    clear H0
    by_cases hlt : k < n
    · go_wp2_with fail
      refine (HS.out k 0 hlt (by decide) _ HK.out).mono ?_
      rintro e w1 ⟨rfl, h1⟩
      have H1 := hdhid h1
      clear h1 HK
      go_wp2_with fail
      refine (HS.out k 1 hlt (by decide) _ H1.out).mono ?_
      rintro e w2 ⟨rfl, h2⟩
      have H2 := hdhid h2
      clear h2 H1
      go_wp2_with fail
      refine (HS.out k 2 hlt (by decide) _ H2.out).mono ?_
      rintro e w3 ⟨rfl, h3⟩
      have e3 : k * 3 + 2 + 1 = (k + 1) * 3 := by omega
      rw [e3] at h3
      have H3 := hdhid h3
      clear h3 H2 e3
      go_wp2_with fail
      exact ⟨⟨k + 1, by omega, by go_num, H3⟩, by simp [intOf]; omega⟩
    · have hkn : k = n := by omega
      rw [hkn] at HK
      clear hkn
      go_wp2_with fail
      go_end0
      exact ⟨rfl, HK.out⟩

set_option maxHeartbeats 1000000 in
theorem entries_none (ad : Option Addr) (cap : Nat) (f : Value) (w : World) :
    Calls Try.prog 63 #[.slice ad 0 cap, f] w fun e w' => e = .returned (.tuple #[]) ∧ w = w' := by
  go_enter Try.func63, Try.ntmps63
  go_wp2_with fail
  go_loopw [7] (fun i wr => i = .int .i64 0 ∧ w = wr) (fun _ _ => 0)
  case atStart => exact ⟨rfl, rfl⟩
  case round =>
    obtain ⟨rfl, rfl⟩ := hrel
    go_wp2_with fail
    go_end0
    exact ⟨rfl, rfl⟩
end Go.Proofs.Ytaiebhkjkeadoaa
