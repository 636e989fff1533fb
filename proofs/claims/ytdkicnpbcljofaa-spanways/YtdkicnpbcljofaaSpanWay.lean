/- The program's Way and Blocks walked, and the document's. -/
import Derived.Test.YtdkicnpbcljofaaSpanPlain
import Derived.Test.YtdkicnpbcljofaaSpanLay
import Derived.Lib.MinMax
namespace Go.Proofs.Ytdkicnpbcljofaa
open Go.RowKit Span

set_option maxHeartbeats 1000000 in
theorem kindOf_t (i k : Int) (w : World) (h : i < 12 ∧ k = 0 ∨ 12 ≤ i ∧ i < 76 ∧ k = 1 ∨ 76 ≤ i ∧ k = 2) :
    Calls Try.prog 20 #[.int .i64 i] w fun e w' => e = .returned (.int .i64 k) ∧ w = w' := by
  rcases h with ⟨h1, rfl⟩ | ⟨h1, h2, rfl⟩ | ⟨h1, rfl⟩
  all_goals
    go_enter Try.func20, Try.ntmps20
    go_wp2
    go_ret
    exact ⟨rfl, rfl⟩

set_option maxHeartbeats 2000000 in
theorem way_t (i : Int) (w : World) :
    Calls Try.prog 8 #[.int .i64 i] w fun e w' => e = .returned (wayV i) ∧ w = w' := by
  by_cases h : i < 0
  · rw [wayV_none (Or.inl h)]
    go_enter Try.func8, Try.ntmps8
    go_wp2
    exact bodyPost_ret (v := wV 0 0 0 false) (by simp [results, Try.results8, go_sem]) rfl ⟨rfl, rfl⟩
  · by_cases h1 : 588 ≤ i
    · rw [wayV_none (Or.inr h1)]
      go_enter Try.func8, Try.ntmps8
      go_wp2
      exact bodyPost_ret (v := wV 0 0 0 false) (by simp [results, Try.results8, go_sem]) rfl ⟨rfl, rfl⟩
    · by_cases h2 : i < 12
      · rw [wayV_straight (by omega) h2]
        have K := spanhid (fun w => kindOf_t i 0 w (by omega))
        have e1 : i.tdiv 64 = 0 := by rw [Int.tdiv_eq_ediv_of_nonneg (by omega)]; omega
        have e2 : i.tmod 64 = i := by rw [Int.tmod_eq_emod_of_nonneg (by omega)]; omega
        have h3 : 0 ≤ i := by omega
        clear h
        go_enter Try.func8, Try.ntmps8
        go_wp2_with fail
        refine (K.out _).mono ?_
        rintro e w1 ⟨rfl, rfl⟩
        go_wp2_with fail
        exact bodyPost_ret (v := wV 0 0 i true) (by simp [results, Try.results8, go_sem]) rfl ⟨rfl, rfl⟩
      · by_cases h3 : i < 76
        · rw [wayV_single (by omega) h3]
          have K := spanhid (fun w => kindOf_t i 1 w (by omega))
          obtain ⟨j, hj⟩ : ∃ j, i - 12 = j := ⟨_, rfl⟩
          have e1 : j.tdiv 64 = 0 := by rw [Int.tdiv_eq_ediv_of_nonneg (by omega)]; omega
          have e2 : j.tmod 64 = j := by rw [Int.tmod_eq_emod_of_nonneg (by omega)]; omega
          have hi : i = j + 12 := by omega
          subst hi
          clear hj
          have h4 : 0 ≤ j := by omega
          rw [show j + 12 - 12 = j by omega]
          go_enter Try.func8, Try.ntmps8
          go_wp2_with fail
          refine (K.out _).mono ?_
          rintro e w1 ⟨rfl, rfl⟩
          go_wp2_with fail
          exact bodyPost_ret (v := wV 1 0 j true) (by simp [results, Try.results8, go_sem]) rfl ⟨rfl, rfl⟩
        · rw [wayV_double (by omega) (by omega)]
          have K := spanhid (fun w => kindOf_t i 2 w (by omega))
          go_enter Try.func8, Try.ntmps8
          go_wp2_with fail
          refine (K.out _).mono ?_
          rintro e w1 ⟨rfl, rfl⟩
          go_wp2_with fail
          exact bodyPost_ret (v := wV 2 ((i - 76) / 64) ((i - 76) % 64) true) (by simp [results, Try.results8, go_sem]; omega) rfl ⟨rfl, rfl⟩
set_option maxHeartbeats 2000000 in
theorem rway_t (i : Int) (w : World) :
    Calls Try.prog 9 #[.int .i64 i] w fun e w' => e = .returned (wayV i) ∧ w = w' := by
  by_cases h : i < 0
  · rw [wayV_none (Or.inl h)]
    go_enter Try.func9, Try.ntmps9
    go_wp2
    exact bodyPost_ret (v := wV 0 0 0 false) (by simp [results, Try.results9, go_sem]) rfl ⟨rfl, rfl⟩
  · by_cases h1 : 588 ≤ i
    · rw [wayV_none (Or.inr h1)]
      go_enter Try.func9, Try.ntmps9
      go_wp2
      exact bodyPost_ret (v := wV 0 0 0 false) (by simp [results, Try.results9, go_sem]) rfl ⟨rfl, rfl⟩
    · by_cases h2 : i < 12
      · rw [wayV_straight (by omega) h2]
        go_enter Try.func9, Try.ntmps9
        go_wp2
        exact bodyPost_ret (v := wV 0 0 i true) (by simp [results, Try.results9, go_sem]) rfl ⟨rfl, rfl⟩
      · by_cases h3 : i < 76
        · rw [wayV_single (by omega) h3]
          go_enter Try.func9, Try.ntmps9
          go_wp2
          exact bodyPost_ret (v := wV 1 0 (i - 12) true) (by simp [results, Try.results9, go_sem]) rfl ⟨rfl, rfl⟩
        · rw [wayV_double (by omega) (by omega)]
          go_enter Try.func9, Try.ntmps9
          go_wp2
          exact bodyPost_ret (v := wV 2 ((i - 76) / 64) ((i - 76) % 64) true) (by simp [results, Try.results9, go_sem]; omega) rfl ⟨rfl, rfl⟩

set_option maxHeartbeats 1000000 in
theorem blocks_t (v : Int) (w : World) :
    Calls Try.prog 12 #[.int .i64 v] w fun e w' => e = .returned (.int .i64 (blocks v)) ∧ w = w' := by
  obtain ⟨m, hm⟩ : ∃ m, max v 0 = m := ⟨_, rfl⟩
  obtain ⟨n, hn⟩ : ∃ n, min m 150528 = n := ⟨_, rfl⟩
  have h0 : 0 ≤ n := by omega
  have h1 : n ≤ 150528 := by omega
  have HB : Hid ((n + 255) / 256 = blocks v) := by
    show _ = _
    unfold blocks
    rw [hm, hn]
  go_enter Try.func12, Try.ntmps12
  go_wp2
  go_ret
  exact ⟨spanInt (by rw [← HB.out]; omega), rfl⟩

set_option maxHeartbeats 1000000 in
theorem rblocks_t (v : Int) (w : World) :
    Calls Try.prog 13 #[.int .i64 v] w fun e w' => e = .returned (.int .i64 (blocks v)) ∧ w = w' := by
  obtain ⟨m, hm⟩ : ∃ m, max v 0 = m := ⟨_, rfl⟩
  obtain ⟨n, hn⟩ : ∃ n, min m 150528 = n := ⟨_, rfl⟩
  have h0 : 0 ≤ n := by omega
  have h1 : n ≤ 150528 := by omega
  have HB : Hid ((n + 255) / 256 = blocks v) := by
    show _ = _
    unfold blocks
    rw [hm, hn]
  go_enter Try.func13, Try.ntmps13
  go_wp2
  go_ret
  exact ⟨spanInt (by rw [← HB.out]; omega), rfl⟩
end Go.Proofs.Ytdkicnpbcljofaa
