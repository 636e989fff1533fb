/- PoolAll: any houses: as the document's own answer. -/
import Derived.Test.YtlpcofmifpgflaaPoolAwake
import Derived.Test.YtlpcofmifpgflaaPoolRef
import Derived.Test.YtlpcofmifpgflaaPoolSame
import Derived.Test.YtlpcofmifpgflaaPlace
namespace Go.Proofs.Ytlpcofmifpgflaa
open Go.RowKit Pool

set_option maxHeartbeats 2000000 in
theorem few_t12 (l : List Ho) (v : Value) (w : World) (hH : Houses w v l) (hl : l.length ≤ 9223372036854775807) (hs : ∀ x ∈ l, x.segs.length ≤ 9223372036854775807) :
    Calls Try.prog 7 #[v] w fun e w' => ∃ b, e = .returned (.bool b) ∧ w = w' := by
  obtain ⟨ad, cap, rfl, -, hc⟩ := hH
  have HC := poolhid hc
  clear hc
  go_enter Try.func7, Try.ntmps7
  go_wp2_with fail
  go_loopw [3] (fun c wr => ∃ i : Nat, i ≤ l.length ∧ i ≤ 20 ∧ c = .int .i64 i ∧ w = wr) (fun c _ => l.length - (intOf c).toNat)
  case atStart => exact ⟨0, by omega, by omega, rfl, rfl⟩
  case round =>
    obtain ⟨i, hi, hi20, rfl, rfl⟩ := hrel
    by_cases hil : i < l.length
    · by_cases h20 : i < 20
      · obtain ⟨bk, off, rfl, hb, hcell⟩ := HC.out (by omega)
        obtain ⟨sv, hh⟩ := hcell i hil
        have HSL := hs l[i] (List.getElem_mem hil)
        clear hcell HC
        obtain ⟨-, -, -, -, -, -, -, -, -, c9, hI⟩ := hh
        obtain ⟨sa, sc, rfl, -, -, -⟩ := hI
        generalize l[i] = x at *
        by_cases h60 : 60 < x.segs.length
        · go_wp2_with fail
          go_ret
          exact ⟨_, rfl, rfl⟩
        · have d60 : decide ((60 : Int) < (x.segs.length : Int)) = false := decide_eq_false (by omega)
          go_wp2_with fail
          exact ⟨⟨i + 1, by omega, by omega, by go_num, trivial⟩, by simp [intOf]; omega⟩
      · have hi2 : i = 20 := by omega
        subst hi2
        go_wp2_with fail
        go_ret
        exact ⟨_, rfl, rfl⟩
    · have hin : i = l.length := by omega
      subst hin
      go_wp2_with fail
      go_ret
      exact ⟨_, rfl, rfl⟩

theorem takeIs_one {F : List Int} {n : Int} {a b : Bool} {m p : List Int} (h : TakeIs F n a m) (k : TakeIs F n b p) : a = b ∧ m = p := by
  rcases h with ⟨rfl, h0, h1, rfl⟩ | ⟨rfl, h0, rfl⟩ <;> rcases k with ⟨rfl, k0, k1, rfl⟩ | ⟨rfl, k0, rfl⟩
  · exact ⟨rfl, rfl⟩
  · omega
  · omega
  · exact ⟨rfl, rfl⟩

set_option maxHeartbeats 4000000 in
theorem poolAll_t (s n : Int) (l : List Ho) (v : Value) (w : World) (hH : Houses w v l) (hl : l.length ≤ 9223372036854775807) (hs : ∀ x ∈ l, x.segs.length ≤ 9223372036854775807) :
    Calls Try.prog 3 #[.int .i64 s, v, .int .i64 n] w fun e w' => e = .returned (.bool true) ∧ Below w.heap.size w w' := by
  have FEW := poolhid (few_t12 l v w hH hl hs)
  have AW := poolhid awake_t12
  have PL := poolhid (fun W => gplace_t s 120 W (by decide) (by decide))
  have SM := poolhid same_yes
  have h0 := Int.emod_nonneg s (show (120 : Int) ≠ 0 by decide)
  have h1 := Int.emod_lt_of_pos s (show (0 : Int) < 120 by decide)
  generalize s % 120 = k at *
  have FR := poolhid (fun W (h : Below w.heap.size w W) => free_t12 k l v W (hH.on h) hl hs)
  have F0 := poolhid (fun W (h : Below w.heap.size w W) => free_t12 (-1 - k) l v W (hH.on h) hl hs)
  have RF := poolhid (fun W (h : Below w.heap.size w W) => rfree_t12 k l v W (hH.on h) hl hs)
  have TK := poolhid (fun W (h : Below w.heap.size w W) => take_t12 k n l v W (hH.on h) hl hs)
  have RT := poolhid (fun W (h : Below w.heap.size w W) => rtake_t12 k n l v W (hH.on h) hl hs)
  have e0 : cutN (-1 - k) = 0 := by unfold cutN; omega
  have e1 : freeL l (cutN (-1 - k)) = [] := by rw [e0]; rfl
  rw [e1] at F0
  have hfl := freeL_le l (cutN k)
  have hcl := cutN_le k
  generalize freeL l (cutN k) = F at *
  clear hH hs e0 e1
  go_enter Try.func3, Try.ntmps3
  go_wp2_with fail
  refine FEW.out.mono ?_
  rintro e w1 ⟨b, rfl, rfl⟩
  cases b with
  | false =>
    go_wp2_with fail
    refine (AW.out _).mono ?_
    rintro e w1 ⟨rfl, hB⟩
    go_wp2_with fail
    go_ret
    exact ⟨rfl, hB⟩
  | true =>
    go_wp2_with fail
    refine (PL.out _).mono ?_
    rintro e w1 ⟨rfl, rfl⟩
    go_wp2_with fail
    refine (TK.out w (Below.refl _ _)).mono ?_
    rintro e w1 ⟨r1, ok1, m1, rfl, hT1, hI1, -, hB1⟩
    go_wp2_with fail
    refine (RT.out w1 hB1).mono ?_
    rintro e w2 ⟨r2, ok2, m2, rfl, hT2, hI2, -, hB2⟩
    obtain ⟨rfl, rfl⟩ := takeIs_one hT1 hT2
    have hm63 : m1.length ≤ 9223372036854775807 := by
      rcases hT1 with ⟨-, -, -, rfl⟩ | ⟨-, -, rfl⟩
      · rw [List.length_take]; omega
      · simp
    have W2 : Below w.heap.size w w2 := hB1.trans (hB2.mono hB1.size)
    have I1 := poolhid (hI1.on hB2)
    have I2 := poolhid hI2
    clear hT1 hT2 hI1 hI2 hB2 hB1
    go_wp2_with fail
    refine (FR.out w2 W2).mono ?_
    rintro e w3 ⟨r3, rfl, hO3, hB3⟩
    have W3 : Below w.heap.size w w3 := W2.trans (hB3.mono W2.size)
    have J1 := poolhid (I1.out.on hB3)
    have J2 := poolhid (I2.out.on hB3)
    have J3 := poolhid hO3.ints
    clear I1 I2 hO3 hB3 W2
    go_wp2_with fail
    refine (RF.out w3 W3).mono ?_
    rintro e w4 ⟨r4, rfl, hO4, hB4⟩
    have W4 : Below w.heap.size w w4 := W3.trans (hB4.mono W3.size)
    have I1 := poolhid (J1.out.on hB4)
    have I2 := poolhid (J2.out.on hB4)
    have I3 := poolhid (J3.out.on hB4)
    have I4 := poolhid hO4.ints
    clear J1 J2 J3 hO4 hB4 W3
    go_wp2_with fail
    refine (SM.out r3 r4 F w4 (by omega) I3.out I4.out).mono ?_
    rintro e w5 ⟨rfl, hB5⟩
    have W5 : Below w.heap.size w w5 := W4.trans (hB5.mono W4.size)
    have J1 := poolhid (I1.out.on hB5)
    have J2 := poolhid (I2.out.on hB5)
    clear I1 I2 I3 I4 hB5 W4
    go_wp2_with fail
    refine (SM.out r1 r2 m1 w5 hm63 J1.out J2.out).mono ?_
    rintro e w6 ⟨rfl, hB6⟩
    have W6 : Below w.heap.size w w6 := W5.trans (hB6.mono W5.size)
    have eb : (ok1 == ok1) = true := by simp
    clear J1 J2 hB6 W5
    go_wp2_with fail
    refine (F0.out w6 W6).mono ?_
    rintro e w7 ⟨r7, rfl, hO7, hB7⟩
    obtain ⟨ad7, cap7, rfl⟩ := hO7.slice
    have W7 : Below w.heap.size w w7 := W6.trans (hB7.mono W6.size)
    clear hO7 hB7 W6
    go_wp2_with fail
    refine (AW.out _).mono ?_
    rintro e w8 ⟨rfl, hB8⟩
    have W8 : Below w.heap.size w w8 := W7.trans (hB8.mono W7.size)
    clear hB8 W7
    go_wp2_with fail
    go_ret
    exact ⟨rfl, W8⟩
end Go.Proofs.Ytlpcofmifpgflaa
