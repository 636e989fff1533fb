/- SpanWays walked: unlike blocks have unlike ways, each within its bounds; pointers there and back. -/
import Derived.Test.YtdkicnpbcljofaaSpanAwake
import Derived.Test.YtdkicnpbcljofaaSpanPtr
import Derived.Test.YtdkicnpbcljofaaSpanSame
import Derived.Test.YtdkicnpbcljofaaPlace
import Derived.Deep.DeepCutAuto
namespace Go.Proofs.Ytdkicnpbcljofaa
open Go.RowKit Span

/-- What is put is got. -/
theorem ptrAt_bytes (m : List Int) (k : Nat) (hk : k < 64) (h0 : 0 ≤ m.getD k 0) (h1 : m.getD k 0 < 65536) : (ptrAt (bytesS m) k : Int) = m.getD k 0 := by
  have e : part (bytesS m) (2 * k) 2 = Bin.low 2 (m.getD k 0) := by
    show ((bytesL m).drop (2 * k)).take 2 = _
    have h := bytesL_take m k hk
    have h2 := congrArg (List.drop (2 * k)) h
    rw [List.drop_take, List.drop_left' (by rw [List.length_take, bytesL_length]; omega)] at h2
    rw [show 2 * (k + 1) - 2 * k = 2 by omega] at h2
    exact h2
  unfold ptrAt
  rw [e]
  exact Bin.num_low 2 _ h0 (by omega)
theorem ptrsOf_bytes (m : List Int) (hl : m.length = 64) (h : ∀ x ∈ m, 0 ≤ x ∧ x < 65536) : ptrsOf (bytesS m) = m := by
  unfold ptrsOf
  rw [if_pos (bytesS_size m)]
  apply List.ext_getElem
  · rw [ptrsL_length, hl]
  · intro k h1 h2
    have e : m.getD k 0 = m[k] := by rw [List.getD_eq_getElem?_getD, List.getElem?_eq_getElem h2]; rfl
    have hb := h _ (List.getElem_mem h2)
    rw [ptrsL_get, ptrAt_bytes m k (by omega) (by rw [e]; exact hb.1) (by rw [e]; exact hb.2), e]

/-- The numbers that the law puts. -/
def mAt (l : List Int) (k : Nat) : Int := if k < l.length then l.getD k 0 % 65536 else k
def mL (l : List Int) : List Int := (List.range 64).map (mAt l)
theorem mL_length (l : List Int) : (mL l).length = 64 := by simp [mL]
theorem mL_take (l : List Int) (k : Nat) (hk : k < 64) : (mL l).take (k + 1) = (mL l).take k ++ [mAt l k] := by
  rw [List.take_succ_eq_append_getElem (by rw [mL_length]; exact hk)]
  simp [mL]
theorem mL_bound (l : List Int) : ∀ x ∈ mL l, 0 ≤ x ∧ x < 65536 := by
  intro x hx
  obtain ⟨k, hk, rfl⟩ := List.mem_map.1 hx
  have hk2 : k < 64 := List.mem_range.1 hk
  unfold mAt
  split
  · exact ⟨Int.emod_nonneg _ (by decide), Int.emod_lt_of_pos _ (by decide)⟩
  · omega

/-- A way that is there: within its bounds, and of one block. -/
theorem way_bounds (x : Int) (h0 : 0 ≤ x) (h1 : x < 588) : ∃ k b c, wayV x = wV k b c true ∧ 0 ≤ c ∧ c < 64 ∧ 0 ≤ b ∧ b < 8 ∧ (k = 0 ∧ c < 12 ∧ b = 0 ∧ x = c ∨ k = 1 ∧ b = 0 ∧ x = 12 + c ∨ k = 2 ∧ x = 76 + 64 * b + c) := by
  by_cases h2 : x < 12
  · exact ⟨_, _, _, wayV_straight h0 h2, by omega, by omega, by omega, by omega, Or.inl ⟨rfl, h2, rfl, rfl⟩⟩
  · by_cases h3 : x < 76
    · exact ⟨_, _, _, wayV_single (by omega) h3, by omega, by omega, by omega, by omega, Or.inr (Or.inl ⟨rfl, rfl, by omega⟩)⟩
    · exact ⟨_, _, _, wayV_double (by omega) h1, by omega, by omega, by omega, by omega, Or.inr (Or.inr ⟨rfl, by omega⟩)⟩

set_option maxRecDepth 10000 in
set_option maxHeartbeats 8000000 in
theorem spanWays_w (a0 a1 x y : Int) (a : Option Addr) (cap : Nat) (xs : List Int) (w : World) (hx : a0 % 588 = x) (hy : a1 % 588 = y) (hI : Ints w (.slice a xs.length cap) xs) (hl : xs.length ≤ 9223372036854775807) :
    Calls Try.prog 4 #[.int .i64 a0, .int .i64 a1, .slice a xs.length cap] w fun e w' => e = .returned (.bool true) ∧ Below w.heap.size w w' := by
  have P1 := spanhid fun w => gplace_t a0 588 w (by decide) (by decide)
  have P2 := spanhid fun w => gplace_t a1 588 w (by decide) (by decide)
  have x0 : 0 ≤ x := by rw [← hx]; exact Int.emod_nonneg _ (by decide)
  have x1 : x < 588 := by rw [← hx]; exact Int.emod_lt_of_pos _ (by decide)
  have y0 : 0 ≤ y := by rw [← hy]; exact Int.emod_nonneg _ (by decide)
  have y1 : y < 588 := by rw [← hy]; exact Int.emod_lt_of_pos _ (by decide)
  rw [hx] at P1
  rw [hy] at P2
  clear hx hy
  obtain ⟨_, cp, hcp, hn, hlc, hc⟩ := hI
  cases hcp
  have HC := spanhid hc
  have PL : Hid (∀ v w, Calls Try.prog 19 #[.int .i64 v, .int .i64 65536] w fun e w' => e = .returned (.int .i64 (v % 65536)) ∧ w = w') := fun v w => gplace_t v 65536 w (by decide) (by decide)
  have HM : Hid (∀ k, k < 64 → (mL xs).take (k + 1) = (mL xs).take k ++ [mAt xs k]) := mL_take xs
  have HL : Hid ((mL xs).take 64 = mL xs) := List.take_of_length_le (by rw [mL_length]; exact Nat.le_refl _)
  have HN : Hid (∀ k, k ≤ 64 → ((mL xs).take k).length = k) := fun k hk => by rw [List.length_take, mL_length]; omega
  have HLE : Hid ((mL xs).length = 64) := mL_length xs
  have HPO : Hid (ptrsOf (bytesS (mL xs)) = mL xs) := ptrsOf_bytes _ (mL_length xs) (mL_bound xs)
  have HA1 : Hid (∀ k (h : k < xs.length), mAt xs k = xs[k] % 65536) := fun k h => by unfold mAt; rw [if_pos h, List.getD_eq_getElem?_getD, List.getElem?_eq_getElem h]; rfl
  have HA2 : Hid (∀ k, xs.length ≤ k → mAt xs k = k) := fun k h => by unfold mAt; rw [if_neg (by omega)]
  generalize mL xs = M at *
  generalize mAt xs = f at *
  clear hc
  obtain ⟨k1, b1, c1, hw1, p1, p2, p3, p4, p5⟩ := way_bounds x x0 x1
  obtain ⟨k2, b2, c2, hw2, q1, q2, q3, q4, q5⟩ := way_bounds y y0 y1
  have W1 : Hid (∀ w1, Calls Try.prog 8 #[.int .i64 x] w1 fun e w' => e = .returned (wV k1 b1 c1 true) ∧ w1 = w') := fun w1 => by rw [← hw1]; exact way_t x w1
  have W2 : Hid (∀ w1, Calls Try.prog 8 #[.int .i64 y] w1 fun e w' => e = .returned (wV k2 b2 c2 true) ∧ w1 = w') := fun w1 => by rw [← hw2]; exact way_t y w1
  have W3 : Hid (∀ w1, Calls Try.prog 8 #[.int .i64 (588 + x)] w1 fun e w' => e = .returned (wV 0 0 0 false) ∧ w1 = w') := fun w1 => by rw [← wayV_none (i := 588 + x) (by omega)]; exact way_t _ w1
  have HEQ : Hid (x = y → k1 = k2 ∧ b1 = b2 ∧ c1 = c2) := fun e => by
    rw [e, hw2] at hw1
    cases hw1
    exact ⟨rfl, rfl, rfl⟩
  have HNE : Hid (k1 = k2 → b1 = b2 → c1 = c2 → x = y) := fun e1 e2 e3 => by omega
  have HP5 : Hid (k1 = 0 ∧ c1 < 12 ∧ b1 = 0 ∨ k1 = 1 ∧ b1 = 0 ∨ k1 = 2) := by show _ ∨ _; omega
  clear hw1 hw2 p5 q5 q1 q2 q3 q4
  go_enter Try.func4, Try.ntmps4
  go_wp2_with fail
  refine (P1.out _).mono ?_
  rintro e w1 ⟨rfl, rfl⟩
  clear P1
  go_wp2_with fail
  refine (P2.out _).mono ?_
  rintro e w1 ⟨rfl, rfl⟩
  clear P2
  go_wp2_with fail
  refine (W1.out _).mono ?_
  rintro e w1 ⟨rfl, rfl⟩
  clear W1
  go_wp2_with fail
  refine (W2.out _).mono ?_
  rintro e w1 ⟨rfl, rfl⟩
  clear W2
  go_wp2_with fail
  refine (W3.out _).mono ?_
  rintro e w1 ⟨rfl, rfl⟩
  go_upto_region 5 with fail
  go_cut [117] (fun v wc => v = .bool false ∧ w = wc)
  case first =>
    clear HC PL HM HL HN HLE HPO HA1 HA2
    by_cases hxy : x = y
    · subst hxy
      obtain ⟨rfl, rfl, rfl⟩ := HEQ.out rfl
      have d1 : decide (c1 < 0) = false := by simp; omega
      have d2 : decide (64 ≤ c1) = false := by simp; omega
      have d3 : decide (b1 < 0) = false := by simp; omega
      have d4 : decide (8 ≤ b1) = false := by simp; omega
      have d5 : c1 < 12 → decide (12 ≤ c1) = false := by intro h; simp; omega
      clear p1 p2 p3 p4 W3 HEQ HNE x0 x1
      rcases HP5.out with ⟨rfl, h1, rfl⟩ | ⟨rfl, rfl⟩ | rfl
      · have d6 := d5 h1
        clear d5 h1
        go_wp2_with fail; go_meet; exact ⟨rfl, rfl⟩
      · clear d5
        go_wp2_with fail; go_meet; exact ⟨rfl, rfl⟩
      · clear d5
        go_wp2_with fail; go_meet; exact ⟨rfl, rfl⟩
    · have hb : (x == y) = false := beq_eq_false_iff_ne.2 hxy
      by_cases e1 : k1 = k2
      · subst e1
        by_cases e2 : b1 = b2
        · subst e2
          have e3 : c1 ≠ c2 := fun e3 => hxy (HNE.out rfl rfl e3)
          have hc : (c1 == c2) = false := beq_eq_false_iff_ne.2 e3
          have d1 : decide (c1 < 0) = false := by simp; omega
          have d2 : decide (64 ≤ c1) = false := by simp; omega
          have d3 : decide (b1 < 0) = false := by simp; omega
          have d4 : decide (8 ≤ b1) = false := by simp; omega
          have d5 : c1 < 12 → decide (12 ≤ c1) = false := by intro h; simp; omega
          clear p1 p2 p3 p4 W3 HEQ HNE x0 x1
          rcases HP5.out with ⟨rfl, h1, rfl⟩ | ⟨rfl, rfl⟩ | rfl
          · have d6 := d5 h1
            clear d5 h1
            go_wp2_with fail; go_meet; exact ⟨rfl, rfl⟩
          · clear d5
            go_wp2_with fail; go_meet; exact ⟨rfl, rfl⟩
          · clear d5
            go_wp2_with fail; go_meet; exact ⟨rfl, rfl⟩
        · have hc : (b1 == b2) = false := beq_eq_false_iff_ne.2 e2
          have d1 : decide (c1 < 0) = false := by simp; omega
          have d2 : decide (64 ≤ c1) = false := by simp; omega
          have d3 : decide (b1 < 0) = false := by simp; omega
          have d4 : decide (8 ≤ b1) = false := by simp; omega
          have d5 : c1 < 12 → decide (12 ≤ c1) = false := by intro h; simp; omega
          clear p1 p2 p3 p4 W3 HEQ HNE x0 x1
          rcases HP5.out with ⟨rfl, h1, rfl⟩ | ⟨rfl, rfl⟩ | rfl
          · have d6 := d5 h1
            clear d5 h1
            go_wp2_with fail; go_meet; exact ⟨rfl, rfl⟩
          · clear d5
            go_wp2_with fail; go_meet; exact ⟨rfl, rfl⟩
          · clear d5
            go_wp2_with fail; go_meet; exact ⟨rfl, rfl⟩
      · have hc : (k1 == k2) = false := beq_eq_false_iff_ne.2 e1
        have d1 : decide (c1 < 0) = false := by simp; omega
        have d2 : decide (64 ≤ c1) = false := by simp; omega
        have d3 : decide (b1 < 0) = false := by simp; omega
        have d4 : decide (8 ≤ b1) = false := by simp; omega
        have d5 : c1 < 12 → decide (12 ≤ c1) = false := by intro h; simp; omega
        clear p1 p2 p3 p4 W3 HEQ HNE x0 x1
        rcases HP5.out with ⟨rfl, h1, rfl⟩ | ⟨rfl, rfl⟩ | rfl
        · have d6 := d5 h1
          clear d5 h1
          go_wp2_with fail; go_meet; exact ⟨rfl, rfl⟩
        · clear d5
          go_wp2_with fail; go_meet; exact ⟨rfl, rfl⟩
        · clear d5
          go_wp2_with fail; go_meet; exact ⟨rfl, rfl⟩
  case rest =>
    obtain ⟨rfl, rfl⟩ := hcut
    clear W3 HEQ HNE HP5 p1 p2 p3 p4
    go_wp2_with fail
    go_loopw [21, 22] (fun v c wr => ∃ k : Nat, k ≤ 64 ∧ c = .int .i64 k ∧ Hid (IOwn wr w.heap.size v (M.take k)) ∧ Hid (Below w.heap.size w wr)) (fun _ c _ => 64 - (intOf c).toNat)
    case atStart => exact ⟨0, by omega, rfl, IOwn.nil _ _, Below.refl _ _⟩
    case round =>
      obtain ⟨k, hk, rfl, HO, HB⟩ := hrel
      by_cases hlt : k < 64
      · have hsz := HB.out.size
        have HT := spanhid (HM.out k hlt)
        have hn2 : (M.take k).length ≤ 64 := by rw [HN.out k hk]; exact hk
        by_cases hkl : k < xs.length
        · obtain ⟨b, off, rfl, hb, hcell⟩ := HC.out (by omega)
          have c0 : wr.cell? ⟨b, off + k, none⟩ = some (.int .i64 xs[k]) := by rw [HB.out.cell hb]; exact hcell k hkl
          have PL2 := spanhid (fun w1 => PL.out xs[k] w1)
          rw [HA1.out k hkl] at HT
          clear hcell HC PL HM HL HN HLE HPO HA1 HA2
          generalize xs[k] % 65536 = q at *
          generalize xs[k] = u at *
          generalize M.take k = mk at *
          go_wp2_with fail
          refine (PL2.out _).mono ?_
          rintro e w1 ⟨rfl, rfl⟩
          go_wp2_with (first | (refine wpList_append_one rfl _ _ rfl w.heap.size _ mk rfl (HO.out.on ((Below.refl _ _).alloc (Nat.le_refl _) _)) wr.heap.size 1 [q] rfl 3 (0, 0) (heap_alloc_new _ _) (by simp) (by simp; omega) (by simp; omega) ?_) | fail)
          intro v' w' ho hb' hle
          rw [← HT.out] at ho
          have HO2 := spanhid ho
          have HB2 : Hid (Below w.heap.size w w') := (HB.out.alloc hsz _).trans hb'
          clear ho hb' HO HB PL2
          go_wp2_with fail
          exact ⟨⟨k + 1, by omega, by go_num, HO2, HB2⟩, by simp [intOf]; omega⟩
        · rw [HA2.out k (by omega)] at HT
          clear HC PL HM HL HN HLE HPO HA1 HA2
          generalize M.take k = mk at *
          go_wp2_with (first | (refine wpList_append_one rfl _ _ rfl w.heap.size _ mk rfl (HO.out.on ((Below.refl _ _).alloc (Nat.le_refl _) _)) wr.heap.size 1 [(k : Int)] rfl 3 (0, 0) (heap_alloc_new _ _) (by simp) (by simp; omega) (by simp; omega) ?_) | fail)
          intro v' w' ho hb' hle
          rw [← HT.out] at ho
          have HO2 := spanhid ho
          have HB2 : Hid (Below w.heap.size w w') := (HB.out.alloc hsz _).trans hb'
          clear ho hb' HO HB
          go_wp2_with fail
          exact ⟨⟨k + 1, by omega, by go_num, HO2, HB2⟩, by simp [intOf]; omega⟩
      · have hk2 : k = 64 := by omega
        subst hk2
        have HI : Hid (Ints wr u21 M) := by have := HO.out.ints; rw [HL.out] at this; exact this
        have hml : M.length ≤ 4611686018427387904 := by rw [HLE.out]; decide
        have hml2 : M.length ≤ 9223372036854775807 := by rw [HLE.out]; decide
        have hbs := bytesS_size M
        clear HC PL HM HL HN HLE HA1 HA2 HO
        have BYT : Hid (∀ v w1, Ints w1 v M → Calls Try.prog 17 #[v] w1 fun e w' => e = .returned (.string (bytesS M)) ∧ Below w1.heap.size w1 w') := fun v w1 h => bytes_t v M w1 h hml
        generalize bytesS M = T at *
        go_wp2_with fail
        refine (BYT.out _ _ HI.out).mono ?_
        rintro e w2 ⟨rfl, hb2⟩
        have HB2 : Hid (Below w.heap.size w w2) := HB.out.trans (hb2.mono HB.out.size)
        have HI2 := spanhid (HI.out.on hb2)
        clear hb2 HB HI BYT
        go_wp2_with fail
        refine (pointers_t T _ (by omega)).mono ?_
        rintro e w3 ⟨⟨p, rfl, hp⟩, hb3⟩
        have HB3 : Hid (Below w.heap.size w w3) := HB2.out.trans (hb3.mono HB2.out.size)
        have HI3 := spanhid (HI2.out.on hb3)
        rw [HPO.out] at hp
        have HP := spanhid hp
        clear hb3 hp HB2 HI2
        go_wp2_with fail
        refine (sameInts_t _ _ M M _ hml2 HP.out HI3.out).mono ?_
        rintro e w4 ⟨rfl, hb4⟩
        have HB4 : Hid (Below w.heap.size w w4) := HB3.out.trans (hb4.mono HB3.out.size)
        rw [show decide (M = M) = true from decide_eq_true rfl]
        clear hb4 HB3 HI3 HP
        go_wp2_with fail
        refine (awake_t _).mono ?_
        rintro e w5 ⟨rfl, hb5⟩
        have HB5 : Hid (Below w.heap.size w w5) := HB4.out.trans (hb5.mono HB4.out.size)
        clear hb5 HB4
        go_wp2_with fail
        go_ret
        exact ⟨rfl, HB5.out⟩

theorem spanWays_t (a0 a1 : Int) (a : Option Addr) (cap : Nat) (xs : List Int) (w : World) (hI : Ints w (.slice a xs.length cap) xs) (hl : xs.length ≤ 9223372036854775807) :
    Calls Try.prog 4 #[.int .i64 a0, .int .i64 a1, .slice a xs.length cap] w fun e w' => e = .returned (.bool true) ∧ Below w.heap.size w w' :=
  spanWays_w a0 a1 _ _ a cap xs w rfl rfl hI hl
end Go.Proofs.Ytdkicnpbcljofaa
