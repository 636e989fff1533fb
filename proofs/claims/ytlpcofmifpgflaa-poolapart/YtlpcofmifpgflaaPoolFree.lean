/- Free, Take walked. -/
import Derived.Test.YtlpcofmifpgflaaPoolOf
import Derived.Lib.MinMax
import Derived.Lib.JoinLaws
namespace Go.Proofs.Ytlpcofmifpgflaa
open Go.RowKit Go.Maps Pool

theorem cutN_is (s : Int) : (cutN s : Int) = min (max s 0) 65536 := by unfold cutN; omega
theorem cutN_le (s : Int) : cutN s ≤ 65536 := by unfold cutN; omega

theorem setMake (n m : Nat) (hm : m ≤ n) (hn : n ≤ 65536) (W : World) : (Instr.makeSlice 26 (.int .i64 0) (.int .i64 ((n : Int) - (m : Int)))).run Try.prog W = .ok (.slice (some ⟨W.heap.size, 0, none⟩) 0 (n - m)) (W.alloc (.cells (madeCells #[.int .i64 0] (n - m)) 3)) := by
  have e : (n : Int) - (m : Int) = ((n - m : Nat) : Int) := by omega
  rw [e]
  exact Go.run_make_room 26 3 (.int .i64 0) 8 Try.underlying26 Try.sinfo3 rfl .i64 .i64 (n - m) (by omega) (by omega) W

set_option maxHeartbeats 4000000 in
theorem free_t12 (s : Int) (l : List Ho) (v : Value) (w : World) (hH : Houses w v l) (hl : l.length ≤ 9223372036854775807) (hs : ∀ x ∈ l, x.segs.length ≤ 9223372036854775807) :
    Calls Try.prog 13 #[.int .i64 s, v] w fun e w' => ∃ r, e = .returned r ∧ IOwn w' w.heap.size r (freeL l (cutN s)) ∧ Below w.heap.size w w' := by
  have OF := poolhid (fun n hn => of_t12 n l v w hH hn hl hs)
  have hc := cutN_is s
  have hcl := cutN_le s
  generalize cutN s = n at *
  have HN := poolhid hcl
  clear hH hs
  go_enter Try.func13, Try.ntmps13
  go_wp2_with fail
  rw [← hc]
  refine (OF.out n hcl).mono ?_
  rintro e w1 ⟨D, rfl, hO, hS, hB⟩
  have HO : Hid (OSet w1 w.heap.size D) := hO
  have HS : Hid (IsSet D n (supL l n)) := hS
  have HB : Hid (Below w.heap.size w w1) := hB
  have hle := hS.le
  have HB1 : Hid (Below w.heap.size w w1) := hB
  have hmk := setMake n (Maps.size D) hle hcl
  clear hO hS hB OF hc
  go_wp2_with (first
    | (at_len; refine wpList_len_own _ rfl _ 40 rfl 3 42 Try.underlying40 _ w.heap.size (Maps.size D) D rfl HO.out ?_)
    | fail)
  have HM : Hid ((w1.alloc (.cells (madeCells #[Value.int .i64 0] (n - Maps.size D)) 3)).ownsRow w1.heap.size 3 1 (.slice (some ⟨w1.heap.size, 0, none⟩) 0 (n - Maps.size D)) 0 []) := World.ownsRow_made w1 _ _ (Nat.le_refl _) (by unfold maxLen; omega) (by rw [size_madeCells, Nat.mul_one])
  have hBm := HO.out.lt
  generalize n - Maps.size D = cp at *
  clear hmk
  go_loopw [6, 22] (fun r i wr => ∃ k : Nat, k ≤ n ∧ i = .int .i64 k ∧ Hid (IOwn wr w1.heap.size r (freeL l k)) ∧ Hid (OSet wr w.heap.size D) ∧ Hid (Below w.heap.size w wr) ∧ Hid (w1.heap.size ≤ wr.heap.size)) (fun _ i _ => n - (intOf i).toNat)
  case atStart => exact ⟨0, by omega, rfl, HM, HO.out.on ((Below.refl _ _).alloc (Nat.le_refl _) _), HB.out.alloc HB.out.size _, by show _ ≤ _; simp⟩
  case round =>
    obtain ⟨k, hk, rfl, HR, HO2, HB2, HZ⟩ := hrel
    by_cases hlt : k < n
    · have hkey : keyOf Try.prog 3 (.int .i64 k) = some (.int .i64 k) := keyOf_int_mk Try.underlying3 (wf_small (by omega) (by omega))
      have hfl := freeL_le l k
      have hsz := HZ.out
      cases ht : tkn l k with
      | false =>
        have hh : Maps.has D (.int .i64 k) = false := by rw [HS.out.2.1, supL, ht]; rfl
        have HF := poolhid (freeL_yes l k ht)
        clear HM HO HB
        generalize freeL l k = fk at *
        go_wp2_with (first
          | (at_lookup; refine wpList_lookup_own_unit _ rfl _ _ 40 rfl 3 42 setKeys Try.underlying40 (setZero _) w.heap.size _ D rfl HO2.out _ _ rfl hkey ?_)
          | (refine wpList_append_one rfl _ _ rfl w1.heap.size _ fk rfl (HR.out.on (((Below.refl _ _).alloc (Nat.le_refl _) _).alloc (by simp) _)) (wr.heap.size + 1) 1 [(k : Int)] rfl 3 (0, 0) ?_ (by simp) (by simp; omega) (by simp; omega) ?_)
          | fail)
        · have := heap_alloc_new (wr.alloc (.cells #[] 42)) (.cells #[Value.int .i64 (k : Int)] 3)
          rw [show (wr.alloc (.cells #[] 42)).heap.size = wr.heap.size + 1 by simp] at this
          exact this
        · intro v' w' ho hb hle
          rw [← HF.out] at ho
          have HR2 := poolhid ho
          have HB3 : Hid (Below w1.heap.size wr w') := ((((Below.refl _ wr).alloc (by omega) _).alloc (by simp; omega) _).trans hb)
          have HO3 : Hid (OSet w' w.heap.size D) := HO2.out.keep hBm HB3.out
          have HB4 : Hid (Below w.heap.size w w') := HB2.out.trans (HB3.out.mono (by omega))
          have HZ2 : Hid (w1.heap.size ≤ w'.heap.size) := Nat.le_trans HZ.out HB3.out.size
          clear ho hb hle HR HO2 HB2 HZ HB3
          go_wp2_with fail
          exact ⟨⟨k + 1, by omega, by go_num, HR2, HO3, HB4, HZ2⟩, by simp [intOf]; omega⟩
      | true =>
        have hh : Maps.has D (.int .i64 k) = true := by rw [HS.out.2.1, supL, ht]; simp; omega
        have HF := poolhid (freeL_no l k ht)
        clear HM HO HB
        generalize freeL l k = fk at *
        go_wp2_with (first
          | (at_lookup; refine wpList_lookup_own_unit _ rfl _ _ 40 rfl 3 42 setKeys Try.underlying40 (setZero _) w.heap.size _ D rfl HO2.out _ _ rfl hkey ?_)
          | fail)
        rw [← HF.out] at HR
        refine ⟨⟨k + 1, by omega, by go_num, HR.out.on ((Below.refl _ _).alloc (Nat.le_refl _) _), HO2.out.on ((Below.refl _ _).alloc (Nat.le_refl _) _), HB2.out.alloc HB2.out.size _, ?_⟩, by simp [intOf]; omega⟩
        show _ ≤ _
        simp
        omega
    · have hkn : k = n := by omega
      subst hkn
      clear HM HO HB
      go_wp2_with fail
      go_ret
      exact ⟨_, rfl, HR.out.low HB1.out.size, HB2.out⟩

/-- The first n of F; none: there are fewer, or n is below 0. -/
def TakeIs (F : List Int) (n : Int) (ok : Bool) (m : List Int) : Prop := (ok = true ∧ 0 ≤ n ∧ n ≤ F.length ∧ m = F.take n.toNat) ∨ (ok = false ∧ (n < 0 ∨ F.length < n) ∧ m = [])

set_option maxHeartbeats 4000000 in
theorem take_t12 (s n : Int) (l : List Ho) (v : Value) (w : World) (hH : Houses w v l) (hl : l.length ≤ 9223372036854775807) (hs : ∀ x ∈ l, x.segs.length ≤ 9223372036854775807) :
    Calls Try.prog 10 #[.int .i64 s, v, .int .i64 n] w fun e w' => ∃ r ok m, e = .returned (.tuple #[r, .bool ok]) ∧ TakeIs (freeL l (cutN s)) n ok m ∧ Ints w' r m ∧ (∀ k, r.ownBlock = some k → w.heap.size ≤ k ∧ k < w'.heap.size) ∧ Below w.heap.size w w' := by
  have FT := poolhid (free_t12 s l v w hH hl hs)
  have hfl := freeL_le l (cutN s)
  have hcl := cutN_le s
  generalize freeL l (cutN s) = F at *
  clear hH hs
  by_cases h0 : n < 0
  · have d0 : decide (n < 0) = true := decide_eq_true h0
    go_enter Try.func10, Try.ntmps10
    go_wp2_with fail
    refine FT.out.mono ?_
    rintro e w1 ⟨r, rfl, hO, hB⟩
    have HB := poolhid hB
    clear FT hO hB
    go_wp2_with fail
    go_ret2
    exact ⟨_, false, [], rfl, .inr ⟨rfl, .inl h0, rfl⟩, Ints.nil _, (fun k hk => by simp [Value.ownBlock] at hk), HB.out⟩
  · obtain ⟨m, rfl⟩ : ∃ m : Nat, n = (m : Int) := ⟨n.toNat, by omega⟩
    have d0 : decide ((m : Int) < 0) = false := decide_eq_false h0
    go_enter Try.func10, Try.ntmps10
    go_wp2_with fail
    refine FT.out.mono ?_
    rintro e w1 ⟨r, rfl, hO, hB⟩
    have HB := poolhid hB
    have HI := poolhid hO.ints
    have HLT := poolhid hO.lt
    have hsl : ∃ ad cap, r = .slice ad F.length cap ∧ ((ad = none ∧ cap = 0) ∨ ∃ b, ad = some ⟨b, 0, none⟩) := by
      rcases hO.2 with ⟨rfl, h0⟩ | ⟨g, cap, cur, rfl, -⟩
      · exact ⟨none, 0, by rw [h0], .inl ⟨rfl, rfl⟩⟩
      · exact ⟨_, cap, rfl, .inr ⟨g, rfl⟩⟩
    obtain ⟨ad, cap, rfl, hsl⟩ := hsl
    clear FT hO hB
    by_cases h1 : F.length < m
    · have d1 : decide ((F.length : Int) < (m : Int)) = true := decide_eq_true (by omega)
      go_wp2_with fail
      go_ret2
      exact ⟨_, false, [], rfl, .inr ⟨rfl, .inr (by omega), rfl⟩, Ints.nil _, (fun k hk => by simp [Value.ownBlock] at hk), HB.out⟩
    · have d1 : decide ((F.length : Int) < (m : Int)) = false := decide_eq_false (by omega)
      obtain ⟨-, hlc, -, -, hI2⟩ := HI.out.take m (by omega)
      have HI2 := poolhid hI2
      have hmc : m ≤ cap := by omega
      have HT : Hid (TakeIs F m true (F.take m)) := .inl ⟨rfl, by omega, by omega, by simp⟩
      clear HI hI2
      rcases hsl with ⟨rfl, rfl⟩ | ⟨b, rfl⟩
      · have hm0 : m = 0 := by omega
        subst hm0
        go_wp2_with fail
        go_ret2
        exact ⟨_, true, _, rfl, HT.out, HI2.out, HLT.out, HB.out⟩
      · go_wp2_with fail
        go_ret2
        exact ⟨_, true, _, rfl, HT.out, HI2.out, HLT.out, HB.out⟩
end Go.Proofs.Ytlpcofmifpgflaa
