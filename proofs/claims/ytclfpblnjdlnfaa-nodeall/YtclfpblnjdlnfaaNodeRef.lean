/- The document's own answers of chapter 9: in, Check, num walked. -/
import Derived.Test.YtclfpblnjdlnfaaNodeSame
import Derived.Test.YtclfpblnjdlnfaaBinRef
import Derived.Test.YtclfpblnjdlnfaaCrcRef
namespace Go.Proofs.Ytclfpblnjdlnfaa
open Go.RowKit Rec Nod

set_option maxHeartbeats 400000 in
theorem rin_t (v a b : Int) (w : World) : Calls Try.prog 30 #[.int .i64 v, .int .i64 a, .int .i64 b] w fun e w' => e = .returned (.bool (inB v a b)) ∧ w = w' := by
  by_cases h1 : a ≤ v
  · by_cases h2 : v ≤ b
    · have e : Hid (inB v a b = true) := inB_yes h1 h2
      go_enter Try.func30, Try.ntmps30
      go_wp2
      go_ret
      exact ⟨ndBool e.out.symm, rfl⟩
    · have e : Hid (inB v a b = false) := by show _ = _; simp [inB, h2]
      have d : decide (v ≤ b) = false := by simp; omega
      go_enter Try.func30, Try.ntmps30
      go_wp2
      go_ret
      exact ⟨ndBool e.out.symm, rfl⟩
  · have e : Hid (inB v a b = false) := by show _ = _; simp [inB, h1]
    go_enter Try.func30, Try.ntmps30
    go_wp2
    go_ret
    exact ⟨ndBool e.out.symm, rfl⟩


/-- A node's pointers may be. -/
def pB (x : Nd) : Bool := (List.range 14).all fun i => inB (x.ptr i) 0 16383
/-- A node's other numbers may be. -/
def rB (x : Nd) : Bool := inB x.num 1 255 && (inB x.kind 1 2 && (inB x.links 0 100 && (inB x.size 0 150528 && ((decide (x.kind = 1) || decide (x.size % 256 = 0)) && inB x.time 0 1099511627776))))
theorem okB_parts (x : Nd) : okB x = (pB x && rB x) := by
  simp [okB, pB, rB, List.range, List.range.loop, Nd.ptr, Bool.and_assoc]
theorem pB_no (x : Nd) (k : Nat) (hk : k < 14) (h : inB (x.ptr k) 0 16383 = false) : okB x = false := by
  have : pB x = false := by
    rw [pB, List.all_eq_false]
    exact ⟨k, by simpa using hk, by rw [h]; decide⟩
  rw [okB_parts, this]
  rfl
theorem pB_yes (x : Nd) (h : ∀ i, i < 14 → inB (x.ptr i) 0 16383 = true) : okB x = rB x := by
  have : pB x = true := by
    rw [pB, List.all_eq_true]
    exact fun i hi => h i (by simpa using hi)
  rw [okB_parts, this]
  rfl

set_option maxRecDepth 10000 in
set_option maxHeartbeats 4000000 in
theorem rcheck_t (x : Nd) (w : World) : Calls Try.prog 13 #[nodeV x] w fun e w' => e = .returned (.bool (okB x)) ∧ Below w.heap.size w w' := by
  have C := ndhid rin_t
  go_enter Try.func13, Try.ntmps13
  go_wp2_with fail
  generalize hW : w.alloc _ = W
  have HX : Hid (W.heap[w.heap.size]? = some (.cells (nodeC x) 24 (0, 0))) := by rw [← hW]; exact heap_alloc_new _ _
  have HB : Hid (Below w.heap.size w W) := by rw [← hW]; exact (Below.refl _ w).alloc (Nat.le_refl _) _
  clear hW
  go_loopw [3] (fun c wr => ∃ k : Nat, k ≤ 14 ∧ c = .int .i64 k ∧ Hid (∀ i, i < k → inB (x.ptr i) 0 16383 = true) ∧ W = wr) (fun c _ => 14 - (intOf c).toNat)
  case atStart => exact ⟨0, by omega, rfl, fun i h => by omega, rfl⟩
  case round =>
    obtain ⟨k, hk, rfl, HP, rfl⟩ := hrel
    by_cases hk2 : k < 14
    · have c0 : W.cell? ⟨w.heap.size, 5 + k, none⟩ = some (.int .i64 (x.ptr k)) := (cell_of_row W _ _ _ _ _ HX.out).trans (node_cell x k hk2)
      cases e : inB (x.ptr k) 0 16383
      · have HO := ndhid (pB_no x k hk2 e)
        generalize x.ptr k = q at *
        go_wp2_with (first | (go_at_call 30; refine (C.out _ _ _ _).mono ?_; rintro e w' ⟨rfl, rfl⟩) | fail)
        go_ret
        exact ⟨ndBool HO.out.symm, HB.out⟩
      · have HP2 : Hid (∀ i, i < k + 1 → inB (x.ptr i) 0 16383 = true) := fun i hi => by
          by_cases h : i = k
          · subst h; exact e
          · exact HP.out i (by omega)
        generalize x.ptr k = q at *
        go_wp2_with (first | (go_at_call 30; refine (C.out _ _ _ _).mono ?_; rintro e w' ⟨rfl, rfl⟩) | fail)
        exact ⟨⟨k + 1, by omega, rfl, HP2, trivial⟩, by simp [intOf]; omega⟩
    · have hk3 : k = 14 := by omega
      subst hk3
      have HO := ndhid (pB_yes x HP.out)
      have HR : Hid (rB x = (inB x.num 1 255 && (inB x.kind 1 2 && (inB x.links 0 100 && (inB x.size 0 150528 && ((decide (x.kind = 1) || decide (x.size % 256 = 0)) && inB x.time 0 1099511627776)))))) := rfl
      clear hk hk2 HP
      have c0 : W.cell? ⟨w.heap.size, 0, none⟩ = some (.int .i64 x.num) := (cell_of_row W _ _ _ _ _ HX.out).trans rfl
      have c1 : W.cell? ⟨w.heap.size, 1, none⟩ = some (.int .i64 x.kind) := (cell_of_row W _ _ _ _ _ HX.out).trans rfl
      have c2 : W.cell? ⟨w.heap.size, 2, none⟩ = some (.int .i64 x.links) := (cell_of_row W _ _ _ _ _ HX.out).trans rfl
      have c3 : W.cell? ⟨w.heap.size, 3, none⟩ = some (.int .i64 x.size) := (cell_of_row W _ _ _ _ _ HX.out).trans rfl
      have c4 : W.cell? ⟨w.heap.size, 4, none⟩ = some (.int .i64 x.time) := (cell_of_row W _ _ _ _ _ HX.out).trans rfl
      clear HX
      generalize x.num = num at *
      generalize x.kind = kind at *
      generalize x.links = links at *
      generalize x.size = size at *
      generalize x.time = time at *
      cases e0 : inB num 1 255
      · rw [e0] at HR
        go_wp2_with (first | (go_at_call 30; refine (C.out _ _ _ _).mono ?_; rintro e w' ⟨rfl, rfl⟩) | fail)
        go_ret
        exact ⟨ndBool (by rw [HO.out, HR.out]; rfl), HB.out⟩
      cases e1 : inB kind 1 2
      · rw [e0, e1] at HR
        go_wp2_with (first | (go_at_call 30; refine (C.out _ _ _ _).mono ?_; rintro e w' ⟨rfl, rfl⟩) | fail)
        go_ret
        exact ⟨ndBool (by rw [HO.out, HR.out]; rfl), HB.out⟩
      cases e2 : inB links 0 100
      · rw [e0, e1, e2] at HR
        go_wp2_with (first | (go_at_call 30; refine (C.out _ _ _ _).mono ?_; rintro e w' ⟨rfl, rfl⟩) | fail)
        go_ret
        exact ⟨ndBool (by rw [HO.out, HR.out]; rfl), HB.out⟩
      cases e3 : inB size 0 150528
      · rw [e0, e1, e2, e3] at HR
        go_wp2_with (first | (go_at_call 30; refine (C.out _ _ _ _).mono ?_; rintro e w' ⟨rfl, rfl⟩) | fail)
        go_ret
        exact ⟨ndBool (by rw [HO.out, HR.out]; rfl), HB.out⟩
      have hs := inB_iff.1 e3
      have hs0 := hs.1
      have hs1 := hs.2
      clear hs
      by_cases h1 : kind = 1
      · have hb : (kind == 1) = true := by rw [h1]; rfl
        have h1d : Hid (decide (kind = 1) = true) := decide_eq_true h1
        clear h1
        rw [e0, e1, e2, e3, h1d.out] at HR
        cases e4 : inB time 0 1099511627776
        · rw [e4] at HR
          go_wp2_with (first | (go_at_call 30; refine (C.out _ _ _ _).mono ?_; rintro e w' ⟨rfl, rfl⟩) | fail)
          go_ret
          exact ⟨ndBool (by rw [HO.out, HR.out]; rfl), HB.out⟩
        · rw [e4] at HR
          go_wp2_with (first | (go_at_call 30; refine (C.out _ _ _ _).mono ?_; rintro e w' ⟨rfl, rfl⟩) | fail)
          go_ret
          exact ⟨ndBool (by rw [HO.out, HR.out]; rfl), HB.out⟩
      · have hb : (kind == 1) = false := by rw [beq_eq_false_iff_ne]; exact h1
        have h1d : Hid (decide (kind = 1) = false) := decide_eq_false h1
        clear h1
        obtain ⟨r, hr⟩ : ∃ r : Nat, size % 256 = (r : Int) := ⟨(size % 256).toNat, by omega⟩
        rw [e0, e1, e2, e3, h1d.out, hr] at HR
        by_cases h2 : r = 0
        · subst h2
          rw [show decide (((0 : Nat) : Int) = 0) = true from rfl] at HR
          have hr0 : size % 256 = 0 := hr
          clear hr
          cases e4 : inB time 0 1099511627776
          · rw [e4] at HR
            go_wp2_with (first | (go_at_call 30; refine (C.out _ _ _ _).mono ?_; rintro e w' ⟨rfl, rfl⟩) | fail)
            go_ret
            exact ⟨ndBool (by rw [HO.out, HR.out]; rfl), HB.out⟩
          · rw [e4] at HR
            go_wp2_with (first | (go_at_call 30; refine (C.out _ _ _ _).mono ?_; rintro e w' ⟨rfl, rfl⟩) | fail)
            go_ret
            exact ⟨ndBool (by rw [HO.out, HR.out]; rfl), HB.out⟩
        · have hd : Hid (decide ((r : Int) = 0) = false) := decide_eq_false (by omega)
          have hd2 : ((r : Int) == 0) = false := by rw [beq_eq_false_iff_ne]; omega
          rw [hd.out] at HR
          have hr1 : size % 256 ≠ 0 := by omega
          go_wp2_with (first | (go_at_call 30; refine (C.out _ _ _ _).mono ?_; rintro e w' ⟨rfl, rfl⟩) | fail)
          go_ret
          exact ⟨ndBool (by rw [HO.out, HR.out]; rfl), HB.out⟩

set_option maxHeartbeats 400000 in
theorem rnum_t (s : ByteArray) (a n : Int) (w : World) (ha0 : 0 ≤ a) (hn0 : 0 ≤ n) (hn : n ≤ 7) (ha : a + n ≤ s.size) (hl : s.size ≤ 9223372036854775807) :
    Calls Try.prog 28 #[.string s, .int .i64 a, .int .i64 n] w fun e w' => e = .returned (.int .i64 (numAt s.data.toList a.toNat n.toNat)) ∧ w = w' := by
  have GET := ndhid (refGet_t s a.toNat n.toNat w (by omega) (by omega) hl)
  rw [show ((a.toNat : Nat) : Int) = a by omega, show ((n.toNat : Nat) : Int) = n by omega] at GET
  have e : Hid ((Bin.num (part s a.toNat n.toNat) : Int) = numAt s.data.toList a.toNat n.toNat) := rfl
  rw [e.out] at GET
  generalize numAt s.data.toList a.toNat n.toNat = V at *
  clear e
  go_enter Try.func28, Try.ntmps28
  go_wp2_with fail
  refine GET.out.mono ?_
  rintro e w1 ⟨rfl, rfl⟩
  go_wp2_with fail
  go_ret
  exact ⟨rfl, rfl⟩
end Go.Proofs.Ytclfpblnjdlnfaa
