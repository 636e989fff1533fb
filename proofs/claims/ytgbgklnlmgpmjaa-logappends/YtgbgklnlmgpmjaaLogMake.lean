/- The laws' own log (make1) walked. -/
import Derived.Test.YtgbgklnlmgpmjaaLogNew
import Derived.Test.YtgbgklnlmgpmjaaDiskNew
namespace Go.Proofs.Ytgbgklnlmgpmjaa
open Go.RowKit Lo Hdp

/-- Numbers one behind the other. -/
def seqL (a k : Nat) : List Int := (List.range k).map fun (i : Nat) => (a : Int) + (i : Int)
theorem seqL_length (a k : Nat) : (seqL a k).length = k := by simp [seqL]
theorem seqL_succ (a k : Nat) : seqL a (k + 1) = seqL a k ++ [(a : Int) + (k : Int)] := by simp [seqL, List.range_succ]
theorem seqL_cons (a k : Nat) : seqL a (k + 1) = (a : Int) :: seqL (a + 1) k := by
  apply List.ext_getElem
  · simp [seqL]
  · intro i h1 h2
    cases i with
    | zero => simp [seqL]
    | succ j => simp [seqL]; omega
theorem seqL_mem {a k : Nat} {x : Int} (h : x ∈ seqL a k) : (a : Int) ≤ x ∧ x < (a : Int) + (k : Int) := by
  obtain ⟨i, hi, rfl⟩ := List.mem_map.1 h
  have := List.mem_range.1 hi
  omega

/-- The log of the laws: n segments, 0 the first one, 1 the one behind it. -/
def lg1 (n : Nat) : Lg := ⟨3, 7, 1, 2, 0, 0, 0, 1, 5, 0, 0, 0, 0, 0, 0, seqL 2 (n - 2)⟩

set_option maxRecDepth 20000 in
set_option maxHeartbeats 4000000 in
theorem make1_t (n b gd : Nat) (S : St) (V : Nat → Value) (w : World) (hD : Disk w b S gd V) (hn : 2 ≤ n) (hn2 : n ≤ 100) (hS : S.n = 48 + 32 * n) :
    Calls Try.prog 9 #[.int .i64 n, .pointer (some ⟨b, 0, none⟩)] w fun e w' => ∃ lb v, e = .returned (.pointer (some ⟨lb, 0, none⟩)) ∧ LogAt w' lb b gd S V 32 (lg1 n) v ∧ w.heap.size ≤ lb ∧ Below w.heap.size w w' := by
  have NW := lohid (fun (w1 : World) (v : Value) (hI : Ints w1 v (seqL 2 (n - 2))) => new_t14 b (48 + 32 * (n : Int)) 32 (lg1 n) v w1 hI (by show (seqL 2 (n - 2)).length ≤ _; rw [seqL_length]; omega))
  have GE := lohid (fun (w1 : World) => geom_t n w1 (by omega))
  have HDI := lohid hD
  have hSn : Hid ((S.n : Int) = 48 + 32 * (n : Int)) := by show (S.n : Int) = _; omega
  obtain ⟨m, hm⟩ : ∃ m, n - 2 = m := ⟨_, rfl⟩
  rw [hm] at NW
  have hm2 : n = m + 2 := by omega
  have hm3 : m + 2 ≤ n := by omega
  have hm4 : n ≤ m + 2 := by omega
  clear hD hm hS
  have HL1 : Hid (lg1 n = ⟨3, 7, 1, 2, 0, 0, 0, 1, 5, 0, 0, 0, 0, 0, 0, seqL 2 m⟩) := by
    show lg1 n = _
    unfold lg1
    rw [hm2]
    rfl
  rw [HL1.out] at NW
  clear hm2
  go_enter Try.func9, Try.ntmps9
  go_wp2_with fail
  go_loopw [5, 6] (fun v c wr => ∃ k : Nat, k ≤ m ∧ c = .int .i64 ((k : Int) + 2) ∧ Hid (IOwn wr w.heap.size v (seqL 2 k) ∧ Below w.heap.size w wr)) (fun _ c _ => n - (intOf c).toNat)
  case atStart => exact ⟨0, Nat.zero_le _, rfl, IOwn.nil _ _, Below.refl _ _⟩
  case round =>
    obtain ⟨k, hk, rfl, HM⟩ := hrel
    obtain ⟨hO, hB⟩ := HM.out
    have HO := lohid hO
    have HB := lohid hB
    clear hO hB HM
    by_cases hkm : k < m
    · have hc : (k : Int) + 2 < (n : Int) := by omega
      have HLs : (seqL 2 k).length ≤ 200 := by rw [seqL_length]; omega
      have HSS := lohid (seqL_succ 2 k)
      generalize seqL 2 k = Lk at *
      have hbs := HB.out.size
      go_wp2_with (first
        | (refine wpList_append_one rfl _ _ rfl w.heap.size _ Lk rfl (HO.out.on ((Below.refl _ _).alloc (Nat.le_refl _) _)) wr.heap.size 1 [(k : Int) + 2] rfl 3 (0, 0) (heap_alloc_new _ _) (by simp) ?c2 ?c3 ?_)
        | fail)
      case c2 => simp; omega
      case c3 => simp; omega
      intro v2 w2 hO2 hb2 hle2
      have e : (k : Int) + 2 = ((2 : Nat) : Int) + (k : Int) := by omega
      rw [e, ← HSS.out] at hO2
      have HN : Hid (IOwn w2 w.heap.size v2 (seqL 2 (k + 1)) ∧ Below w.heap.size w w2) := by
        refine ⟨hO2, HB.out.trans ?_⟩
        have h3 := ((Below.refl w.heap.size wr).alloc hbs (.cells (icells [(k : Int) + 2]).toArray 3)).trans hb2
        exact h3
      clear hO2 hb2 hle2 HO HB HSS e
      go_wp2_with fail
      exact ⟨⟨k + 1, hkm, by go_num, HN⟩, by simp [intOf]; omega⟩
    · have hkk : k = m := by omega
      subst hkk
      have hc : ¬ ((k : Int) + 2 < (n : Int)) := by omega
      go_wp2_with fail
      refine (GE.out wr).mono ?_
      rintro e w3 ⟨rfl, hb3⟩
      have HO3 := lohid (HO.out.on hb3)
      have HB3 : Hid (Below w.heap.size w w3) := HB.out.trans (hb3.mono HB.out.size)
      clear hb3 HO HB GE
      go_wp2_with fail
      refine (NW.out w3 _ HO3.out.ints).mono ?_
      rintro e w4 ⟨lb, v4, rfl, hr4, hO4, hne4, hlb4, hb4⟩
      go_wp2_with fail
      go_ret
      have hs3 := HB3.out.size
      refine ⟨lb, v4, rfl, ⟨?_, HDI.out.below (HB3.out.trans (hb4.mono hs3)), ?_, fun hf => ?_⟩, by omega, HB3.out.trans (hb4.mono hs3)⟩
      · rw [hSn.out, HL1.out]
        exact hr4
      · rw [HL1.out]
        exact hO4.free fun j hj h3 _ => ⟨fun hf => by have := HDI.out.lt hf; omega, by have := HDI.out.hd.lt; omega, hne4 j hj⟩
      · have := HDI.out.lt hf
        omega
end Go.Proofs.Ytgbgklnlmgpmjaa
