/- LogFills, plainly: chunks of one size till there is no room. -/
import Derived.Test.YtgbgklnlmgpmjaaLogAwake
import Derived.Test.YtgbgklnlmgpmjaaDiskWrites
import Derived.Test.YtgbgklnlmgpmjaaDiskWaits
namespace Go.Proofs.Ytgbgklnlmgpmjaa
open Go.RowKit Lo Hdp Chk Rec

/-- A log with cnt chunks of k blocks, E of them a segment. -/
def FillInv (n k E : Nat) (L : Lg) (cnt : Nat) : Prop :=
  LawOk n L ∧ L.seq = 5 + (cnt : Int) ∧ ∃ s c : Nat, L.seg = s ∧ L.pos = ((c * (1 + k) : Nat) : Int) ∧ L.next = (s : Int) + 1 ∧ L.free = seqL (s + 2) (n - 2 - s) ∧ s + 2 ≤ n ∧ c ≤ E ∧ cnt = s * E + c

theorem each_is (k : Nat) (hk : k ≤ 24) : ∃ E, 32 / (1 + k) = E ∧ 1 ≤ E ∧ E ≤ 32 ∧ E * (1 + k) ≤ 32 ∧ 32 < (E + 1) * (1 + k) := by
  refine ⟨32 / (1 + k), rfl, ?_, Nat.div_le_self _ _, Nat.div_mul_le_self _ _, ?_⟩
  · exact (Nat.le_div_iff_mul_le (by omega)).2 (by omega)
  · have := Nat.lt_div_mul_add (a := 32) (b := 1 + k) (by omega)
    rw [Nat.add_mul, Nat.one_mul]
    exact this

theorem fill_zero {n k E : Nat} (hn : 8 ≤ n) (hn2 : n ≤ 100) : FillInv n k E (lg1 n) 0 :=
  ⟨LawOk.one (by omega) hn2, rfl, 0, 0, rfl, by show (0 : Int) = ((0 * (1 + k) : Nat) : Int); simp, rfl, rfl, by omega, Nat.zero_le _, by simp⟩

section
variable {n k E cnt : Nat} {L : Lg}
theorem fill_most (h : FillInv n k E L cnt) (hE : E ≤ 32) (hn : n ≤ 13) : cnt ≤ 384 := by
  obtain ⟨_, _, s, c, _, _, _, _, h1, h2, h3⟩ := h
  have h4 : s * E ≤ 11 * 32 := Nat.mul_le_mul (by omega) hE
  omega
/-- One more. -/
theorem fill_more (h : FillInv n k E L cnt) (hk : k ≤ 24) (h1 : E * (1 + k) ≤ 32) (h2 : 32 < (E + 1) * (1 + k)) (hE : 1 ≤ E) (hc : L.canB 32 k = true) (hcnt : cnt ≤ 1000) (x : Hd) :
    FillInv n k E ((L.move 32 k).after k x) (cnt + 1) ∧ L.seg * 32 + L.pos + 48 ≤ ((L.move 32 k).sec 32 : Int) ∧ ((((L.move 32 k).after k x).seg * 32 + ((L.move 32 k).after k x).pos + 48 : Int) = (L.move 32 k).sec 32 + 1 + k) ∧ (L.move 32 k).sec 32 + 1 + k ≤ 48 + 32 * n ∧ 48 ≤ (L.move 32 k).sec 32 := by
  obtain ⟨hok, hsq, s, c, a1, a2, a3, a4, a5, a6, a7⟩ := h
  have hok2 := hok.move hc
  have hcE : c * (1 + k) ≤ 32 := Nat.le_trans (Nat.mul_le_mul_right _ a6) h1
  by_cases hp : L.pos ≤ 32 - 1 - k
  · have e : L.move 32 k = L := if_pos hp
    rw [e]
    have hc1 : c + 1 ≤ E := by
      rcases Nat.lt_or_ge c E with h3 | h3
      · exact h3
      · have h4 : (E + 1) * (1 + k) ≤ (c + 1) * (1 + k) := Nat.mul_le_mul_right _ (by omega)
        rw [Nat.add_mul c, Nat.one_mul] at h4
        omega
    have e2 : (c + 1) * (1 + k) = c * (1 + k) + (1 + k) := by rw [Nat.add_mul, Nat.one_mul]
    have hsec : (L.sec 32 : Int) = 48 + L.seg * 32 + L.pos := by
      unfold Lg.sec
      have := hok.pos0
      have := hok.seg0
      omega
    refine ⟨⟨hok.after x (by omega) (by omega), ?_, s, c + 1, a1, ?_, a3, a4, a5, hc1, by omega⟩, by omega, ?_, ?_, ?_⟩
    · show L.seq + 1 = _
      omega
    · show L.pos + (1 + (k : Int)) = _
      rw [e2, a2]
      omega
    · show L.seg * 32 + (L.pos + (1 + (k : Int))) + 48 = _
      omega
    · omega
    · have := hok.pos0
      have := hok.seg0
      omega
  · have e : L.move 32 k = { L with seg := L.next, pos := 0, next := L.free.headD 0, free := L.free.tail } := if_neg hp
    have hc2 : c = E := by
      rcases Nat.lt_or_ge c E with h3 | h3
      · have h4 : (c + 1) * (1 + k) ≤ E * (1 + k) := Nat.mul_le_mul_right _ (by omega)
        rw [Nat.add_mul, Nat.one_mul] at h4
        omega
      · omega
    have hne : L.free ≠ [] := by
      intro e0
      simp [Lg.canB, e0] at hc
      omega
    obtain ⟨m, hm⟩ : ∃ m, n - 2 - s = m + 1 := by
      rcases Nat.eq_zero_or_pos (n - 2 - s) with h3 | h3
      · rw [a4, h3] at hne
        exact absurd rfl hne
      · exact ⟨n - 2 - s - 1, by omega⟩
    have hfr : L.free = ((s + 2 : Nat) : Int) :: seqL (s + 3) m := by rw [a4, hm, seqL_cons]
    have h5 : (L.move 32 k).seg = L.next := by rw [e]
    have h6 : (L.move 32 k).pos = 0 := by rw [e]
    have h7 : (L.move 32 k).next = (s : Int) + 2 := by rw [e]; show L.free.headD 0 = _; rw [hfr]; show ((s + 2 : Nat) : Int) = _; omega
    have h8 : (L.move 32 k).free = seqL (s + 3) m := by rw [e]; show L.free.tail = _; rw [hfr]; rfl
    have h9 : (L.move 32 k).seq = L.seq := by rw [e]
    have hsec : ((L.move 32 k).sec 32 : Int) = 48 + (L.move 32 k).seg * 32 + (L.move 32 k).pos := by
      unfold Lg.sec
      have := hok2.pos0
      have := hok2.seg0
      omega
    generalize L.move 32 k = M at *
    refine ⟨⟨hok2.after x (by omega) (by omega), ?_, s + 1, 1, ?_, ?_, ?_, ?_, by omega, hE, ?_⟩, ?_, ?_, ?_, ?_⟩
    · show M.seq + 1 = _
      omega
    · show M.seg = _
      omega
    · show M.pos + (1 + (k : Int)) = _
      rw [h6, Nat.one_mul]
      omega
    · show M.next = _
      omega
    · show M.free = _
      rw [h8, show n - 2 - (s + 1) = m by omega]
    · rw [Nat.add_mul, Nat.one_mul]
      omega
    · omega
    · show M.seg * 32 + (M.pos + (1 + (k : Int))) + 48 = _
      omega
    · omega
    · have := hok.seg0
      omega
/-- There is no room any more: all segments but one hold E. -/
theorem fill_end (h : FillInv n k E L cnt) (h1 : E * (1 + k) ≤ 32) (hc : L.canB 32 k = false) : cnt = E * (n - 1) ∧ L.free = [] := by
  obtain ⟨hok, hsq, s, c, a1, a2, a3, a4, a5, a6, a7⟩ := h
  simp only [Lg.canB, Bool.or_eq_false_iff, decide_eq_false_iff_not, Bool.not_eq_false', List.isEmpty_iff] at hc
  obtain ⟨hp, hl⟩ := hc
  have hc2 : c = E := by
    rcases Nat.lt_or_ge c E with h3 | h3
    · have h4 : (c + 1) * (1 + k) ≤ E * (1 + k) := Nat.mul_le_mul_right _ (by omega)
      rw [Nat.add_mul, Nat.one_mul] at h4
      omega
    · omega
  have hs : n - 2 - s = 0 := by
    have := seqL_length (s + 2) (n - 2 - s)
    rw [← a4, hl] at this
    exact this.symm
  refine ⟨?_, hl⟩
  have e : n - 1 = s + 1 := by omega
  rw [e, Nat.mul_add, Nat.mul_one, Nat.mul_comm E s]
  omega
end

/-- The places that were met. -/
def seenC (f : Nat → Bool) : Array Value := ((List.range 700).map fun (i : Nat) => Value.bool (f i)).toArray
theorem seenC_get (f : Nat → Bool) (i : Nat) (hi : i < 700) : (seenC f)[i]? = some (.bool (f i)) := by simp [seenC, hi]
theorem seenC_size (f : Nat → Bool) : (seenC f).size = 700 := by simp [seenC]
theorem seenC_set (f : Nat → Bool) (k : Nat) (_hk : k < 700) : (seenC f).setIfInBounds k (.bool true) = seenC (upd f k true) := by
  apply Array.ext_getElem?
  intro i
  by_cases hi : i < 700
  · rw [Array.getElem?_setIfInBounds, seenC_get (upd f k true) i hi]
    by_cases e : k = i
    · subst e
      rw [if_pos rfl, if_pos (by rw [seenC_size]; exact hi), upd_same]
    · rw [if_neg e, seenC_get f i hi, upd_other _ _ (fun h => e h.symm)]
  · rw [Array.getElem?_eq_none (by simp [seenC_size]; omega), Array.getElem?_eq_none (by simp [seenC_size]; omega)]
theorem seenZero (w : World) : (zeroValue 55).run Try.prog w = .ok (.agg (seenC fun _ => false)) w := by kernel_rfl
end Go.Proofs.Ytgbgklnlmgpmjaa
