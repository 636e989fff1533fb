/- Some heads kept, the others lost, plainly: the chunks ahead of the first one that lost its head are found, no other. Nothing of the program. -/
import Derived.Test.YtaiebhkjkeadoaaGreatRollEnds
namespace Go.Proofs.YtaiebhkjkeadoaaGreat
namespace Rol
open Chk Hdp Lo Rec

/-- A disk on which just some heads were kept. -/
structure Kept (rd rd' : Nat → ByteArray) (cs : List Fnd) (kp : Nat → Prop) : Prop where
  same : ∀ q, 48 ≤ q → (∀ (i : Nat) (hi : i < cs.length), q ≠ sec cs[i]) → rd' q = rd q
  kept : ∀ (i : Nat) (hi : i < cs.length), kp i → rd' (sec cs[i]) = rd (sec cs[i])
  lost : ∀ (i : Nat) (hi : i < cs.length), ¬ kp i → rd' (sec cs[i]) = zbytes 256

section
variable {rd rd' : Nat → ByteArray} {n : Nat} {L M : Lg} {cs : List Fnd} {kp : Nat → Prop}
theorem Kept.zero (h : Kept rd rd' cs kp) {q : Nat} (hq : 48 ≤ q) (hz : rd q = zbytes 256) : rd' q = zbytes 256 := by
  by_cases h1 : ∀ (i : Nat) (hi : i < cs.length), q ≠ sec cs[i]
  · rw [h.same q hq h1, hz]
  · simp only [Classical.not_forall, Classical.not_not] at h1
    obtain ⟨i, hi, e⟩ := h1
    by_cases h2 : kp i
    · rw [e, h.kept i hi h2, ← e, hz]
    · rw [e, h.lost i hi h2]
/-- Chunks lie apart. -/
theorem Chain.apart (h : Chain rd n L cs M) (hL : Pl L) (i j : Nat) (hij : i < j) (hj : j < cs.length) : sec cs[i] + 1 + cs[i].bl.length ≤ sec cs[j] := by
  obtain ⟨A, a1, a2, -⟩ := h.part j hj
  have h1 := a2.ahead (a1.pl hL)
  have h2 := (a1.where_ hL i (by rw [List.length_take]; omega)).2
  rw [List.getElem_take] at h2
  omega
/-- The last chunk's clock. -/
theorem Chain.clock (h : Chain rd n L cs M) (h0 : 0 < cs.length) : M.clock = (cs[cs.length - 1]'(by omega)).head.clock := by
  cases h with
  | nil => exact absurd h0 (Nat.lt_irrefl 0)
  | @snoc M cs f h g =>
    have e : (cs ++ [f]).length - 1 = cs.length := by simp
    simp only [e]
    rw [List.getElem_concat_length rfl]
    rfl
end

section
variable {S : St} {cs : List Fnd} {L : Lg} {rd' : Nat → ByteArray} {kp : Nat → Prop}
theorem Fil.clock (h : Fil S cs L) (k : Nat) (hk : k < cs.length) : cs[k].head.clock = k := by
  obtain ⟨_, _, _, h1, _, _⟩ := h.form k hk
  exact h1
theorem Fil.sec48 (_h : Fil S cs L) (k : Nat) (hk : k < cs.length) : 48 ≤ sec cs[k] := by
  unfold sec
  omega
/-- A chunk that kept its head. -/
theorem Fil.lies (h : Fil S cs L) (hk : Kept S.read rd' cs kp) (m : Nat) (hm : m < cs.length) (hkm : kp m) : Lies rd' 8 cs[m] := by
  refine (h.head m hm).2.2.2.2.2.turn fun q h1 h2 => ?_
  by_cases h3 : ∀ (i : Nat) (hi : i < cs.length), q ≠ sec cs[i]
  · exact hk.same q (by have := h.sec48 m hm; omega) h3
  · simp only [Classical.not_forall, Classical.not_not] at h3
    obtain ⟨i, hi, e⟩ := h3
    rcases Nat.lt_trichotomy i m with h4 | h4 | h4
    · have := h.chain.apart pl0 i m h4 hm
      omega
    · subst h4
      rw [e, hk.kept i hi hkm]
    · have := h.chain.apart pl0 m i h4 hi
      omega
/-- The chunks ahead of the first one that lost its head. -/
theorem Fil.kept (h : Fil S cs L) (hk : Kept S.read rd' cs kp) (n : Nat) (hn : n ≤ cs.length) (hall : ∀ i, i < n → kp i) (hend : n < cs.length → ¬ kp n) : ∃ A, Rolls rd' 8 (seqL 0 8) lgB (cs.take n) A ∧ A.seq = 5 + (n : Int) ∧ (0 < n → A.clock = (n : Int) - 1) := by
  -- what is ahead of a place
  have hsame : ∀ {A : Lg}, (∀ (i : Nat) (hi : i < cs.length), n ≤ i → fr A ≤ sec cs[i]) → ∀ q, fr lgB ≤ q → q < fr A → rd' q = S.read q := by
    intro A hA q h1 h2
    have h48 : fr lgB = 48 := rfl
    by_cases h3 : ∀ (i : Nat) (hi : i < cs.length), q ≠ sec cs[i]
    · exact hk.same q (by omega) h3
    · simp only [Classical.not_forall, Classical.not_not] at h3
      obtain ⟨i, hi, e⟩ := h3
      rcases Nat.lt_or_ge i n with h4 | h4
      · rw [e, hk.kept i hi (hall i h4)]
      · have := hA i hi h4
        omega
  rcases Nat.lt_or_ge n cs.length with hlt | hge
  · obtain ⟨A, a1, a2, a3⟩ := h.chain.part n hlt
    have hAp := a1.pl pl0
    have hah := a2.ahead hAp
    obtain ⟨n1, n2, n3, -, -, -, -, -, -, n10⟩ := a1.nums
    rw [List.length_take, Nat.min_eq_left (by omega)] at n10
    have hseq : A.seq = 5 + (n : Int) := n10
    have hl := a2.lies
    have hfar : ∀ (i : Nat) (hi : i < cs.length), n ≤ i → fr A ≤ sec cs[i] := by
      intro i hi hni
      rcases Nat.eq_or_lt_of_le hni with h5 | h5
      · subst h5
        exact hah
      · have := h.chain.apart pl0 n i h5 hi
        omega
    have hch : Chain rd' 8 lgB (cs.take n) A := a1.turn pl0 (hsame hfar)
    have hlost := hk.lost n hlt (hend hlt)
    have hA0 := hAp.seg0
    have hA3 := hAp.next
    refine ⟨A, ?_, hseq, fun h0 => ?_⟩
    · have hfin : Rolls rd' 8 (seqL 0 8) A [] A := by
        refine .done ?_
        have hz : atB rd' 8 (seqL 0 8) A cs[n].seg cs[n].pos = false := at_zero hlost
        rcases a2.place with ⟨e1, e2⟩ | ⟨e1, e2, e4, e3⟩
        · refine nxt_none (by rw [← e1, ← e2]; exact hz) ?_
          rcases h.start A.next (by omega) with ⟨m, hm, f1, f2⟩ | h0
          · by_cases hkm : kp m
            · have g := h.head m hm
              have hno : folB (seqL 0 8) A cs[m].head = false := by
                refine fol_no (.inr (.inr (.inr (.inl ?_))))
                rw [g.2.2.2.1, hseq]
                intro e5
                have e6 : m = n := by omega
                subst e6
                omega
              have h7 := (h.lies hk m hm hkm).other (segs := seqL 0 8) (L := A) hno
              rw [f1, f2] at h7
              exact h7
            · have h7 := hk.lost m hm hkm
              have h8 : atB rd' 8 (seqL 0 8) A cs[m].seg cs[m].pos = false := at_zero h7
              rw [f1, f2] at h8
              exact h8
          · exact at_zero (hk.zero (by omega) h0)
        · refine nxt_none ?_ (by rw [← e1, ← e2]; exact hz)
          rcases e3 with e3 | e3
          · exact atB_none (atT_end (by omega))
          · exact at_zero (hk.zero (by omega) e3)
      have h9 := hch.rolls (segs := seqL 0 8) segs_all hfin
      rw [List.append_nil] at h9
      exact h9
    · have h8 := a1.clock (by rw [List.length_take]; omega)
      rw [h8, List.getElem_take]
      have e : (cs.take n).length - 1 = n - 1 := by rw [List.length_take]; omega
      simp only [e]
      rw [h.clock (n - 1) (by omega)]
      omega
  · have e : n = cs.length := by omega
    subst e
    have hch : Chain rd' 8 lgB cs (bare L) := h.chain.turn pl0 (hsame fun i hi hni => absurd hi (by omega))
    obtain ⟨s, a1, a3, -, a5⟩ := h.segs
    have p1 := h.ok.pos1
    have p0 := h.ok.pos0
    refine ⟨bare L, ?_, h.seq, fun h0 => ?_⟩
    · rw [List.take_length]
      have hfin : Rolls rd' 8 (seqL 0 8) (bare L) [] (bare L) := by
        refine .done (nxt_none ?_ ?_)
        · exact at_zero (hk.zero (by omega) (h.zero _ (Nat.le_refl _)))
        · refine at_zero (seg := L.next) (pos := 0) (hk.zero (by omega) (h.zero _ ?_))
          unfold fr
          rw [a1, a3]
          omega
      have h9 := hch.rolls (segs := seqL 0 8) segs_all hfin
      rw [List.append_nil] at h9
      exact h9
    · rw [h.chain.clock h0, h.clock _ (by omega)]
      omega
end
end Rol
end Go.Proofs.YtaiebhkjkeadoaaGreat
