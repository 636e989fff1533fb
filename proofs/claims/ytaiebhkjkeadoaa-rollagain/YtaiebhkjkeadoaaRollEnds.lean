/- What is found on a disk of the laws, plainly: all chunks; none of another house, gen, life, number, or with a next segment of nobody's. -/
import Derived.Test.YtaiebhkjkeadoaaRollFill
namespace Go.Proofs.Ytaiebhkjkeadoaa
namespace Rol
open Chk Hdp Lo Rec

theorem Chain.nil_eq {rd : Nat → ByteArray} {n : Nat} {L M : Lg} {cs : List Fnd} (h : Chain rd n L cs M) (h0 : cs = []) : M = L := by
  cases h with
  | nil => rfl
  | snoc _ _ => simp at h0
theorem segs_all (s : Int) (h0 : 0 ≤ s) (h1 : s < ((8 : Nat) : Int)) : (seqL 0 8).contains s = true := by
  have hc : s = 0 ∨ s = 1 ∨ s = 2 ∨ s = 3 ∨ s = 4 ∨ s = 5 ∨ s = 6 ∨ s = 7 := by omega
  rcases hc with rfl | rfl | rfl | rfl | rfl | rfl | rfl | rfl <;> decide

section
variable {S : St} {cs : List Fnd} {L : Lg}
theorem Fil.ends (h : Fil S cs L) (segs : List Int) : nxt S.read 8 segs (bare L) = none := by
  obtain ⟨s, a1, a3, -, a5⟩ := h.segs
  have p1 := h.ok.pos1
  have p0 := h.ok.pos0
  refine nxt_none ?_ ?_
  · rcases Int.lt_or_le L.pos 32 with h5 | h5
    · exact at_zero (h.zero _ (Nat.le_refl _))
    · exact atB_none (atT_end h5)
  · refine at_zero (seg := L.next) (pos := 0) (h.zero _ ?_)
    unfold fr
    rw [a1, a3]
    omega
theorem Fil.rolls (h : Fil S cs L) : Rolls S.read 8 (seqL 0 8) lgB cs (bare L) := by
  have h1 := h.chain.rolls (segs := seqL 0 8) segs_all (.done (h.ends _))
  rw [List.append_nil] at h1
  exact h1
/-- A chunk's head. -/
theorem Fil.head (h : Fil S cs L) (k : Nat) (hk : k < cs.length) : cs[k].head.house = 3 ∧ cs[k].head.gen = 7 ∧ cs[k].head.life = 2 ∧ cs[k].head.seq = 5 + (k : Int) ∧ cs[k].head.next = cs[k].seg + 1 ∧ Lies S.read 8 cs[k] := by
  obtain ⟨A, g, h1, h2, h3, h4⟩ := h.chain.goes k hk
  exact ⟨g.house.trans h1, g.gen.trans h2, g.life.trans h3, g.seq.trans h4, g.next, g.lies⟩
/-- The first chunk stands at the beginning. -/
theorem Fil.zeroth (h : Fil S cs L) (h0 : 0 < cs.length) : cs[0].seg = 0 ∧ cs[0].pos = 0 := by
  obtain ⟨A, a1, a2, -⟩ := h.chain.part 0 h0
  have e := a1.nil_eq (List.take_zero)
  subst e
  rcases a2.place with ⟨e1, e2⟩ | ⟨-, -, e3, -⟩
  · exact ⟨e1, e2⟩
  · have h1 := a2.lies.pos1
    have h2 := a2.lies.pos0
    have h3 : lgB.pos = 0 := rfl
    rw [h3] at e3
    omega
/-- What stands at a segment's beginning. -/
theorem Fil.start (h : Fil S cs L) (s : Int) (hs : 0 ≤ s) : (∃ k, ∃ hk : k < cs.length, cs[k].seg = s ∧ cs[k].pos = 0) ∨ S.read (48 + 32 * s.toNat + (0 : Int).toNat) = zbytes 256 := by
  have p1 := h.ok.pos1
  have p0 := h.ok.pos0
  have p2 := h.ok.seg0
  rcases Int.lt_or_le L.seg s with h1 | h1
  · right
    refine h.zero _ ?_
    unfold fr
    omega
  · rcases Int.lt_or_le 0 s with h2 | h2
    · left
      exact h.chain.starts pl0 s (by show (0 : Int) < s; exact h2) h1
    · have e : s = 0 := by omega
      subst e
      rcases Nat.eq_zero_or_pos cs.length with h3 | h3
      · right
        refine h.zero _ ?_
        have e2 := h.chain.nil_eq (List.length_eq_zero_iff.1 h3)
        have e3 : L.seg = 0 := congrArg Lg.seg e2
        have e4 : L.pos = 0 := congrArg Lg.pos e2
        unfold fr
        rw [e3, e4]
        decide
      · left
        exact ⟨0, h3, (h.zeroth h3).1, (h.zeroth h3).2⟩
theorem Fil.at_other (h : Fil S cs L) {M : Lg} {segs : List Int} (s : Int) (hs : 0 ≤ s) (hne : ∀ (k : Nat) (hk : k < cs.length), cs[k].seg = s → folB segs M cs[k].head = false) : atB S.read 8 segs M s 0 = false := by
  rcases h.start s hs with ⟨k, hk, e1, e2⟩ | h0
  · have h1 := (h.head k hk).2.2.2.2.2
    have h2 := h1.other (segs := segs) (L := M) (hne k hk e1)
    rw [e1, e2] at h2
    exact h2
  · exact at_zero h0
/-- Nothing is found where no head follows. -/
theorem Fil.none (h : Fil S cs L) {M : Lg} {segs : List Int} (h1 : M.seg = 0) (h2 : M.pos = 0) (h3 : M.next = 1) (hne : ∀ (k : Nat) (hk : k < cs.length), folB segs M cs[k].head = false) : Rolls S.read 8 segs M [] M := by
  refine .done (nxt_none ?_ ?_)
  · rw [h1, h2]
    exact h.at_other 0 (Int.le_refl 0) fun k hk _ => hne k hk
  · rw [h3]
    exact h.at_other 1 (by decide) fun k hk _ => hne k hk
theorem fol_no {segs : List Int} {M : Lg} {x : Hd} (h : x.house ≠ M.house ∨ x.gen ≠ M.gen ∨ x.life ≠ M.life ∨ x.seq ≠ M.seq ∨ segs.contains x.next = false) : folB segs M x = false := by
  unfold folB
  rcases h with h | h | h | h | h
  · rw [decide_eq_false h]; rfl
  · rw [decide_eq_false h]; simp
  · rw [decide_eq_false h]; simp
  · rw [decide_eq_false h]; simp
  · rw [h]; simp
/-- One chunk. -/
theorem Fil.one (h : Fil S cs L) (h1 : cs.length = 1) : bare L = past lgB (cs[0]'(by omega)) := by
  obtain ⟨A, a1, a2, a3⟩ := h.chain.part 0 (by omega)
  have e := a1.nil_eq (List.take_zero)
  subst e
  exact a3.nil_eq (List.drop_eq_nil_of_le (by omega))

/-! ### The other ways of the laws -/

theorem Fil.house (h : Fil S cs L) : Rolls S.read 8 (seqL 0 8) ⟨4, 7, 1, 2, 0, 0, 0, 1, 5, 0, 0, 0, 0, 0, 0, []⟩ [] ⟨4, 7, 1, 2, 0, 0, 0, 1, 5, 0, 0, 0, 0, 0, 0, []⟩ :=
  h.none rfl rfl rfl fun k hk => fol_no (.inl (by rw [(h.head k hk).1]; decide))
theorem Fil.gen (h : Fil S cs L) : Rolls S.read 8 (seqL 0 8) ⟨3, 8, 1, 2, 0, 0, 0, 1, 5, 0, 0, 0, 0, 0, 0, []⟩ [] ⟨3, 8, 1, 2, 0, 0, 0, 1, 5, 0, 0, 0, 0, 0, 0, []⟩ :=
  h.none rfl rfl rfl fun k hk => fol_no (.inr (.inl (by rw [(h.head k hk).2.1]; decide)))
theorem Fil.life (h : Fil S cs L) : Rolls S.read 8 (seqL 0 8) ⟨3, 7, 1, 3, 0, 0, 0, 1, 5, 0, 0, 0, 0, 0, 0, []⟩ [] ⟨3, 7, 1, 3, 0, 0, 0, 1, 5, 0, 0, 0, 0, 0, 0, []⟩ :=
  h.none rfl rfl rfl fun k hk => fol_no (.inr (.inr (.inl (by rw [(h.head k hk).2.2.1]; decide))))
theorem Fil.number (h : Fil S cs L) : Rolls S.read 8 (seqL 0 8) ⟨3, 7, 1, 2, 0, 0, 0, 1, 4, 0, 0, 0, 0, 0, 0, []⟩ [] ⟨3, 7, 1, 2, 0, 0, 0, 1, 4, 0, 0, 0, 0, 0, 0, []⟩ :=
  h.none rfl rfl rfl fun k hk => fol_no (.inr (.inr (.inr (.inl (by rw [(h.head k hk).2.2.2.1]; show (5 : Int) + (k : Int) ≠ 4; omega)))))
theorem Fil.nobody (h : Fil S cs L) : Rolls S.read 8 [0, 2, 3] lgB [] lgB := by
  refine .done (nxt_none ?_ ?_)
  · show atB S.read 8 [0, 2, 3] lgB 0 0 = false
    refine h.at_other 0 (Int.le_refl 0) fun k hk e => fol_no (.inr (.inr (.inr (.inr ?_))))
    rw [(h.head k hk).2.2.2.2.1, e]
    decide
  · exact atB_none (atT_no (.inr (by decide)))
theorem Fil.nosegs (h : Fil S cs L) : Rolls S.read 8 [] lgB [] lgB :=
  h.none rfl rfl rfl fun _ _ => fol_no (.inr (.inr (.inr (.inr rfl))))
/-- From a place that is none of the house's, on with the first segment. -/
theorem Fil.from0 (h : Fil S cs L) {M : Lg} (h1 : 8 ≤ M.seg) (h2 : M.next = 0) (hM : ∀ f : Fnd, past M f = past lgB f) (hn : M.house = 3 ∧ M.gen = 7 ∧ M.life = 2 ∧ M.seq = 5) : ∃ L', Rolls S.read 8 (seqL 0 8) M cs L' ∧ L'.seq = 5 + (cs.length : Int) := by
  have hno : atB S.read 8 (seqL 0 8) M M.seg M.pos = false := atB_none (atT_no (.inr (by
    unfold inS
    rw [decide_eq_false (by omega : ¬ M.seg < ((8 : Nat) : Int)), Bool.and_false, Bool.and_false])))
  rcases Nat.eq_zero_or_pos cs.length with h3 | h3
  · have e0 := List.length_eq_zero_iff.1 h3
    subst e0
    refine ⟨M, .done (nxt_none hno ?_), by rw [hn.2.2.2]; rfl⟩
    rw [h2]
    exact h.at_other 0 (Int.le_refl 0) fun k hk _ => absurd hk (Nat.not_lt_zero _)
  · have hr := h.rolls
    obtain ⟨f, fs, rfl⟩ : ∃ f fs, cs = f :: fs := by
      cases cs with
      | nil => exact absurd h3 (Nat.lt_irrefl 0)
      | cons f fs => exact ⟨f, fs, rfl⟩
    refine ⟨bare L, ?_, h.seq⟩
    cases hr with
    | more hx hr2 =>
      refine .more ?_ (by rw [hM]; exact hr2)
      obtain ⟨q1, q2, q3, q4, q5, q6⟩ := h.head 0 h3
      obtain ⟨z1, z2⟩ := h.zeroth h3
      have hin : inS 8 (seqL 0 8) (0 : Int) = true := by decide
      have hz1 : f.seg = 0 := z1
      have hz2 : f.pos = 0 := z2
      have q6' : Lies S.read 8 f := q6
      obtain ⟨k1, k2, k3⟩ := q6'.par (segs := seqL 0 8) (by rw [hz1]; exact hin)
      rw [hz1, hz2] at k1 k2 k3
      have hat : atB S.read 8 (seqL 0 8) M M.next 0 = true := by
        unfold atB folB
        rw [h2, k1, k2]
        have b1 : f.head.house = M.house := by rw [hn.1]; exact q1
        have b2 : f.head.gen = M.gen := by rw [hn.2.1]; exact q2
        have b3 : f.head.life = M.life := by rw [hn.2.2.1]; exact q3
        have b4 : f.head.seq = M.seq := by rw [hn.2.2.2]; exact q4
        have b5 : f.head.next = 1 := by
          have : f.head.next = f.seg + 1 := q5
          rw [this, hz1]; rfl
        rw [decide_eq_true b1, decide_eq_true b2, decide_eq_true b3, decide_eq_true b4, b5]
        decide
      rw [nxt_there hno hat, h2, k3]
end
end Rol
end Go.Proofs.Ytaiebhkjkeadoaa
