/- What a disk is behind so many rounds of DiskCuts, and what Back makes of it: plain facts, no walk. -/
import Derived.Test.YtodfecipeabmlaaBack
import Derived.Test.YtodfecipeabmlaaFlushesInv
namespace Go.Proofs.Ytodfecipeabmlaa
open Go.RowKit

theorem settleL_all (L : List Wr) (i : Nat) (B : ByteArray) : ∀ (dur : Nat → ByteArray), (∀ x ∈ L, x.pos = i → x.bytes = B) → (∃ x ∈ L, x.pos = i) → settleL dur L i = B := by
  induction L with
  | nil => intro dur _ h; obtain ⟨x, hx, _⟩ := h; cases hx
  | cons y L ih =>
    intro dur h hex
    show settleL (upd dur y.pos y.bytes) L i = B
    by_cases hL : ∃ x ∈ L, x.pos = i
    · exact ih _ (fun x hx => h x (List.mem_cons_of_mem _ hx)) hL
    · have hn : ∀ x ∈ L, x.pos ≠ i := fun x hx e => hL ⟨x, hx, e⟩
      rw [settleL_other L i _ hn]
      obtain ⟨x, hx, e⟩ := hex
      rcases List.mem_cons.1 hx with rfl | hx
      · rw [← e, upd_same]; exact h x (List.mem_cons_self ..) e
      · exact absurd e (hn x hx)

theorem selTo_all (L : List Wr) (ps : List Int) : ∀ k, k ≤ L.length → (∀ j : Nat, j < k → (j : Int) ∈ ps) → selTo L ps k = L.take k
  | 0, _, _ => by simp [selTo]
  | k + 1, hk, h => by
    have hk' : k < L.length := by omega
    simp only [selTo]
    rw [selTo_all L ps k (by omega) (fun j hj => h j (by omega)), if_pos (h k (by omega)), List.getElem?_eq_getElem hk', List.take_succ_eq_append_getElem hk']
    rfl
theorem sel_all (L : List Wr) (ps : List Int) (h : ∀ j : Nat, j < L.length → (j : Int) ∈ ps) : sel L ps = L := by
  unfold sel
  rw [selTo_all L ps _ (Nat.le_refl _) h, List.take_length]

theorem selTo_nil (L : List Wr) : ∀ k, selTo L [] k = []
  | 0 => rfl
  | k + 1 => by simp [selTo, selTo_nil L k]
theorem sel_nil (L : List Wr) : sel L [] = [] := selTo_nil L _

/-- The numbers below n. -/
def below (n : Nat) : List Int := (List.range n).map fun (t : Nat) => (t : Int)
theorem below_length (n : Nat) : (below n).length = n := by simp [below]
theorem below_get (n t : Nat) (h : t < (below n).length) : (below n)[t] = (t : Int) := by simp [below]
theorem below_mem (n j : Nat) (h : j < n) : (j : Int) ∈ below n := by
  unfold below
  exact List.mem_map.2 ⟨j, List.mem_range.2 h, rfl⟩

/-- The writes of DiskCuts: the t-th goes to sector t. -/
def cutW (c : Nat) : List Wr := (List.range c).map fun t => ⟨t + 1, t, Fill (1 + t)⟩
theorem cutW_length (c : Nat) : (cutW c).length = c := by simp [cutW]
theorem cutW_succ (c : Nat) : cutW (c + 1) = cutW c ++ [⟨c + 1, c, Fill (1 + c)⟩] := by simp [cutW, List.range_succ]

theorem settle_cutW (c i : Nat) (dur : Nat → ByteArray) (L' : List Wr) (hp : L'.Perm (cutW c)) : settleL dur L' i = if i < c then Fill (1 + i) else dur i := by
  have hm : ∀ x ∈ L', ∃ t, t < c ∧ x = ⟨t + 1, t, Fill (1 + t)⟩ := fun x hx => by
    obtain ⟨t, ht, e⟩ := List.mem_map.1 (hp.subset hx)
    exact ⟨t, List.mem_range.1 ht, e.symm⟩
  split
  · rename_i h
    refine settleL_all L' i _ dur (fun x hx e => ?_) ?_
    · obtain ⟨t, _, rfl⟩ := hm x hx
      have : t = i := e
      rw [this]
    · refine ⟨⟨i + 1, i, Fill (1 + i)⟩, hp.symm.subset (List.mem_map.2 ⟨i, List.mem_range.2 h, rfl⟩), rfl⟩
  · rename_i h
    refine settleL_other L' i dur (fun x hx e => ?_)
    obtain ⟨t, ht, rfl⟩ := hm x hx
    have : t = i := e
    omega

/-- Behind c writes that were not refused, k asked for. -/
structure CI (k c : Nat) (S : St) : Prop where
  ck : c ≤ k
  n : S.n = 20
  writes : S.writes = c
  left : S.left = k - c
  down : S.down = decide (k ≤ c)
  w3 : S.waits 3 = cutW c
  rest : ∀ o, o ≠ 3 → S.waits o = []
  dur : ∀ i, S.dur i = zbytes 256

theorem CI.new (k : Nat) : CI k 0 ((St.new 20).cut k) := by
  refine ⟨Nat.zero_le _, rfl, rfl, rfl, ?_, rfl, fun _ _ => rfl, fun _ => rfl⟩
  show (if k = 0 then true else false) = decide (k ≤ 0)
  by_cases h : k = 0
  · subst h; rfl
  · rw [if_neg h]; symm; simp; omega

theorem CI.write {k c : Nat} {S : St} (h : CI k c S) (hc : c < k) : CI k (c + 1) (S.write 3 c (Fill (1 + c))) := by
  refine ⟨hc, h.n, ?_, ?_, ?_, ?_, fun o ho => ?_, h.dur⟩
  · show S.writes + 1 = _; rw [h.writes]
  · show S.left - 1 = _; rw [h.left]; omega
  · show (if S.left = 0 then S.down else S.left - 1 == 0) = _
    rw [h.left, if_neg (by omega), Bool.eq_iff_iff]
    simp; omega
  · rw [write_same, h.w3, h.writes, cutW_succ]
  · rw [write_other _ _ _ ho]; exact h.rest o ho

/-- What is kept: all that waits, or nothing. -/
theorem CI.kept {k c : Nat} {S : St} (h : CI k c S) (ps : List Int) : keptTo S.waits [[], [], [], ps] 4 = sel (cutW c) ps := by
  simp only [keptTo, List.getD_eq_getElem?_getD, List.getElem?_cons_zero, List.getElem?_cons_succ, Option.getD_some, sel_nil, List.nil_append, h.w3]

theorem CI.all {k c : Nat} {S : St} (h : CI k c S) (m : Nat) (hm : c ≤ m) (L' : List Wr) (hp : L'.Perm (keptTo S.waits [[], [], [], below m] 4)) (i : Nat) : (S.back L').read i = if i < c then Fill (1 + i) else zbytes 256 := by
  rw [h.kept, sel_all _ _ (fun j hj => below_mem m j (by rw [cutW_length] at hj; omega))] at hp
  rw [read_none _ _ (fun o _ x hx => by cases hx)]
  show settleL S.dur L' i = _
  rw [settle_cutW c i S.dur L' hp, h.dur]

theorem CI.none {k c : Nat} {S : St} (h : CI k c S) (L' : List Wr) (hp : L'.Perm (keptTo S.waits [[], [], [], []] 4)) (i : Nat) : (S.back L').read i = zbytes 256 := by
  rw [h.kept, sel_nil] at hp
  have : L' = [] := List.Perm.eq_nil hp
  subst this
  rw [read_none _ _ (fun o _ x hx => by cases hx)]
  exact h.dur i

end Go.Proofs.Ytodfecipeabmlaa
