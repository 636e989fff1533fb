/- What a disk is behind so many rounds of DiskFlushes: plain facts, no walk. -/
import Derived.Test.YtodfecipeabmlaaNone
namespace Go.Proofs.Ytodfecipeabmlaa
open Go.RowKit

theorem settleL_snoc (dur : Nat → ByteArray) (L : List Wr) (x : Wr) : settleL dur (L ++ [x]) = upd (settleL dur L) x.pos x.bytes := by simp [settleL]

theorem settleL_other (L : List Wr) (i : Nat) : ∀ (dur : Nat → ByteArray), (∀ x ∈ L, x.pos ≠ i) → settleL dur L i = dur i := by
  induction L with
  | nil => intro dur _; rfl
  | cons x L ih =>
    intro dur h
    show settleL (upd dur x.pos x.bytes) L i = dur i
    rw [ih _ (fun y hy => h y (List.mem_cons_of_mem _ hy)), upd_other _ _ (fun e => h x (List.mem_cons_self ..) e.symm)]

theorem pickL_none (i : Nat) (L : List Wr) : ∀ (b : Wr), (∀ x ∈ L, x.pos ≠ i) → pickL i b L = b := by
  induction L with
  | nil => intro b _; rfl
  | cons x L ih =>
    intro b h
    have e : pick1 i b x = b := by unfold pick1; rw [if_neg (fun e => h x (List.mem_cons_self ..) e.1)]
    show pickL i (pick1 i b x) L = b
    rw [e]; exact ih b (fun y hy => h y (List.mem_cons_of_mem _ hy))

theorem newestTo_none (i : Nat) (waits : Nat → List Wr) : ∀ k, (∀ o, o < k → ∀ x ∈ waits o, x.pos ≠ i) → newestTo i waits k = noWr
  | 0, _ => rfl
  | k + 1, h => by
    rw [newestTo_succ, newestTo_none i waits k (fun o ho => h o (by omega))]
    exact pickL_none i _ _ (h k (by omega))

/-- With no write to a sector that waits Read says what is durable. -/
theorem read_none (S : St) (i : Nat) (h : ∀ o, o < 17 → ∀ x ∈ S.waits o, x.pos ≠ i) : S.read i = S.dur i := by
  unfold St.read
  rw [newestTo_none i S.waits 17 h]
  rfl

/-- Behind j rounds, flushed behind the f-th (0: never). -/
structure FI (f j : Nat) (S : St) : Prop where
  n : S.n = 10
  down : S.down = false
  left : S.left = 0
  writes : S.writes = 2 * j
  l5 : (S.waits 5).length = if 0 < f ∧ f ≤ j then j - f else j
  l6 : (S.waits 6).length = j
  p5 : ∀ x ∈ S.waits 5, x.pos = 3
  p6 : ∀ x ∈ S.waits 6, x.pos = 4
  rest : ∀ o, o ≠ 5 → o ≠ 6 → S.waits o = []
  d3 : S.dur 3 = if 0 < f ∧ f ≤ j then Fill f else zbytes 256
  d4 : S.dur 4 = zbytes 256

theorem FI.new (f : Nat) : FI f 0 (St.new 10) := by
  have e : ¬ (0 < f ∧ f ≤ 0) := by omega
  exact ⟨rfl, rfl, rfl, rfl, by rw [if_neg e]; rfl, rfl, (fun _ h => by cases h), (fun _ h => by cases h), fun _ _ _ => rfl, by rw [if_neg e]; rfl, rfl⟩

/-- The two writes of a round. -/
def round2 (S : St) (x y : ByteArray) : St := (S.write 5 3 x).write 6 4 y

theorem write_same (S : St) (o i : Nat) (s : ByteArray) : (S.write o i s).waits o = S.waits o ++ [⟨S.writes + 1, i, s⟩] := upd_same _ _ _
theorem write_other (S : St) {o o' : Nat} (i : Nat) (s : ByteArray) (h : o' ≠ o) : (S.write o i s).waits o' = S.waits o' := upd_other _ _ h

theorem round2_waits5 (S : St) (x y : ByteArray) : (round2 S x y).waits 5 = S.waits 5 ++ [⟨S.writes + 1, 3, x⟩] := by
  unfold round2
  rw [write_other _ _ _ (by omega), write_same]
theorem round2_waits6 (S : St) (x y : ByteArray) : (round2 S x y).waits 6 = S.waits 6 ++ [⟨S.writes + 2, 4, y⟩] := by
  unfold round2
  rw [write_same, write_other _ _ _ (by omega)]
  rfl
theorem round2_rest (S : St) (x y : ByteArray) (o : Nat) (h5 : o ≠ 5) (h6 : o ≠ 6) : (round2 S x y).waits o = S.waits o := by
  unfold round2
  rw [write_other _ _ _ h6, write_other _ _ _ h5]

theorem FI.round {f j : Nat} {S : St} (h : FI f j S) (x y : ByteArray) : (round2 S x y).n = 10 ∧ (round2 S x y).down = false ∧ (round2 S x y).left = 0 ∧ (round2 S x y).writes = 2 * (j + 1) := by
  refine ⟨h.n, ?_, ?_, ?_⟩
  · show (if S.left - 1 = 0 then (if S.left = 0 then S.down else _) else _) = false
    rw [h.left]; exact h.down
  · show S.left - 1 - 1 = 0
    rw [h.left]
  · show S.writes + 1 + 1 = _
    rw [h.writes]; omega

theorem FI.keep {f j : Nat} {S : St} (h : FI f j S) (x y : ByteArray) (hf : j + 1 ≠ f) : FI f (j + 1) (round2 S x y) := by
  obtain ⟨r1, r2, r3, r4⟩ := h.round x y
  have e : (0 < f ∧ f ≤ j + 1) = (0 < f ∧ f ≤ j) := by apply propext; omega
  refine ⟨r1, r2, r3, r4, ?_, ?_, fun z hz => ?_, fun z hz => ?_, fun o h5 h6 => ?_, ?_, h.d4⟩
  · rw [round2_waits5, List.length_append, h.l5]
    simp only [e]
    split <;> simp <;> omega
  · rw [round2_waits6, List.length_append, h.l6]; rfl
  · rw [round2_waits5, List.mem_append, List.mem_singleton] at hz
    rcases hz with hz | rfl
    · exact h.p5 z hz
    · rfl
  · rw [round2_waits6, List.mem_append, List.mem_singleton] at hz
    rcases hz with hz | rfl
    · exact h.p6 z hz
    · rfl
  · rw [round2_rest S x y o h5 h6]; exact h.rest o h5 h6
  · show S.dur 3 = _
    rw [h.d3]; simp only [e]

theorem FI.flush {f j : Nat} {S : St} (h : FI f j S) (y : ByteArray) (hf : j + 1 = f) : FI f (j + 1) ((round2 S (Fill f) y).flush 5) := by
  obtain ⟨r1, r2, r3, r4⟩ := h.round (Fill f) y
  have e : 0 < f ∧ f ≤ j + 1 := by omega
  refine ⟨r1, r2, r3, r4, ?_, ?_, fun z hz => ?_, fun z hz => ?_, fun o h5 h6 => ?_, ?_, ?_⟩
  · rw [if_pos e]
    show (upd (round2 S (Fill f) y).waits 5 [] 5).length = _
    rw [upd_same]; simp; omega
  · show (upd (round2 S (Fill f) y).waits 5 [] 6).length = _
    rw [upd_other _ _ (by omega), round2_waits6, List.length_append, h.l6]; rfl
  · have hz' : z ∈ upd (round2 S (Fill f) y).waits 5 [] 5 := hz
    rw [upd_same] at hz'; cases hz'
  · have hz' : z ∈ upd (round2 S (Fill f) y).waits 5 [] 6 := hz
    rw [upd_other _ _ (by omega), round2_waits6, List.mem_append, List.mem_singleton] at hz'
    rcases hz' with hz' | rfl
    · exact h.p6 z hz'
    · rfl
  · show upd (round2 S (Fill f) y).waits 5 [] o = []
    rw [upd_other _ _ h5, round2_rest S _ y o h5 h6]; exact h.rest o h5 h6
  · show settleL S.dur ((round2 S (Fill f) y).waits 5) 3 = _
    rw [round2_waits5, settleL_snoc, if_pos e]
    exact upd_same _ _ _
  · show settleL S.dur ((round2 S (Fill f) y).waits 5) 4 = _
    rw [round2_waits5, settleL_other _ _ _ (fun z hz => ?_)]
    · exact h.d4
    · rw [List.mem_append, List.mem_singleton] at hz
      rcases hz with hz | rfl
      · rw [h.p5 z hz]; omega
      · show (3 : Nat) ≠ 4; omega

/-- Behind Forget nothing waits to sector 3. -/
theorem FI.forgotten {f j : Nat} {S : St} (h : FI f j S) : (S.forget 5).read 3 = S.dur 3 := by
  refine read_none _ 3 (fun o _ x hx => ?_)
  have hx' : x ∈ upd S.waits 5 [] o := hx
  by_cases e : o = 5
  · subst e; rw [upd_same] at hx'; cases hx'
  · rw [upd_other _ _ e] at hx'
    by_cases e6 : o = 6
    · subst e6; rw [h.p6 x hx']; omega
    · rw [h.rest o e e6] at hx'; cases hx'

end Go.Proofs.Ytodfecipeabmlaa
