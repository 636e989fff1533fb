/- How numbers lie in memory: a list of them as a slice; append of such a slice to a row of one's own, behind a guard too. -/
import Derived.Test.YtaiebhkjkeadoaaRows
import Derived.WalkKit
import Derived.WalkSpells
import Derived.WalkLawsBesides
import Derived.Below
import Derived.Deep.AppendLies
import Derived.Laws.AppendOwnNone
namespace Go.Proofs.Ytaiebhkjkeadoaa
open Go.RowKit

theorem numhid {P : Prop} (h : P) : Hid P := h
theorem numBool {a b : Bool} (h : a = b) : Ending.returned (.bool a) = .returned (.bool b) := by rw [h]
theorem numInt {a b : Int} (h : a = b) : Ending.returned (.int .i64 a) = .returned (.int .i64 b) := by rw [h]
theorem Try.numInfo3 : (Try.prog.info? 3).map (fun i => (i.zero, i.size, i.bytes)) = some (some (.int .i64 0), 1, 8) := by kernel_rfl

/-- Numbers that lie as a slice. -/
def Ints (w : World) (v : Value) (l : List Int) : Prop :=
  ∃ ad cap, v = .slice ad l.length cap ∧ (ad = none → cap = 0) ∧ l.length ≤ cap ∧ (0 < l.length → ∃ b off, ad = some ⟨b, off, none⟩ ∧ b < w.heap.size ∧ ∀ i (h : i < l.length), w.cell? ⟨b, off + i, none⟩ = some (.int .i64 l[i]))

theorem Ints.nil (w : World) : Ints w (.slice none 0 0) [] := ⟨none, 0, rfl, fun _ => rfl, Nat.le_refl _, fun h => absurd h (by simp)⟩

theorem Ints.on {w w' : World} {v : Value} {l : List Int} (h : Ints w v l) (k : Below w.heap.size w w') : Ints w' v l := by
  obtain ⟨ad, cap, hv, hn, hlc, hc⟩ := h
  refine ⟨ad, cap, hv, hn, hlc, fun hl => ?_⟩
  obtain ⟨b, off, ha, hb, hi⟩ := hc hl
  exact ⟨b, off, ha, Nat.lt_of_lt_of_le hb k.size, fun i h => by rw [k.cell hb]; exact hi i h⟩

/-- Numbers as cells. -/
def icells (l : List Int) : List Value := l.map fun x => Value.int .i64 x
theorem icells_length (l : List Int) : (icells l).length = l.length := by simp [icells]
theorem icells_append (a b : List Int) : icells (a ++ b) = icells a ++ icells b := by simp [icells]
theorem icells_get (l : List Int) (j : Nat) (h : j < l.length) : (icells l)[j]? = some (.int .i64 l[j]) := by simp [icells, h]
theorem icells_all (l : List Int) : ∀ u ∈ icells l, u.oneCell' = true := by
  intro u hu
  obtain ⟨x, _, rfl⟩ := List.mem_map.1 hu
  rfl
theorem num_addr (b off j : Nat) : (⟨b, off, none⟩ : Addr).add j = ⟨b, off + j, none⟩ := by unfold Addr.add; split <;> simp_all

theorem Ints.block {w : World} {g cap : Nat} {cs : Array Value} {t : TypeId} {fr : Nat × Nat} {l : List Int} (hg : w.heap[g]? = some (.cells cs t fr)) (hcs : cs = (icells l).toArray) (hc : l.length ≤ cap) : Ints w (.slice (some ⟨g, 0, none⟩) l.length cap) l := by
  subst hcs
  exact ⟨some ⟨g, 0, none⟩, cap, rfl, (fun h => by cases h), hc, fun _ => ⟨g, 0, rfl, (Array.getElem?_eq_some_iff.1 hg).1, fun i hi => by rw [cell_of_row w g _ _ t _ hg, Nat.zero_add, List.getElem?_toArray]; exact icells_get l i hi⟩⟩

/-- A row of the call's own holds these numbers. -/
def IOwn (w : World) (base : Nat) (v : Value) (l : List Int) : Prop := w.ownsRow base 3 1 v l.length (icells l)
theorem IOwn.nil (w : World) (base : Nat) : IOwn w base (.slice none 0 0) [] := ⟨rfl, .inl ⟨rfl, rfl⟩⟩
theorem IOwn.ints {w : World} {base : Nat} {v : Value} {l : List Int} (h : IOwn w base v l) : Ints w v l := by
  rcases h.2 with ⟨rfl, h0⟩ | ⟨g, cap, cur, rfl, hbg, hg, hle, hmx, hcs, htk⟩
  · rw [List.length_eq_zero_iff.1 h0]
    exact Ints.nil w
  · refine ⟨some ⟨g, 0, none⟩, cap, rfl, (fun h => by cases h), hle, fun _ => ⟨g, 0, rfl, (Array.getElem?_eq_some_iff.1 hg).1, fun j hj => ?_⟩⟩
    rw [cell_of_row w g _ cur 3 _ hg, Nat.zero_add, ← icells_get l j hj, ← htk, Nat.mul_one, List.getElem?_take_of_lt hj, Array.getElem?_toList]
theorem IOwn.on {w w' : World} {base : Nat} {v : Value} {l : List Int} (h : IOwn w base v l) (k : Below w.heap.size w w') : IOwn w' base v l := by
  obtain ⟨h1, h2⟩ := h
  refine ⟨h1, ?_⟩
  rcases h2 with h2 | ⟨g, cap, cur, rfl, hg, hh, r⟩
  · exact Or.inl h2
  · exact Or.inr ⟨g, cap, cur, rfl, hg, by rw [k.block g (Array.getElem?_eq_some_iff.1 hh).1]; exact hh, r⟩
theorem IOwn.lt {w : World} {base : Nat} {v : Value} {l : List Int} (h : IOwn w base v l) : ∀ k, v.ownBlock = some k → base ≤ k ∧ k < w.heap.size := by
  obtain ⟨h1, h2⟩ := h
  rcases h2 with ⟨rfl, _⟩ | ⟨g, cap, cur, rfl, hg, hh, r⟩
  · intro k hk
    simp [Value.ownBlock] at hk
  · intro k hk
    simp [Value.ownBlock] at hk
    subst hk
    exact ⟨hg, (Array.getElem?_eq_some_iff.1 hh).1⟩
theorem IOwn.slice {w : World} {base : Nat} {v : Value} {l : List Int} (h : IOwn w base v l) : ∃ ad cap, v = .slice ad l.length cap := by
  obtain ⟨ad, cap, hv, _⟩ := h.ints
  exact ⟨ad, cap, hv⟩

/-- append(one's own, numbers...), behind a guard too. -/
theorem wpList_append_ints {ops : Array Oper} {rest : List Oper} {o : Oper} {a : Act} {Q : Exit → Act → World → Prop} {w : World} (hw : Region.wanted o (yielded ops a.tmps) = true) (s x : Operand)
    (ho : o.op = .call { callee := .builtin .append, args := #[s, x], argTypes := #[22, 22] })
    (base : Nat) (v : Value) (xs : List Int) (hs : a.eval s = v) (hown : IOwn w base v xs) (y : Value) (l : List Int) (hx : a.eval x = y) (hl : Ints w y l)
    (hb : xs.length + l.length ≤ 200000) (hbase : base ≤ w.heap.size)
    (h : ∀ v' w', IOwn w' base v' (xs ++ l) → Below base w w' → w.heap.size ≤ w'.heap.size → wpList Try.prog ops Q rest (a.put o.dst v') w') : wpList Try.prog ops Q (o :: rest) a w := by
  obtain ⟨j0, hj0, hy0, hy1, hy2⟩ := info_parts Try.numInfo3
  have hgrow : ∀ w', w.grownBy w' v.ownBlock → Below base w w' := fun w' hg => (Below.refl _ w).grown hg hbase (fun k hk => (hown.lt k hk).1)
  refine wpList_step fun K hK => ?_
  rw [if_pos hw]
  obtain ⟨ad, cap, rfl, hn, _, hc⟩ := hl
  cases ad with
  | none =>
    have h0 : cap = 0 := hn rfl
    subst h0
    have hl0 : l.length = 0 := by
      rcases Nat.eq_zero_or_pos l.length with h | h
      · exact h
      · obtain ⟨b, off, ha, _⟩ := hc h
        cases ha
    have hnil : l = [] := List.length_eq_zero_iff.1 hl0
    subst hnil
    have hrun := run_append_owned_none (P := Try.prog) (w := w) base 22 o.type 3 j0 1 Try.underlying22 hj0 v xs.length (icells xs) hown
    unfold Oper.wp execOp
    simp only [ho, resolve, invoke, builtin, Sem.run_bind, Sem.run_pure, Result.andThen_ok, List.map_toArray, List.map_cons, List.map_nil, hs, hx, List.length_nil, hrun]
    refine hK _ _ (h v w ?_ (Below.refl _ _) (Nat.le_refl _))
    rw [List.append_nil]
    exact hown
  | some sad =>
    refine wp_append_own w s x 22 ho base 3 j0 _ 1 8 Try.underlying22 hj0 hy0 hy1 hy2 rfl (by decide) v xs.length (icells xs) hs hown sad l.length cap (icells l) hx (by rw [icells_length]; omega) ?_ (icells_all l) (by unfold maxLen; omega) (by omega) hbase ?_
    · intro j u hj
      have hjl : j < l.length := by
        rw [← icells_length]
        exact (List.getElem?_eq_some_iff.1 hj).1
      obtain ⟨b, off, ha, hb, hi⟩ := hc (by omega)
      cases ha
      rw [icells_get l j hjl] at hj
      rw [← hj, num_addr]
      exact hi j hjl
    · intro v' w' h2 h3 _
      refine hK _ _ (h v' w' ?_ (hgrow w' h3) h3.size)
      show World.ownsRow _ _ _ _ _ _ _
      rw [icells_append, List.length_append]
      exact h2

/-- append(one's own, x): a number more, that the walk has laid into a block of its own. -/
theorem wpList_append_one {ops : Array Oper} {rest : List Oper} {o : Oper} {a : Act} {Q : Exit → Act → World → Prop} {w : World} (hw : Region.wanted o (yielded ops a.tmps) = true) (s x : Operand)
    (ho : o.op = .call { callee := .builtin .append, args := #[s, x], argTypes := #[22, 22] })
    (base : Nat) (v : Value) (xs : List Int) (hs : a.eval s = v) (hown : IOwn w base v xs) (g cap : Nat) (l : List Int) (hx : a.eval x = .slice (some ⟨g, 0, none⟩) l.length cap) (t : TypeId) (fr : Nat × Nat) (hg : w.heap[g]? = some (.cells (icells l).toArray t fr)) (hlc : l.length ≤ cap)
    (hb : xs.length + l.length ≤ 200000) (hbase : base ≤ w.heap.size)
    (h : ∀ v' w', IOwn w' base v' (xs ++ l) → Below base w w' → w.heap.size ≤ w'.heap.size → wpList Try.prog ops Q rest (a.put o.dst v') w') : wpList Try.prog ops Q (o :: rest) a w :=
  wpList_append_ints hw s x ho base v xs hs hown _ l hx ⟨some ⟨g, 0, none⟩, cap, rfl, (fun h => by cases h), hlc, fun _ => ⟨g, 0, rfl, (Array.getElem?_eq_some_iff.1 hg).1, fun i hi => by rw [cell_of_row w g _ _ t _ hg, Nat.zero_add, List.getElem?_toArray]; exact icells_get l i hi⟩⟩ hb hbase h

theorem IOwn.low {w : World} {base b2 : Nat} {v : Value} {l : List Int} (h : IOwn w base v l) (hb : b2 ≤ base) : IOwn w b2 v l := by
  obtain ⟨h1, h2⟩ := h
  refine ⟨h1, ?_⟩
  rcases h2 with h2 | ⟨g, cap, cur, rfl, hg, r⟩
  · exact .inl h2
  · exact .inr ⟨g, cap, cur, rfl, Nat.le_trans hb hg, r⟩
theorem IOwn.slice2 {w : World} {base : Nat} {v : Value} {l : List Int} (h : IOwn w base v l) : ∃ ad cap, v = .slice ad l.length cap ∧ ((ad = none ∧ cap = 0) ∨ ∃ b, ad = some ⟨b, 0, none⟩) := by
  rcases h.2 with ⟨rfl, h0⟩ | ⟨g, cap, cur, rfl, -⟩
  · exact ⟨none, 0, by rw [h0], .inl ⟨rfl, rfl⟩⟩
  · exact ⟨_, cap, rfl, .inr ⟨g, rfl⟩⟩
/-- The first so many numbers of a slice. -/
theorem Ints.take {w : World} {ad : Option Addr} {n cap : Nat} {l : List Int} (h : Ints w (.slice ad n cap) l) (m : Nat) (hm : m ≤ l.length) : n = l.length ∧ l.length ≤ cap ∧ (ad = none → cap = 0) ∧ (0 < l.length → ∃ b off, ad = some ⟨b, off, none⟩) ∧ Ints w (.slice ad m cap) (l.take m) := by
  obtain ⟨ad2, cap2, hv, hn, hlc, hc⟩ := h
  injection hv with h1 h2 h3
  subst h1 h2 h3
  have e : (l.take m).length = m := by rw [List.length_take]; omega
  refine ⟨rfl, hlc, hn, fun h0 => ?_, ad, cap, by rw [e], hn, by omega, fun h0 => ?_⟩
  · obtain ⟨b, off, ha, _⟩ := hc h0
    exact ⟨b, off, ha⟩
  · obtain ⟨b, off, ha, hb, hi⟩ := hc (by omega)
    exact ⟨b, off, ha, hb, fun i h => by rw [hi i (by omega), List.getElem_take]⟩
end Go.Proofs.Ytaiebhkjkeadoaa
