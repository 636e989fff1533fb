/- How texts lie in memory: a list of them as a slice; append of such a slice to a row of one's own, behind a guard too. -/
import Derived.Test.YtaiebhkjkeadoaaChunkPlain
import Derived.Test.YtaiebhkjkeadoaaHeadCode
import Derived.WalkSpells
import Derived.WalkLawsBesides
import Derived.Below
import Derived.Deep.AppendLies
import Derived.Laws.AppendOwnNone
import Derived.Laws.OwnMore
namespace Go.Proofs.Ytaiebhkjkeadoaa
open Go.RowKit

theorem Try.tinfo9 : (Try.prog.info? 9).map (fun i => (i.zero, i.size, i.bytes)) = some (some (.string ByteArray.empty), 1, 16) := by kernel_rfl

/-- Texts that lie as a slice. -/
def Txts (w : World) (v : Value) (l : List ByteArray) : Prop :=
  ∃ ad cap, v = .slice ad l.length cap ∧ (ad = none → cap = 0) ∧ l.length ≤ cap ∧ (0 < l.length → ∃ b off, ad = some ⟨b, off, none⟩ ∧ b < w.heap.size ∧ ∀ i (h : i < l.length), w.cell? ⟨b, off + i, none⟩ = some (.string l[i]))

theorem Txts.nil (w : World) : Txts w (.slice none 0 0) [] := ⟨none, 0, rfl, fun _ => rfl, Nat.le_refl _, fun h => absurd h (by simp)⟩

theorem Txts.on {w w' : World} {v : Value} {l : List ByteArray} (h : Txts w v l) (k : Below w.heap.size w w') : Txts w' v l := by
  obtain ⟨ad, cap, hv, hn, hlc, hc⟩ := h
  refine ⟨ad, cap, hv, hn, hlc, fun hl => ?_⟩
  obtain ⟨b, off, ha, hb, hi⟩ := hc hl
  exact ⟨b, off, ha, Nat.lt_of_lt_of_le hb k.size, fun i h => by rw [k.cell hb]; exact hi i h⟩

/-- Texts as cells. -/
def tcells (l : List ByteArray) : List Value := l.map fun x => Value.string x
theorem tcells_length (l : List ByteArray) : (tcells l).length = l.length := by simp [tcells]
theorem tcells_append (a b : List ByteArray) : tcells (a ++ b) = tcells a ++ tcells b := by simp [tcells]
theorem tcells_get (l : List ByteArray) (j : Nat) (h : j < l.length) : (tcells l)[j]? = some (.string l[j]) := by simp [tcells, h]
theorem tcells_all (l : List ByteArray) : ∀ u ∈ tcells l, u.oneCell' = true := by
  intro u hu
  obtain ⟨x, _, rfl⟩ := List.mem_map.1 hu
  rfl
theorem tx_addr (b off j : Nat) : (⟨b, off, none⟩ : Addr).add j = ⟨b, off + j, none⟩ := by unfold Addr.add; split <;> simp_all

theorem Txts.block {w : World} {g cap : Nat} {cs : Array Value} {t : TypeId} {fr : Nat × Nat} {l : List ByteArray} (hg : w.heap[g]? = some (.cells cs t fr)) (hcs : cs = (tcells l).toArray) (hc : l.length ≤ cap) : Txts w (.slice (some ⟨g, 0, none⟩) l.length cap) l := by
  subst hcs
  exact ⟨some ⟨g, 0, none⟩, cap, rfl, (fun h => by cases h), hc, fun _ => ⟨g, 0, rfl, (Array.getElem?_eq_some_iff.1 hg).1, fun i hi => by rw [cell_of_row w g _ _ t _ hg, Nat.zero_add, List.getElem?_toArray]; exact tcells_get l i hi⟩⟩

/-- A row of the call's own holds these texts. -/
def TOwn (w : World) (base : Nat) (v : Value) (l : List ByteArray) : Prop := w.ownsRow base 9 1 v l.length (tcells l)
theorem TOwn.nil (w : World) (base : Nat) : TOwn w base (.slice none 0 0) [] := ⟨rfl, .inl ⟨rfl, rfl⟩⟩
theorem TOwn.txts {w : World} {base : Nat} {v : Value} {l : List ByteArray} (h : TOwn w base v l) : Txts w v l := by
  rcases h.2 with ⟨rfl, h0⟩ | ⟨g, cap, cur, rfl, hbg, hg, hle, hmx, hcs, htk⟩
  · rw [List.length_eq_zero_iff.1 h0]
    exact Txts.nil w
  · refine ⟨some ⟨g, 0, none⟩, cap, rfl, (fun h => by cases h), hle, fun _ => ⟨g, 0, rfl, (Array.getElem?_eq_some_iff.1 hg).1, fun j hj => ?_⟩⟩
    rw [cell_of_row w g _ cur 9 _ hg, Nat.zero_add, ← tcells_get l j hj, ← htk, Nat.mul_one, List.getElem?_take_of_lt hj, Array.getElem?_toList]
theorem TOwn.on {w w' : World} {base : Nat} {v : Value} {l : List ByteArray} (h : TOwn w base v l) (k : Below w.heap.size w w') : TOwn w' base v l := by
  obtain ⟨h1, h2⟩ := h
  refine ⟨h1, ?_⟩
  rcases h2 with h2 | ⟨g, cap, cur, rfl, hg, hh, r⟩
  · exact Or.inl h2
  · exact Or.inr ⟨g, cap, cur, rfl, hg, by rw [k.block g (Array.getElem?_eq_some_iff.1 hh).1]; exact hh, r⟩
theorem TOwn.lt {w : World} {base : Nat} {v : Value} {l : List ByteArray} (h : TOwn w base v l) : ∀ k, v.ownBlock = some k → base ≤ k ∧ k < w.heap.size := by
  obtain ⟨h1, h2⟩ := h
  rcases h2 with ⟨rfl, _⟩ | ⟨g, cap, cur, rfl, hg, hh, r⟩
  · intro k hk
    simp [Value.ownBlock] at hk
  · intro k hk
    simp [Value.ownBlock] at hk
    subst hk
    exact ⟨hg, (Array.getElem?_eq_some_iff.1 hh).1⟩
theorem TOwn.slice {w : World} {base : Nat} {v : Value} {l : List ByteArray} (h : TOwn w base v l) : ∃ ad cap, v = .slice ad l.length cap := by
  obtain ⟨ad, cap, hv, _⟩ := h.txts
  exact ⟨ad, cap, hv⟩

theorem grown_refl (w : World) (r : Option Nat) : w.grownBy w r := ⟨rfl, rfl, rfl, Nat.le_refl _, fun _ _ _ => rfl⟩
theorem grown_setRow (w : World) (b : Nat) (cs : Array Value) : w.grownBy (w.setRow b cs) (some b) :=
  ⟨rfl, rfl, rfl, by simp [World.setRow], fun k _ h => setRow_other w b k cs (fun e => h (by rw [e]))⟩

/-- append(one's own, texts...), behind a guard too. -/
theorem wpList_append_txts {ops : Array Oper} {rest : List Oper} {o : Oper} {a : Act} {Q : Exit → Act → World → Prop} {w : World} (hw : Region.wanted o (yielded ops a.tmps) = true) (s x : Operand)
    (ho : o.op = .call { callee := .builtin .append, args := #[s, x], argTypes := #[44, 44] })
    (base : Nat) (v : Value) (xs : List ByteArray) (hs : a.eval s = v) (hown : TOwn w base v xs) (y : Value) (l : List ByteArray) (hx : a.eval x = y) (hl : Txts w y l)
    (hb : xs.length + l.length ≤ 200000) (hbase : base ≤ w.heap.size)
    (h : ∀ v' w', TOwn w' base v' (xs ++ l) → Below base w w' → w.heap.size ≤ w'.heap.size → w.grownBy w' v.ownBlock → wpList Try.prog ops Q rest (a.put o.dst v') w') : wpList Try.prog ops Q (o :: rest) a w := by
  obtain ⟨j0, hj0, hy0, hy1, hy2⟩ := info_parts Try.tinfo9
  have hgrow : ∀ w', w.grownBy w' v.ownBlock → Below base w w' := fun w' hg => (Below.refl _ w).grown hg hbase (fun k hk => (hown.lt k hk).1)
  refine wpList_step fun K hK => ?_
  rw [if_pos hw]
  obtain ⟨ad, cap, rfl, hn, _, hc⟩ := hl
  cases ad with
  | none =>
    have h0 : cap = 0 := hn rfl
    subst h0
    have hl0 : l.length = 0 := by
      rcases Nat.eq_zero_or_pos l.length with h | h
      · exact h
      · obtain ⟨b, off, ha, _⟩ := hc h
        cases ha
    have hnil : l = [] := List.length_eq_zero_iff.1 hl0
    subst hnil
    have hrun := run_append_owned_none (P := Try.prog) (w := w) base 44 o.type 9 j0 1 Try.underlying44 hj0 v xs.length (tcells xs) hown
    unfold Oper.wp execOp
    simp only [ho, resolve, invoke, builtin, Sem.run_bind, Sem.run_pure, Result.andThen_ok, List.map_toArray, List.map_cons, List.map_nil, hs, hx, List.length_nil, hrun]
    refine hK _ _ (h v w ?_ (Below.refl _ _) (Nat.le_refl _) (grown_refl _ _))
    rw [List.append_nil]
    exact hown
  | some sad =>
    refine wp_append_own w s x 44 ho base 9 j0 _ 1 16 Try.underlying44 hj0 hy0 hy1 hy2 rfl (by decide) v xs.length (tcells xs) hs hown sad l.length cap (tcells l) hx (by rw [tcells_length]; omega) ?_ (tcells_all l) (by unfold maxLen; omega) (by omega) hbase ?_
    · intro j u hj
      have hjl : j < l.length := by
        rw [← tcells_length]
        exact (List.getElem?_eq_some_iff.1 hj).1
      obtain ⟨b, off, ha, hb, hi⟩ := hc (by omega)
      cases ha
      rw [tcells_get l j hjl] at hj
      rw [← hj, tx_addr]
      exact hi j hjl
    · intro v' w' h2 h3 _
      refine hK _ _ (h v' w' ?_ (hgrow w' h3) h3.size h3)
      show World.ownsRow _ _ _ _ _ _ _
      rw [tcells_append, List.length_append]
      exact h2

/-- append(one's own, x): a text more, that the walk has laid into a block of its own. -/
theorem wpList_append_txt {ops : Array Oper} {rest : List Oper} {o : Oper} {a : Act} {Q : Exit → Act → World → Prop} {w : World} (hw : Region.wanted o (yielded ops a.tmps) = true) (s x : Operand)
    (ho : o.op = .call { callee := .builtin .append, args := #[s, x], argTypes := #[44, 44] })
    (base : Nat) (v : Value) (xs : List ByteArray) (hs : a.eval s = v) (hown : TOwn w base v xs) (g cap : Nat) (l : List ByteArray) (hx : a.eval x = .slice (some ⟨g, 0, none⟩) l.length cap) (t : TypeId) (fr : Nat × Nat) (hg : w.heap[g]? = some (.cells (tcells l).toArray t fr)) (hlc : l.length ≤ cap)
    (hb : xs.length + l.length ≤ 200000) (hbase : base ≤ w.heap.size)
    (h : ∀ v' w', TOwn w' base v' (xs ++ l) → Below base w w' → w.heap.size ≤ w'.heap.size → w.grownBy w' v.ownBlock → wpList Try.prog ops Q rest (a.put o.dst v') w') : wpList Try.prog ops Q (o :: rest) a w :=
  wpList_append_txts hw s x ho base v xs hs hown _ l hx ⟨some ⟨g, 0, none⟩, cap, rfl, (fun h => by cases h), hlc, fun _ => ⟨g, 0, rfl, (Array.getElem?_eq_some_iff.1 hg).1, fun i hi => by rw [cell_of_row w g _ _ t _ hg, Nat.zero_add, List.getElem?_toArray]; exact tcells_get l i hi⟩⟩ hb hbase h

theorem TOwn.low {w : World} {base b2 : Nat} {v : Value} {l : List ByteArray} (h : TOwn w base v l) (hb : b2 ≤ base) : TOwn w b2 v l := by
  obtain ⟨h1, h2⟩ := h
  refine ⟨h1, ?_⟩
  rcases h2 with h2 | ⟨g, cap, cur, rfl, hg, r⟩
  · exact .inl h2
  · exact .inr ⟨g, cap, cur, rfl, Nat.le_trans hb hg, r⟩
theorem TOwn.slice2 {w : World} {base : Nat} {v : Value} {l : List ByteArray} (h : TOwn w base v l) : ∃ ad cap, v = .slice ad l.length cap ∧ ((ad = none ∧ cap = 0) ∨ ∃ b, ad = some ⟨b, 0, none⟩) := by
  rcases h.2 with ⟨rfl, h0⟩ | ⟨g, cap, cur, rfl, -⟩
  · exact ⟨none, 0, by rw [h0], .inl ⟨rfl, rfl⟩⟩
  · exact ⟨_, cap, rfl, .inr ⟨g, rfl⟩⟩
/-- The first so many texts of a slice. -/
theorem Txts.take {w : World} {ad : Option Addr} {n cap : Nat} {l : List ByteArray} (h : Txts w (.slice ad n cap) l) (m : Nat) (hm : m ≤ l.length) : n = l.length ∧ l.length ≤ cap ∧ (ad = none → cap = 0) ∧ (0 < l.length → ∃ b off, ad = some ⟨b, off, none⟩) ∧ Txts w (.slice ad m cap) (l.take m) := by
  obtain ⟨ad2, cap2, hv, hn, hlc, hc⟩ := h
  injection hv with h1 h2 h3
  subst h1 h2 h3
  have e : (l.take m).length = m := by rw [List.length_take]; omega
  refine ⟨rfl, hlc, hn, fun h0 => ?_, ad, cap, by rw [e], hn, by omega, fun h0 => ?_⟩
  · obtain ⟨b, off, ha, _⟩ := hc h0
    exact ⟨b, off, ha⟩
  · obtain ⟨b, off, ha, hb, hi⟩ := hc (by omega)
    exact ⟨b, off, ha, hb, fun i h => by rw [hi i (by omega), List.getElem_take]⟩
end Go.Proofs.Ytaiebhkjkeadoaa
