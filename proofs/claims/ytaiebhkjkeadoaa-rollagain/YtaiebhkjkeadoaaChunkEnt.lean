/- Entries appended to a row of one's own; a row of entries and a row of texts. -/
import Derived.Test.YtaiebhkjkeadoaaChunkLay
import Derived.Test.YtaiebhkjkeadoaaHeadRow
namespace Go.Proofs.Ytaiebhkjkeadoaa
open Go.RowKit Rec Hdp Chk

/-- append(one's own, entry): an entry more, that the walk has laid into a block of its own. -/
theorem wpList_append_ent {ops : Array Oper} {rest : List Oper} {o : Oper} {a : Act} {Q : Exit → Act → World → Prop} {w : World} (hw : Region.wanted o (yielded ops a.tmps) = true) (s x : Operand)
    (ho : o.op = .call { callee := .builtin .append, args := #[s, x], argTypes := #[41, 41] })
    (base : Nat) (v : Value) (xs : List En) (hs : a.eval s = v) (hown : EOwn w base v xs) (g : Nat) (e : En) (hx : a.eval x = .slice (some ⟨g, 0, none⟩) 1 1) (t : TypeId) (fr : Nat × Nat) (hg : w.heap[g]? = some (.cells #[.int .i64 e.kind, .int .i64 e.node, .int .i64 e.part] t fr))
    (hb : xs.length ≤ 100000) (hbase : base ≤ w.heap.size)
    (h : ∀ v' w', EOwn w' base v' (xs ++ [e]) → Below base w w' → w.heap.size ≤ w'.heap.size → w.grownBy w' v.ownBlock → wpList Try.prog ops Q rest (a.put o.dst v') w') : wpList Try.prog ops Q (o :: rest) a w := by
  obtain ⟨j0, hj0, hy0, hy1, hy2⟩ := info_parts Try.infoE
  have hgrow : ∀ w', w.grownBy w' v.ownBlock → Below base w w' := fun w' hg => (Below.refl _ w).grown hg hbase (fun k hk => (hown.lt k hk).1)
  refine wpList_step fun K hK => ?_
  rw [if_pos hw]
  refine wp_append_own w s x 41 ho base 62 j0 _ 3 24 Try.underlying41 hj0 hy0 hy1 hy2 rfl (by decide) v xs.length (ecells xs) hs hown ⟨g, 0, none⟩ 1 1 (ecells [e]) hx (by rw [ecells_length]; rfl) ?_ (ecells_all [e]) (by unfold maxLen; omega) (by omega) hbase ?_
  · intro j u hj
    rw [ecells_one] at hj
    have hj3 : j < 3 := (List.getElem?_eq_some_iff.1 hj).1
    rw [tx_addr, Nat.zero_add, cell_of_row w g _ _ t fr hg, ← hj]
    have hcs : j = 0 ∨ j = 1 ∨ j = 2 := by omega
    rcases hcs with rfl | rfl | rfl <;> rfl
  · intro v' w' h2 h3 _
    refine hK _ _ (h v' w' ?_ (hgrow w' h3) h3.size h3)
    show World.ownsRow _ _ _ _ _ _ _
    rw [ecells_append, List.length_append]
    exact h2

/-- A row of entries and a row of texts are two rows. -/
theorem own_apart {w : World} {b1 b2 : Nat} {v u : Value} {xs : List En} {ts : List ByteArray} (h : EOwn w b1 v xs) (k : TOwn w b2 u ts) : v.ownBlock = none ∨ v.ownBlock ≠ u.ownBlock := by
  rcases h.2 with ⟨rfl, _⟩ | ⟨g, cap, cur, rfl, _, hg, _⟩
  · exact .inl rfl
  · refine .inr fun e => ?_
    rcases k.2 with ⟨rfl, _⟩ | ⟨g2, cap2, cur2, rfl, _, hg2, _⟩
    · simp [Value.ownBlock] at e
    · simp [Value.ownBlock] at e
      subst e
      rw [hg] at hg2
      simp only [Option.some.injEq, Obj.cells.injEq] at hg2
      exact absurd hg2.2.1 (by decide)
theorem EOwn.kept {w w' : World} {base : Nat} {v : Value} {l : List En} {row : Option Nat} (h : EOwn w base v l) (hg : w.grownBy w' row) (hne : v.ownBlock = none ∨ v.ownBlock ≠ row) : EOwn w' base v l := World.ownsRow.kept h hg hne
theorem TOwn.kept {w w' : World} {base : Nat} {v : Value} {l : List ByteArray} {row : Option Nat} (h : TOwn w base v l) (hg : w.grownBy w' row) (hne : v.ownBlock = none ∨ v.ownBlock ≠ row) : TOwn w' base v l := World.ownsRow.kept h hg hne
theorem own_swap {a b : Option Nat} (h : a = none ∨ a ≠ b) : b = none ∨ b ≠ a := by
  rcases h with rfl | h
  · cases b with
    | none => exact .inl rfl
    | some k => exact .inr (by simp)
  · exact .inr (Ne.symm h)
end Go.Proofs.Ytaiebhkjkeadoaa
