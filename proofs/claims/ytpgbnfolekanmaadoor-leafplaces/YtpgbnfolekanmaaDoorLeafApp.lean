/- append(a row of one's own, places...), behind a guard too; append(row, p). -/
import Derived.Test.YtpgbnfolekanmaaDoorLeafRow
namespace Go.Proofs.YtpgbnfolekanmaaDoor
open Go.RowKit Lf

/-- append(one's own, places...), behind a guard too. -/
theorem wpList_append_nams {ops : Array Oper} {rest : List Oper} {o : Oper} {a : Act} {Q : Exit → Act → World → Prop} {w : World} (hw : Region.wanted o (yielded ops a.tmps) = true) (s x : Operand)
    (ho : o.op = .call { callee := .builtin .append, args := #[s, x], argTypes := #[22, 22] })
    (base : Nat) (v : Value) (xs : List Nm) (hs : a.eval s = v) (hown : NOwn w base v xs) (y : Value) (l : List Nm) (hx : a.eval x = y) (hl : Nams w y l)
    (hb : xs.length + l.length ≤ 100000) (hbase : base ≤ w.heap.size)
    (h : ∀ v' w', Hid (NOwn w' base v' (xs ++ l)) → Hid (Below base w w') → w.heap.size ≤ w'.heap.size → wpList Tryd.prog ops Q rest (a.put o.dst v') w') : wpList Tryd.prog ops Q (o :: rest) a w := by
  obtain ⟨j0, hj0, hy0, hy1, hy2⟩ := info_parts Tryd.infoN
  have hgrow : ∀ w', w.grownBy w' v.ownBlock → Below base w w' := fun w' hg => (Below.refl _ w).grown hg hbase (fun k hk => (hown.lt k hk).1)
  refine wpList_step fun K hK => ?_
  rw [if_pos hw]
  have hl0 := hl
  obtain ⟨ad, cap, rfl, hn, _, hc⟩ := hl
  cases ad with
  | none =>
    obtain ⟨hnil, h0⟩ := hl0.none_
    subst hnil
    subst h0
    have hrun := run_append_owned_none (P := Tryd.prog) (w := w) base 22 o.type 41 j0 2 Tryd.underlying22 hj0 v xs.length (ncells xs) hown
    unfold Oper.wp execOp
    simp only [ho, resolve, invoke, builtin, Sem.run_bind, Sem.run_pure, Result.andThen_ok, List.map_toArray, List.map_cons, List.map_nil, hs, hx, List.length_nil, hrun]
    refine hK _ _ (h v w ?_ (Below.refl _ _) (Nat.le_refl _))
    show NOwn _ _ _ _
    rw [List.append_nil]
    exact hown
  | some sad =>
    refine wp_append_own w s x 22 ho base 41 j0 _ 2 24 Tryd.underlying22 hj0 hy0 hy1 hy2 rfl (by decide) v xs.length (ncells xs) hs hown sad l.length cap (ncells l) hx (by rw [ncells_length]) ?_ (ncells_all l) (by unfold maxLen; omega) (by omega) hbase ?_
    · exact hl0.cells
    · intro v' w' h2 h3 _
      refine hK _ _ (h v' w' ?_ (hgrow w' h3) h3.size)
      show World.ownsRow _ _ _ _ _ _ _
      rw [ncells_append, List.length_append]
      exact h2

/-- append(row, p): a place behind those of a row of the call's own. -/
theorem wpList_append_nm {w : World} {ops : Array Oper} {rest : List Oper} {o : Oper} {a : Act} {Q : Exit → Act → World → Prop} (hgd : o.guard = none) (s x : Operand)
    (ho : o.op = .call { callee := .builtin .append, args := #[s, x], argTypes := #[22, 22] }) (base : Nat) (w0 : World) (v : Value) (l : List Nm) (p : Nm) (nb : Nat)
    (hs : a.eval s = v) (hx : a.eval x = .slice (some ⟨nb, 0, none⟩) 1 1) (hown : NOwn w base v l) (hnew : w.heap[nb]? = some (.cells #[.string p.name, .int .i64 p.node] 41 (0, 0))) (hl : l.length ≤ 100000) (hbase : base ≤ w.heap.size) (hB : Below base w0 w)
    (h : ∀ g cap w', Hid (NOwn w' base (.slice (some ⟨g, 0, none⟩) (l.length + 1) cap) (l ++ [p])) → Hid (Below base w0 w') → wpList Tryd.prog ops Q rest (a.put o.dst (.slice (some ⟨g, 0, none⟩) (l.length + 1) cap)) w') : wpList Tryd.prog ops Q (o :: rest) a w := by
  obtain ⟨i0, hi0, hz0, hz1, hz2⟩ := info_parts Tryd.infoN
  refine wpList_append_lies _ hgd s x 22 ho base 41 i0 _ 2 24 Tryd.underlying22 hi0 hz0 hz1 hz2 rfl (by decide) v l.length (ncells l) hs hown ⟨nb, 0, none⟩ 1 1 [.string p.name, .int .i64 p.node] hx rfl
    (World.news_of_block (cs := #[.string p.name, .int .i64 p.node]) (t := 41) (fr := (0, 0)) hnew) (by simp [Value.oneCell']) (by decide) (by unfold maxLen; omega) (by omega) hbase w.heap.size rfl ?_
  intro g cap w' hown' hgrow _ _
  refine h g cap w' ?_ ?_
  · show NOwn _ _ _ _
    unfold NOwn
    rw [List.length_append, ncells_append, ncells_one]
    exact hown'
  · exact hB.grown hgrow hbase (fun q hq => (hown.lt q hq).1)

/-- The first places of a list. -/
theorem Nams.take {w : World} {ad : Option Addr} {m cap : Nat} {l : List Nm} (h : Nams w (.slice ad m cap) l) {n : Nat} (hn : n ≤ l.length) : Nams w (.slice ad n cap) (l.take n) := by
  obtain ⟨ad', cap', hv, h0, hcap, hc⟩ := h
  cases hv
  have hlen : (l.take n).length = n := by rw [List.length_take]; omega
  refine ⟨ad, cap, by rw [hlen], h0, by rw [hlen]; omega, fun hl => ?_⟩
  obtain ⟨b, off, ha, hb, hi⟩ := hc (by omega)
  refine ⟨b, off, ha, hb, fun i h => ?_⟩
  have hil : i < l.length := by omega
  rw [List.getElem_take]
  exact hi i hil
end Go.Proofs.YtpgbnfolekanmaaDoor
