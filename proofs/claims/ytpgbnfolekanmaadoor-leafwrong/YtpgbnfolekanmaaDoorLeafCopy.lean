/- 'copy' of places into a row of the call's own. -/
import Derived.Test.YtpgbnfolekanmaaDoorLeafRow
import Derived.Laws.CopyOwn
namespace Go.Proofs.YtpgbnfolekanmaaDoor
open Go.RowKit Lf

theorem run_copy_sized {P : Program} (w : World) (dT sT ty elem : TypeId) (g o dLen dCap : Nat) (a : Addr) (sLen sCap sz : Nat) (cur : Array Value) (t : TypeId) (cs : List Value)
    (hu : P.underlying dT = some (.slice elem)) (hs : (P.info? elem).map (·.size) = some sz)
    (hg : w.heap[g]? = some (.cells cur t (0, 0))) (hn : cs.length = Nat.min sLen dLen * sz)
    (hsrc : ∀ j v, cs[j]? = some v → w.cell? (a.add j) = some v) (hfit : o + cs.length ≤ cur.size) (h1 : ∀ v ∈ cs, v.oneCell' = true) :
    (Builtin.copy_ #[dT, sT] ty #[.slice (some ⟨g, o, none⟩) dLen dCap, .slice (some a) sLen sCap]).run P w =
      .ok (goInt (Nat.min sLen dLen)) (w.setRow g (cur.toList.take o ++ cs ++ cur.toList.drop (o + cs.length)).toArray) := by
  have hl := run_loadCells_list (P := P) w a cs hsrc
  have hst := run_storeCells_at P g o t cs 0 cur w hg (by simpa using hfit) h1
  cases hq : P.info? elem with
  | none => simp [hq] at hs
  | some i =>
    have hi : i.size = sz := by simpa [hq] using hs
    simp [Builtin.copy_, run_underlying hu, Builtin.lenOf, Builtin.firstCells, sizeOf, typeInfo, hq, hi, ← hn, hl, hst]

theorem run_copy_zero {P : Program} (w : World) (dT sT ty elem : TypeId) (d a : Option Addr) (dLen dCap sLen sCap sz : Nat) (hu : P.underlying dT = some (.slice elem)) (hs : (P.info? elem).map (·.size) = some sz) (hn : Nat.min sLen dLen = 0) :
    (Builtin.copy_ #[dT, sT] ty #[.slice d dLen dCap, .slice a sLen sCap]).run P w = .ok (goInt 0) w := by
  cases hq : P.info? elem with
  | none => simp [hq] at hs
  | some i =>
    have hl : ∀ (x : Addr), (loadCells x 0).run P w = .ok #[] w := fun x => by simpa using run_loadCells_list (P := P) w x [] (by simp)
    cases d <;> cases a <;> simp [Builtin.copy_, run_underlying hu, Builtin.lenOf, Builtin.firstCells, sizeOf, typeInfo, hq, hn, storeCells, hl]

theorem Tryd.sizeN : (Tryd.prog.info? 41).map (·.size) = some 2 := by kernel_rfl

theorem ncells_rep_drop (e m : Nat) : (ncells (List.replicate e z)).drop (m * 2) = ncells (List.replicate (e - m) z) := by
  by_cases h : m ≤ e
  · obtain ⟨d, rfl⟩ : ∃ d, e = m + d := ⟨e - m, by omega⟩
    have e1 : List.replicate (m + d) z = List.replicate m z ++ List.replicate d z := by rw [List.replicate_append_replicate]
    rw [e1, ncells_append, List.drop_left' (by rw [ncells_length, List.length_replicate]), Nat.add_sub_cancel_left]
  · rw [List.drop_of_length_le (by rw [ncells_length, List.length_replicate]; omega), show e - m = 0 by omega]
    rfl

/-- copy(row, l): the row is the first places of l, with empty ones behind. -/
theorem wpList_copy_nams {w : World} {ops : Array Oper} {rest : List Oper} {o : Oper} {a : Act} {Q : Exit → Act → World → Prop} (hgd : o.guard = none) (d s : Operand)
    (ho : o.op = .call { callee := .builtin .copy, args := #[d, s], argTypes := #[22, 22] }) (g e : Nat) (l : List Nm) (sv : Value)
    (hd : a.eval d = .slice (some ⟨g, 0, none⟩) e e) (hs : a.eval s = sv) (hN : Nams w sv l) (hR : NRow w g (List.replicate e z)) (B : Nat) (w0 : World) (hb : Below B w0 w) (hBg : B ≤ g)
    (h : ∀ w' n, Hid (NRow w' g (padTo l e)) → Hid (Below B w0 w') → wpList Tryd.prog ops Q rest (a.put o.dst (goInt n)) w') :
    wpList Tryd.prog ops Q (o :: rest) a w := by
  have hN0 := hN
  obtain ⟨ad, cap, rfl, hn, hcap, hc⟩ := hN
  by_cases h0 : Nat.min l.length e = 0
  · have hpad : padTo l e = List.replicate e z := by
      have h2 : l.length = 0 ∨ e = 0 := by
        simp only [Nat.min_eq_zero_iff] at h0
        exact h0
      rcases h2 with h2 | h2
      · rw [List.length_eq_zero_iff.1 h2, padTo]
        simp
      · subst h2
        rw [padTo]
        simp
    refine wpList_plain hgd fun K hK => ?_
    have hrun := run_copy_zero (P := Tryd.prog) w 22 22 o.type 41 (some ⟨g, 0, none⟩) ad e e l.length cap 2 Tryd.underlying22 Tryd.sizeN h0
    unfold Oper.wp
    simp [execOp, ho, resolve, invoke, builtin, hd, hs, hrun, Result.andThen]
    exact hK _ _ (h w 0 (by show NRow _ _ _; rw [hpad]; exact hR) hb)
  · have hl0 : 0 < l.length := by
      rcases Nat.eq_zero_or_pos l.length with h | h
      · rw [h] at h0
        exact absurd (Nat.min_eq_zero_iff.2 (.inl rfl)) h0
      · exact h
    obtain ⟨b, off, rfl, hb', hi⟩ := hc hl0
    have hcs := hN0.cells
    have hlen : (ncells (l.take e)).length = Nat.min l.length e * 2 := by
      rw [ncells_length, List.length_take, Nat.min_comm]
    have hmin : Nat.min l.length e ≤ e := Nat.min_le_right _ _
    have hrun := run_copy_sized (P := Tryd.prog) w 22 22 o.type 41 g 0 e e ⟨b, off, none⟩ l.length cap 2 _ 41 (ncells (l.take e)) Tryd.underlying22 Tryd.sizeN hR hlen
      (fun j v hj => hcs j v (by
        have e1 : l = l.take e ++ l.drop e := (List.take_append_drop e l).symm
        rw [e1, ncells_append, List.getElem?_append_left (List.getElem?_eq_some_iff.1 hj).1]
        exact hj))
      (by rw [hlen]; simp [ncells_length]; exact Nat.mul_le_mul_right 2 hmin) (ncells_all _)
    refine wpList_plain hgd fun K hK => ?_
    unfold Oper.wp
    simp only [List.take_zero, List.nil_append, Nat.zero_add] at hrun
    simp [execOp, ho, resolve, invoke, builtin, hd, hs, hrun, Result.andThen]
    refine hK _ _ (h _ _ ?_ (below_setRow hb hBg _))
    have hrow := setRow_heap w g (ncells (List.replicate e z)).toArray ((ncells (l.take e) ++ (ncells (List.replicate e z)).drop (ncells (l.take e)).length).toArray) 41 (0, 0) hR
    have hcells : ncells (l.take e) ++ (ncells (List.replicate e z)).drop (ncells (l.take e)).length = ncells (padTo l e) := by
      rw [hlen, ncells_rep_drop, padTo, ncells_append]
      congr 3
      show e - min l.length e = e - l.length
      omega
    show NRow _ _ _
    unfold NRow
    rw [hcells] at hrow
    simpa [hcells] using hrow
end Go.Proofs.YtpgbnfolekanmaaDoor
