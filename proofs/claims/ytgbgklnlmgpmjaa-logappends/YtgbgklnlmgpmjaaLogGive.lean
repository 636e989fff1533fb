/- Give walked: a number appended to a slice that may have room behind it. -/
import Derived.Test.YtgbgklnlmgpmjaaLogNew
import Derived.ArgAppend
namespace Go.Proofs.Ytgbgklnlmgpmjaa
open Go.RowKit Lo Hdp

/-- Is it a slice of so many? -/
def IsSl (v : Value) (n : Nat) : Prop := ∃ ad cap, v = .slice ad n cap

theorem Ints.turned {w : World} {v : Value} {l : List Int} {p : Addr} (h : Ints w v l) (hp : ∀ q, v.ownBlock = some q → q ≠ p.block) (u : Value) : Ints (w.setCell p u) v l := by
  obtain ⟨ad, cap, rfl, hn, hlc, hc⟩ := h
  refine ⟨ad, cap, rfl, hn, hlc, fun h0 => ?_⟩
  obtain ⟨b, off, rfl, hb, hi⟩ := hc h0
  have hbp := hp b rfl
  exact ⟨b, off, rfl, by simpa using hb, fun i h => by rw [World.cell?_setCell_other _ _ _ _ (fun e => hbp (by rw [e]))]; exact hi i h⟩

/-- append(free ones, x): into the row, or into a new one. -/
theorem wpList_append_give {ops : Array Oper} {rest : List Oper} {o : Oper} {a : Act} {Q : Exit → Act → World → Prop} {w : World} (hgd : o.guard = none) (s x : Operand)
    (ho : o.op = .call { callee := .builtin .append, args := #[s, x], argTypes := #[22, 22] })
    (P : Nat → Prop) (v : Value) (l : List Int) (hs : a.eval s = v) (hf : FreeAt w P v l) (g : Nat) (u : Int) (hx : a.eval x = .slice (some ⟨g, 0, none⟩) 1 1) (t : TypeId) (fr : Nat × Nat) (hg : w.heap[g]? = some (.cells #[.int .i64 u] t fr)) (hb : l.length ≤ 100000)
    (h : ∀ v' w', IsSl v' (l.length + 1) → Ints w' v' (l ++ [u]) → (∀ q, v'.ownBlock = some q → P q ∨ w.heap.size ≤ q) → Keep P w w' → wpList Try.prog ops Q rest (a.put o.dst v') w') : wpList Try.prog ops Q (o :: rest) a w := by
  obtain ⟨j0, hj0, hy0, hy1, hy2⟩ := info_parts Try.numInfo3
  have hnews : ∀ j u', [Value.int .i64 u][j]? = some u' → w.cell? ((⟨g, 0, none⟩ : Addr).add j) = some u' := fun j u' hj => by
    have hj0 : j = 0 := by
      have := (List.getElem?_eq_some_iff.1 hj).1
      simpa using this
    subst hj0
    rw [num_addr, cell_of_row w g _ _ t _ hg]
    exact hj
  have h1 : ∀ u' ∈ [Value.int .i64 u], u'.oneCell' = true := fun u' hu => by
    simp only [List.mem_singleton] at hu
    subst hu
    rfl
  have key : ∃ v' w', (Builtin.append_ #[22, 22] o.type #[v, .slice (some ⟨g, 0, none⟩) 1 1]).run Try.prog w = .ok v' w' ∧ (∃ ad cap, v' = .slice ad (l.length + 1) cap) ∧ Ints w' v' (l ++ [u]) ∧ (∀ q, v'.ownBlock = some q → P q ∨ w.heap.size ≤ q) ∧ Keep P w w' := by
    obtain ⟨ad, cap, rfl, hlc, hcm, hcc⟩ := hf
    by_cases hroom : l.length + 1 ≤ cap
    · obtain ⟨b, off, cur, rfl, hP, hgb, hsz, hr⟩ := hcc (by omega)
      have hcur : off + l.length < cur.size := by omega
      have hrun := run_append_room_cells (P := Try.prog) w 22 o.type 3 j0 Try.underlying22 hj0 b off l.length cap ⟨g, 0, none⟩ 1 1 [.int .i64 u] (by rw [hy1]; rfl) hnews h1 hroom
        (fun j hj => by
          have hj0 : j = 0 := by simpa using hj
          subst hj0
          rw [hy1, Nat.mul_one, Nat.add_zero, cell_of_row w b _ cur 3 _ hgb, Array.getElem?_eq_getElem hcur]
          rfl)
        (fun j hj => frozen_of_row w b _ cur 3 hgb)
      rw [hy1, Nat.mul_one] at hrun
      have e : w.setCells b (off + l.length) [.int .i64 u] = w.setCell ⟨b, off + l.length, none⟩ (.int .i64 u) := rfl
      rw [e] at hrun
      refine ⟨_, _, hrun, ⟨_, _, rfl⟩, ⟨some ⟨b, off, none⟩, cap, by rw [List.length_append]; rfl, (fun e => by cases e), by rw [List.length_append]; exact hroom, fun _ => ⟨b, off, rfl, by simpa using (Array.getElem?_eq_some_iff.1 hgb).1, fun i hi => ?_⟩⟩, (fun q hq => by cases hq; exact .inl hP), Keep.setCell (Keep.refl _ w) (p := ⟨b, off + l.length, none⟩) (fun _ => hP) _⟩
      rw [List.length_append] at hi
      have hi2 : i < l.length + 1 := hi
      have hrow := heap_setCell_same w b (off + l.length) cur 3 (.int .i64 u) hgb
      rw [cell_of_row _ b _ _ _ _ hrow]
      by_cases hil : i = l.length
      · subst hil
        rw [Array.getElem?_setIfInBounds_self_of_lt hcur]
        simp
      · rw [Array.getElem?_setIfInBounds_ne (by omega), hr i (by omega), List.getElem_append_left (by omega)]
    · have fin : ∀ v' w', w'.ownsRow w.heap.size 3 1 v' (l.length + 1) (icells l ++ [.int .i64 u]) → w.grownBy w' none → (∃ ad cap, v' = .slice ad (l.length + 1) cap) ∧ Ints w' v' (l ++ [u]) ∧ (∀ q, v'.ownBlock = some q → P q ∨ w.heap.size ≤ q) ∧ Keep P w w' := fun v' w' hown hgr => by
        have hO : IOwn w' w.heap.size v' (l ++ [u]) := by
          show World.ownsRow _ _ _ _ _ _ _
          rw [icells_append, List.length_append]
          exact hown
        obtain ⟨ad, cap, hv⟩ := hO.slice
        rw [List.length_append] at hv
        exact ⟨⟨ad, cap, hv⟩, hO.ints, fun q hq => .inr (hO.lt q hq).1, (Keep.grown hgr).mono fun _ _ hh => by cases hh⟩
      cases ad with
      | none =>
        have hc0 : cap = 0 := by
          rcases Nat.eq_zero_or_pos cap with h3 | h3
          · exact h3
          · obtain ⟨b, off, cur, ha, _⟩ := hcc h3
            cases ha
        subst hc0
        have hl0 : l = [] := List.eq_nil_of_length_eq_zero (by omega)
        subst hl0
        obtain ⟨v', w', hrun, hown, hgr, _⟩ := run_append_own (P := Try.prog) w w.heap.size 22 o.type 3 j0 (.int .i64 0) 1 8 Try.underlying22 hj0 hy0 hy1 hy2 rfl (by decide) (.slice none 0 0) 0 [] (World.ownsRow_nil _ _ _ _) ⟨g, 0, none⟩ 1 1 [.int .i64 u] rfl hnews h1 (by unfold maxLen; omega) (by omega) (Nat.le_refl _)
        exact ⟨v', w', hrun, fin v' w' hown hgr⟩
      | some b0 =>
        have hol : ∀ j u', (icells l)[j]? = some u' → w.cell? (b0.add j) = some u' := fun j u' hj => by
          have hjl : j < l.length := by
            rw [← icells_length]
            exact (List.getElem?_eq_some_iff.1 hj).1
          obtain ⟨b, off, cur, ha, hP, hgb, hsz, hr⟩ := hcc (by omega)
          cases ha
          rw [num_addr, cell_of_row w b _ cur 3 _ hgb, hr j hjl, ← hj, icells_get l j hjl]
        obtain ⟨v', w', hrun, hown, hgr⟩ := run_append_arg_grows (P := Try.prog) w 22 o.type 3 j0 (.int .i64 0) 1 8 Try.underlying22 hj0 hy0 hy1 hy2 rfl (by decide) b0 l.length cap (icells l) (by rw [icells_length, Nat.mul_one]) hol ⟨g, 0, none⟩ 1 1 [.int .i64 u] rfl hnews (by omega) (by unfold maxLen; omega) (by omega)
        exact ⟨v', w', hrun, fin v' w' hown hgr⟩
  obtain ⟨v', w', hrun, r1, r2, r3, r4⟩ := key
  refine wpList_plain hgd fun K hK' => ?_
  unfold Oper.wp
  simp [execOp, ho, resolve, invoke, builtin, hs, hx, hrun, Result.andThen]
  exact hK' _ _ (h v' w' r1 r2 r3 r4)

set_option maxRecDepth 10000 in
set_option maxHeartbeats 1000000 in
theorem give_t (lb b : Nat) (S G : Int) (L : Lg) (v : Value) (P : Nat → Prop) (s : Int) (t : TypeId) (w : World) (h : w.heap[lb]? = some (.cells (lgC b S G L v) t (0, 0))) (hf : FreeAt w P v L.free) (hP : ∀ k, P k → k < lb) (hl : L.free.length ≤ 100000) :
    Calls Try.prog 20 #[.pointer (some ⟨lb, 0, none⟩), .int .i64 s] w fun e w' => ∃ v', e = .returned (.tuple #[]) ∧ w'.heap[lb]? = some (.cells (lgC b S G { L with free := L.free ++ [s] } v') t (0, 0)) ∧ Ints w' v' (L.free ++ [s]) ∧ Keep (fun k => P k ∨ k = lb) w w' := by
  have HR := lohid h
  have HF := lohid hf
  have HP := lohid hP
  have hlb : lb < w.heap.size := (Array.getElem?_eq_some_iff.1 h).1
  have c18 : w.cell? ⟨lb, 18, none⟩ = some v := (cell_of_row _ _ _ _ _ _ h).trans rfl
  have f18 : w.frozen? ⟨lb, 18, none⟩ = false := frozen_of_row w lb 18 _ _ h
  obtain ⟨ad, cap, rfl⟩ := hf.slice
  clear h hf hP
  go_enter Try.func20, Try.ntmps20
  go_wp2_with (first
    | (refine wpList_append_give rfl _ _ rfl P _ L.free rfl (HF.out.on ((Below.refl _ _).alloc (Nat.le_refl _) _)) w.heap.size s rfl 3 (0, 0) (heap_alloc_new _ _) hl ?_)
    | fail)
  intro v1 w1 hsl hI1 hq1 hK1
  obtain ⟨ad1, cap1, rfl⟩ := hsl
  have HQ := lohid hq1
  have HK : Hid (Keep P w w1) := ((Keep.refl P w).alloc _).trans (hK1.mono fun _ _ h => h)
  have HI := lohid hI1
  have HR1 : Hid (w1.heap[lb]? = some (.cells (lgC b S G L (.slice ad L.free.length cap)) t (0, 0))) := (HK.out.block lb hlb (fun hp => by have := HP.out lb hp; omega)).trans HR.out
  have c1 : w1.cell? ⟨lb, 18, none⟩ = some (.slice ad L.free.length cap) := (cell_of_row _ _ _ _ _ _ HR1.out).trans rfl
  have f1 : w1.frozen? ⟨lb, 18, none⟩ = false := frozen_of_row w1 lb 18 _ _ HR1.out
  clear hI1 hK1 hq1 c18 f18
  go_wp2_with fail
  go_end0
  refine ⟨.slice ad1 (L.free.length + 1) cap1, rfl, ?_, ?_, (HK.out.mono fun _ _ h => .inl h).trans (Keep.setCell (Keep.refl _ w1) (p := ⟨lb, 18, none⟩) (fun _ => .inr rfl) _)⟩
  · exact heap_setCell_same _ _ 18 _ _ _ HR1.out
  · refine HI.out.turned (fun q hq => ?_) _
    dsimp only
    rcases HQ.out q hq with h1 | h1
    · have := HP.out q h1
      omega
    · have h2 : w.heap.size + 1 ≤ q := by simpa using h1
      omega
end Go.Proofs.Ytgbgklnlmgpmjaa
