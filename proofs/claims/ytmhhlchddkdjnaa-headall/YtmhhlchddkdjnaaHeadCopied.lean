/- The laws' own copied walked: a head as it is, its list in new memory. -/
import Derived.Test.YtmhhlchddkdjnaaHeadRow
import Derived.Laws.AppendOwnNone
namespace Go.Proofs.Ytmhhlchddkdjnaa
open Go.RowKit Rec Hdp

/-- Entries whose row is another block than the one that is turned. -/
def EFar (w : World) (m : Nat) (v : Value) (l : List En) : Prop :=
  ∃ ad cap, v = .slice ad l.length cap ∧ (ad = none → cap = 0) ∧ (0 < l.length → ∃ b off, ad = some ⟨b, off, none⟩ ∧ m ≤ b ∧ b < w.heap.size ∧ ∀ i (h : i < l.length), w.cell? ⟨b, off + i * 3, none⟩ = some (.int .i64 l[i].kind) ∧ w.cell? ⟨b, off + i * 3 + 1, none⟩ = some (.int .i64 l[i].node) ∧ w.cell? ⟨b, off + i * 3 + 2, none⟩ = some (.int .i64 l[i].part))
theorem EFar.ents {w : World} {m : Nat} {v : Value} {l : List En} (h : EFar w m v l) : Ents w v l := by
  obtain ⟨ad, cap, hv, hn, hc⟩ := h
  refine ⟨ad, cap, hv, hn, fun hl => ?_⟩
  obtain ⟨b, off, ha, _, hb, hi⟩ := hc hl
  exact ⟨b, off, ha, hb, hi⟩
theorem EFar.turned {w : World} {m : Nat} {v : Value} {l : List En} {p : Addr} (h : EFar w m v l) (hp : p.block < m) (u : Value) : EFar (w.setCell p u) m v l := by
  obtain ⟨ad, cap, hv, hn, hc⟩ := h
  refine ⟨ad, cap, hv, hn, fun hl => ?_⟩
  obtain ⟨b, off, ha, hm, hb, hi⟩ := hc hl
  refine ⟨b, off, ha, hm, by simpa using hb, fun i h => ?_⟩
  obtain ⟨h0, h1, h2⟩ := hi i h
  have hne : ∀ q, p ≠ (⟨b, q, none⟩ : Addr) := fun q e => by rw [e] at hp; dsimp only at hp; omega
  exact ⟨by rw [World.cell?_setCell_other _ _ _ _ (hne _)]; exact h0, by rw [World.cell?_setCell_other _ _ _ _ (hne _)]; exact h1, by rw [World.cell?_setCell_other _ _ _ _ (hne _)]; exact h2⟩
theorem EOwn.far {w : World} {base : Nat} {v : Value} {l : List En} (h : EOwn w base v l) : EFar w base v l := by
  have hE := h.ents
  have hL := h.lt
  obtain ⟨ad, cap, rfl, hn, hc⟩ := hE
  refine ⟨ad, cap, rfl, hn, fun hl => ?_⟩
  obtain ⟨b, off, rfl, hb, hi⟩ := hc hl
  refine ⟨b, off, rfl, ?_, hb, hi⟩
  obtain ⟨h1, h2⟩ := h
  rcases h2 with ⟨hv, _⟩ | ⟨g, cap, cur, hv, hg, _⟩
  · cases hv
  · cases hv
    exact hg

theorem addr_at (b off j : Nat) : (⟨b, off, none⟩ : Addr).add j = ⟨b, off + j, none⟩ := by unfold Addr.add; split <;> simp_all

set_option maxRecDepth 10000 in
set_option maxHeartbeats 2000000 in
theorem copied_t (x : Hd) (v : Value) (w : World) (hE : Ents w v x.list) (hl : x.list.length ≤ 1000) :
    Calls Try.prog 10 #[headV x v] w fun e w' => ∃ ad cap, e = .returned (headV x (.slice ad x.list.length cap)) ∧ Ents w' (.slice ad x.list.length cap) x.list ∧ Below w.heap.size w w' := by
  obtain ⟨j0, hj0, hy0, hy1, hy2⟩ := info_parts Try.infoE
  have HE0 := hdhid hE
  obtain ⟨ad, cap, rfl, hn, hc⟩ := hE
  obtain ⟨house, gen, life, seq, next, clock, sb, sn, l⟩ := x
  have hl2 : l.length ≤ 1000 := hl
  clear hl
  show Calls _ _ #[.agg #[.int .i64 house, .int .i64 gen, .int .i64 life, .int .i64 seq, .int .i64 next, .int .i64 clock, .int .i64 sb, .int .i64 sn, .slice ad l.length cap]] _ _
  cases ad with
  | none =>
    have hc0 : cap = 0 := hn rfl
    subst hc0
    have hl0 : l.length = 0 := by
      rcases Nat.eq_zero_or_pos l.length with h | h
      · exact h
      · obtain ⟨b, off, ha, _⟩ := hc h
        cases ha
    have hnil : l = [] := List.length_eq_zero_iff.1 hl0
    subst hnil
    clear hn hc hl0 hl2
    go_enter Try.func10, Try.ntmps10
    go_wp2_with fail
    exact bodyPost_ret (v := headV ⟨house, gen, life, seq, next, clock, sb, sn, []⟩ (.slice none 0 0)) (by simp [results, Try.results10, go_sem]) rfl ⟨none, 0, rfl, Ents.nil _, ((Below.refl _ _).alloc (Nat.le_refl _) _).alloc (by simp) _⟩
  | some sad =>
    have hcl : ∀ j u, (ecells l)[j]? = some u → ∀ W, Below w.heap.size w W → W.cell? (sad.add j) = some u := by
      intro j u hj W hBW
      have hj2 : j < l.length * 3 := by
        rw [← ecells_length]
        exact (List.getElem?_eq_some_iff.1 hj).1
      obtain ⟨b, off, ha, hb, hi⟩ := hc (by show 0 < l.length; omega)
      cases ha
      obtain ⟨h0, h1, h2⟩ := hi (j / 3) (by show j / 3 < l.length; omega)
      have e1 : j = j / 3 * 3 + j % 3 := by omega
      rw [e1, ecells_get l (j / 3) (j % 3) (by omega) (by omega)] at hj
      have ea := addr_at b off j
      rw [ea, hBW.cell hb]
      have h3 : j % 3 = 0 ∨ j % 3 = 1 ∨ j % 3 = 2 := by omega
      rcases h3 with h3 | h3 | h3
      · rw [h3] at hj
        have e2 : off + j = off + j / 3 * 3 := by omega
        rw [e2, ← hj]
        exact h0
      · rw [h3] at hj
        have e2 : off + j = off + j / 3 * 3 + 1 := by omega
        rw [e2, ← hj]
        exact h1
      · rw [h3] at hj
        have e2 : off + j = off + j / 3 * 3 + 2 := by omega
        rw [e2, ← hj]
        exact h2
    have HCL := hdhid hcl
    have HEC := hdhid (ecells_length l)
    have HEA := hdhid (ecells_all l)
    have HFI : Hid (∀ B v1 w1, w1.ownsRow B 42 3 v1 l.length (ecells l) → EOwn w1 B v1 l) := fun B v1 w1 h => h
    clear hn hc hcl
    generalize ecells l = ec at *
    go_enter Try.func10, Try.ntmps10
    go_wp2_with (first | (refine wpList_append_own _ rfl _ _ 22 rfl (w.heap.size + 2) 42 j0 _ 3 24 Try.underlying22 hj0 hy0 hy1 hy2 rfl (by decide) _ 0 [] rfl ⟨rfl, .inl ⟨rfl, rfl⟩⟩ sad l.length cap ec rfl HEC.out (fun j u hj => HCL.out j u hj _ (((Below.refl _ w).alloc (Nat.le_refl _) _).alloc (by simp) _)) HEA.out (by unfold maxLen; omega) (by omega) (by simp) ?_) | fail)
    intro v1 w1 hown hgr _
    generalize hW : World.alloc (World.alloc w _) _ = W at hgr
    have HX : Hid (W.heap[w.heap.size]? = some (.cells (headC ⟨house, gen, life, seq, next, clock, sb, sn, l⟩ (.slice (some sad) l.length cap)) 24 (0, 0))) := by rw [← hW, Below.heap_alloc _ _ _ (by simp)]; exact heap_alloc_new _ _
    have HY : Hid (W.heap[w.heap.size + 1]? = some (.cells (headC Hd.z (.slice none 0 0)) 24 (0, 0))) := by
      have e : ∀ o, w.heap.size + 1 = (w.alloc o).heap.size := fun o => by simp
      rw [← hW, e]
      exact heap_alloc_new _ _
    have HB : Hid (Below w.heap.size w W) := by rw [← hW]; exact ((Below.refl _ w).alloc (Nat.le_refl _) _).alloc (by simp) _
    have hws : w.heap.size + 1 < W.heap.size := by rw [← hW]; simp
    clear hW
    have HO : Hid (EOwn w1 (w.heap.size + 2) v1 l) := HFI.out _ v1 w1 (by simpa using hown)
    have hs1 : W.heap.size ≤ w1.heap.size := hgr.size
    have HZ : Hid (w1.heap[w.heap.size]? = _) := (hgr.block _ (by omega) (by simp [Value.ownBlock])).trans HX.out
    have HA : Hid (w1.heap[w.heap.size + 1]? = _) := (hgr.block _ hws (by simp [Value.ownBlock])).trans HY.out
    have HB1 : Hid (Below w.heap.size w w1) := HB.out.grown hgr (by omega) (fun k hk => by simp [Value.ownBlock] at hk)
    obtain ⟨va, vc, rfl⟩ := HO.out.slice
    have HF := hdhid HO.out.far
    clear hown hgr HX HY HB HO HFI HCL HEC HEA
    have fz : w1.frozen? ⟨w.heap.size, 8, none⟩ = false := frozen_of_row w1 _ _ _ _ HZ.out
    obtain ⟨x0, x1, x2, x3, x4, x5, x6, x7, x8⟩ := cells9 HZ.out
    obtain ⟨a0, a1, a2, a3, a4, a5, a6, a7, a8⟩ := cells9 HA.out
    have f0 := frozen_of_row w1 (w.heap.size + 1) 0 _ _ HA.out
    have f1 := frozen_of_row w1 (w.heap.size + 1) 1 _ _ HA.out
    have f2 := frozen_of_row w1 (w.heap.size + 1) 2 _ _ HA.out
    have f3 := frozen_of_row w1 (w.heap.size + 1) 3 _ _ HA.out
    have f4 := frozen_of_row w1 (w.heap.size + 1) 4 _ _ HA.out
    have f5 := frozen_of_row w1 (w.heap.size + 1) 5 _ _ HA.out
    have f6 := frozen_of_row w1 (w.heap.size + 1) 6 _ _ HA.out
    have f7 := frozen_of_row w1 (w.heap.size + 1) 7 _ _ HA.out
    have f8 := frozen_of_row w1 (w.heap.size + 1) 8 _ _ HA.out
    clear HZ HA
    go_wp2_with fail
    refine bodyPost_ret (v := headV ⟨house, gen, life, seq, next, clock, sb, sn, l⟩ (.slice va l.length vc)) (by simp [results, Try.results10, go_sem, a0, a1, a2, a3, a4, a5, a6, a7, a8]) rfl ⟨va, vc, rfl, ?_, ?_⟩
    · refine EFar.ents (m := w.heap.size + 2) ?_
      iterate 9 refine EFar.turned ?_ (by dsimp only; omega) _
      refine EFar.turned ?_ (by dsimp only; omega) _
      exact HF.out
    · iterate 9 refine Below.setCell ?_ (by dsimp only; omega) _
      exact HB1.out.setCell (p := ⟨w.heap.size, 8, none⟩) (Nat.le_refl _) _
end Go.Proofs.Ytmhhlchddkdjnaa
