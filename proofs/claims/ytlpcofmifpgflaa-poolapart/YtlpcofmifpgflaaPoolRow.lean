/- Houses in a row of one's own, each with its segments' slice elsewhere: made, one more. -/
import Derived.Test.YtlpcofmifpgflaaPoolHouse
import Derived.Maps.AppendAt
namespace Go.Proofs.Ytlpcofmifpgflaa
open Go.RowKit Pool

theorem Try.pinfoH : (Try.prog.info? 36).map (fun i => (i.zero, i.size, i.bytes)) = some (some (houseV Ho.z (.slice none 0 0)), 10, 96) := by kernel_rfl

/-- Houses as cells, each with its segments' slice. -/
def hcells (l : List (Ho × Value)) : List Value := l.flatMap fun p => (houseCells p.1 p.2).toList
theorem hcells_length : ∀ l : List (Ho × Value), (hcells l).length = l.length * 10
  | [] => rfl
  | a :: r => by
    have e : hcells (a :: r) = (houseCells a.1 a.2).toList ++ hcells r := rfl
    rw [e, List.length_append, hcells_length r, List.length_cons]
    show 10 + _ = _
    omega
theorem hcells_append (a b : List (Ho × Value)) : hcells (a ++ b) = hcells a ++ hcells b := by simp [hcells]
theorem hcells_one (p : Ho × Value) : hcells [p] = (houseCells p.1 p.2).toList := by simp [hcells]
theorem hcells_get : ∀ (l : List (Ho × Value)) (k r : Nat) (hk : k < l.length) (_ : r < 10), (hcells l)[k * 10 + r]? = (houseCells l[k].1 l[k].2)[r]?
  | x :: l, 0, r, hk, hr => by
    have e : hcells (x :: l) = (houseCells x.1 x.2).toList ++ hcells l := rfl
    rw [e, List.getElem?_append_left (by show 0 * 10 + r < 10; omega)]
    simp
  | x :: l, k + 1, r, hk, hr => by
    have h : k < l.length := by simpa using hk
    have e : hcells (x :: l) = (houseCells x.1 x.2).toList ++ hcells l := rfl
    have e2 : ((houseCells x.1 x.2).toList).length = 10 := rfl
    rw [e, List.getElem?_append_right (by rw [e2]; omega), e2]
    have e3 : (k + 1) * 10 + r - 10 = k * 10 + r := by omega
    rw [e3, hcells_get l k r h hr]
    simp

/-- Houses that lie in cells of one block, one behind the other. -/
theorem houses_of {w : World} {b off cap : Nat} {l : List (Ho × Value)} (hb : b < w.heap.size) (hlc : l.length ≤ cap) (hc : ∀ j u, (hcells l)[j]? = some u → w.cell? ⟨b, off + j, none⟩ = some u) (hI : ∀ p ∈ l, Ints w p.2 p.1.segs) : Houses w (.slice (some ⟨b, off, none⟩) l.length cap) (l.map (·.1)) := by
  refine ⟨some ⟨b, off, none⟩, cap, by simp, by simpa using hlc, fun _ => ⟨b, off, rfl, hb, fun i h => ?_⟩⟩
  have hi : i < l.length := by simpa using h
  refine ⟨l[i].2, ?_⟩
  have e : (l.map (·.1))[i] = l[i].1 := by simp
  rw [e]
  have c : ∀ r, r < 10 → ∀ u, (houseCells l[i].1 l[i].2)[r]? = some u → w.cell? ⟨b, off + i * 10 + r, none⟩ = some u := by
    intro r hr u hu
    rw [Nat.add_assoc]
    exact hc (i * 10 + r) u (by rw [hcells_get l i r hi hr]; exact hu)
  exact ⟨c 0 (by omega) _ rfl, c 1 (by omega) _ rfl, c 2 (by omega) _ rfl, c 3 (by omega) _ rfl, c 4 (by omega) _ rfl, c 5 (by omega) _ rfl, c 6 (by omega) _ rfl, c 7 (by omega) _ rfl, c 8 (by omega) _ rfl, c 9 (by omega) _ rfl, hI l[i] (List.getElem_mem hi)⟩

theorem Ints.kept {w w' : World} {v : Value} {l : List Int} {row : Option Nat} (h : Ints w v l) (hg : w.grownBy w' row) (hne : ∀ k, v.ownBlock = some k → row ≠ some k) : Ints w' v l := by
  obtain ⟨ad, cap, rfl, hn, hlc, hc⟩ := h
  refine ⟨ad, cap, rfl, hn, hlc, fun h0 => ?_⟩
  obtain ⟨b, off, rfl, hb, hi⟩ := hc h0
  refine ⟨b, off, rfl, Nat.lt_of_lt_of_le hb hg.size, fun i h => ?_⟩
  rw [hg.cell_far _ hb (fun e => hne b rfl e.symm)]
  exact hi i h

/-- Houses in a row of one's own, each with its segments' slice, that lies elsewhere. -/
def HOwn (w : World) (base : Nat) (v : Value) (L : List (Ho × Value)) : Prop :=
  w.ownsRow base 36 10 v L.length (hcells L) ∧ ∀ p ∈ L, Ints w p.2 p.1.segs ∧ ∀ k, p.2.ownBlock = some k → k < w.heap.size ∧ v.ownBlock ≠ some k
theorem HOwn.nil (w : World) (base : Nat) : HOwn w base (.slice none 0 0) [] := ⟨⟨rfl, .inl ⟨rfl, rfl⟩⟩, fun _ h => by cases h⟩
theorem HOwn.on {w w' : World} {base : Nat} {v : Value} {L : List (Ho × Value)} (h : HOwn w base v L) (k : Below w.heap.size w w') : HOwn w' base v L := by
  obtain ⟨⟨h1, h2⟩, h3⟩ := h
  refine ⟨⟨h1, ?_⟩, fun p hp => ⟨(h3 p hp).1.on k, fun g hg => ⟨Nat.lt_of_lt_of_le ((h3 p hp).2 g hg).1 k.size, ((h3 p hp).2 g hg).2⟩⟩⟩
  rcases h2 with h2 | ⟨g, cap, cur, rfl, hg, hh, r⟩
  · exact Or.inl h2
  · exact Or.inr ⟨g, cap, cur, rfl, hg, by rw [k.block g (Array.getElem?_eq_some_iff.1 hh).1]; exact hh, r⟩
theorem HOwn.houses {w : World} {base : Nat} {v : Value} {L : List (Ho × Value)} (h : HOwn w base v L) : Houses w v (L.map (·.1)) := by
  obtain ⟨⟨h1, h2⟩, h3⟩ := h
  rcases h2 with ⟨rfl, h0⟩ | ⟨g, cap, cur, rfl, hg, hh, hle, hmx, hcs, htk⟩
  · rw [List.length_eq_zero_iff.1 h0]
    exact Houses.nil w
  · refine houses_of (Array.getElem?_eq_some_iff.1 hh).1 hle (fun j u hj => ?_) (fun p hp => (h3 p hp).1)
    have hjl : j < L.length * 10 := by
      rw [← hcells_length]
      exact (List.getElem?_eq_some_iff.1 hj).1
    rw [cell_of_row w g _ cur _ _ hh, Nat.zero_add, ← hj, ← htk, List.getElem?_take_of_lt hjl, Array.getElem?_toList]
theorem HOwn.lt {w : World} {base : Nat} {v : Value} {L : List (Ho × Value)} (h : HOwn w base v L) : ∀ k, v.ownBlock = some k → base ≤ k ∧ k < w.heap.size := h.1.lt

theorem HOwn.there {w : World} {base : Nat} {v : Value} {L : List (Ho × Value)} {n : Nat} (h : HOwn w base v L) (hn : L.length = n) (h0 : 0 < n) : ∃ g cap, v = .slice (some ⟨g, 0, none⟩) n cap ∧ n ≤ cap := by
  subst hn
  rcases h.1.2 with ⟨rfl, h1⟩ | ⟨g, cap, cur, rfl, -, -, hle, -⟩
  · omega
  · exact ⟨g, cap, rfl, hle⟩

/-- append(one's own, a house) that the walk has laid into a block of its own. -/
theorem wpList_append_house {ops : Array Oper} {rest : List Oper} {o : Oper} {a : Act} {Q : Exit → Act → World → Prop} {w : World} (hgd : o.guard = none) (s x : Operand)
    (ho : o.op = .call { callee := .builtin .append, args := #[s, x], argTypes := #[22, 22] })
    (base : Nat) (v : Value) (L : List (Ho × Value)) (hs : a.eval s = v) (hown : HOwn w base v L) (g cap : Nat) (h : Ho) (sv : Value) (hx : a.eval x = .slice (some ⟨g, 0, none⟩) 1 cap) (t : TypeId) (fr : Nat × Nat) (hg : w.heap[g]? = some (.cells (houseCells h sv) t fr))
    (hI : Ints w sv h.segs) (hne : ∀ k, sv.ownBlock = some k → k < w.heap.size ∧ v.ownBlock ≠ some k) (hL : L.length ≤ 1000) (hbase : base ≤ w.heap.size)
    (hK : ∀ v' w', HOwn w' base v' (L ++ [(h, sv)]) → Below base w w' → w.heap.size ≤ w'.heap.size → wpList Try.prog ops Q rest (a.put o.dst v') w') : wpList Try.prog ops Q (o :: rest) a w := by
  obtain ⟨j0, hj0, hy0, hy1, hy2⟩ := info_parts Try.pinfoH
  refine wpList_append_own_at w hgd s x 22 ho base 36 j0 _ 10 96 Try.underlying22 hj0 hy0 hy1 hy2 rfl (by decide) v L.length (hcells L) hs hown.1 ⟨g, 0, none⟩ 1 cap (houseCells h sv).toList hx rfl (fun j u hj => ?_) (fun u hu => ?_) (by unfold maxLen; omega) (by omega) hbase ?_
  · rw [addr_plain, cell_of_row w g _ _ t fr hg, Nat.zero_add, ← hj, Array.getElem?_toList]
  · obtain ⟨ad, c2, rfl, -⟩ := hI
    simp only [houseCells, List.mem_cons, List.not_mem_nil, or_false] at hu
    rcases hu with rfl | rfl | rfl | rfl | rfl | rfl | rfl | rfl | rfl | rfl <;> rfl
  · intro v' w' h2 h3 _ hat
    have hB : Below base w w' := (Below.refl _ w).grown h3 hbase (fun k hk => (hown.lt k hk).1)
    refine hK v' w' ⟨?_, fun p hp => ?_⟩ hB h3.size
    · rw [hcells_append, hcells_one, List.length_append]
      exact h2
    · have hfar : ∀ k, k < w.heap.size → v.ownBlock ≠ some k → k < w'.heap.size ∧ v'.ownBlock ≠ some k := fun k h1 h2 => by
        refine ⟨Nat.lt_of_lt_of_le h1 h3.size, fun e => ?_⟩
        rcases hat with hat | hat
        · exact h2 (by rw [← hat, e])
        · rw [hat] at e
          injection e with e
          omega
      rcases List.mem_append.1 hp with hp | hp
      · obtain ⟨k1, k2⟩ := hown.2 p hp
        exact ⟨k1.kept h3 (fun k hk => (k2 k hk).2), fun k hk => hfar k (k2 k hk).1 (k2 k hk).2⟩
      · rw [List.mem_singleton] at hp
        subst hp
        exact ⟨hI.kept h3 (fun k hk => (hne k hk).2), fun k hk => hfar k (hne k hk).1 (hne k hk).2⟩

/-- The first so many houses of a slice. -/
theorem Houses.take {w : World} {ad : Option Addr} {n cap : Nat} {l : List Ho} (h : Houses w (.slice ad n cap) l) (m : Nat) (hm : m ≤ l.length) : Houses w (.slice ad m cap) (l.take m) := by
  obtain ⟨ad2, cap2, hv, hlc, hc⟩ := h
  injection hv with h1 h2 h3
  subst h1 h2 h3
  have e : (l.take m).length = m := by rw [List.length_take]; omega
  refine ⟨ad, cap, by rw [e], by omega, fun h0 => ?_⟩
  obtain ⟨b, off, ha, hb, hi⟩ := hc (by omega)
  exact ⟨b, off, ha, hb, fun i h => by
    rw [List.getElem_take]
    exact hi i (by omega)⟩
end Go.Proofs.Ytlpcofmifpgflaa
