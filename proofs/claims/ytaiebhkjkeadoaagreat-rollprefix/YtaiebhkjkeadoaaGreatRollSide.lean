/- Blocks beside two disks: they stay as they are, whatever the disks do. -/
import Derived.Test.YtaiebhkjkeadoaaGreatDiskPair
import Derived.Test.YtaiebhkjkeadoaaGreatNumLay
namespace Go.Proofs.YtaiebhkjkeadoaaGreat
open Go.RowKit

/-- A block beside two disks. -/
structure Side (wr : World) (b g : Nat) (V : Nat → Value) (b' g' : Nat) (V' : Nat → Value) (q : Nat) (o : Obj) : Prop where
  row : wr.heap[q]? = some o
  x : ¬ foot b g V q
  y : ¬ foot b' g' V' q
section
variable {B M : Nat} {w wr w2 : World} {b g b' g' : Nat} {V V' V2 : Nat → Value} {q : Nat} {o : Obj} {X Y : St}
theorem Side.lt (h : Side wr b g V b' g' V' q o) : q < wr.heap.size := (Array.getElem?_eq_some_iff.1 h.row).1
theorem Side.step (h : Side wr b g V b' g' V' q o) (s : Step b' g' wr V' w2 V2) : Side w2 b g V b' g' V2 q o :=
  ⟨(s.keep.block q h.lt h.y).trans h.row, h.x, fun hf => by
    rcases s.foot' q hf with h1 | h1
    · exact h.y h1
    · have := h.lt
      omega⟩
theorem Side.on (h : Side wr b g V b' g' V' q o) (k : Below wr.heap.size wr w2) : Side w2 b g V b' g' V' q o := ⟨(k.block q h.lt).trans h.row, h.x, h.y⟩
theorem Side.other (h : Side wr b g V b' g' V' q o) {r j : Nat} (hne : q ≠ r) (v : Value) : Side (wr.setCell ⟨r, j, none⟩ v) b g V b' g' V' q o := ⟨(Below.heap_setCell _ _ _ _ hne).trans h.row, h.x, h.y⟩
theorem Side.set {C : Array Value} {t : TypeId} (h : Side wr b g V b' g' V' q (.cells C t (0, 0))) (j : Nat) (v : Value) : Side (wr.setCell ⟨q, j, none⟩ v) b g V b' g' V' q (.cells (C.setIfInBounds j v) t (0, 0)) :=
  ⟨heap_setCell_same wr q j C t v h.row, h.x, h.y⟩
theorem Side.new (h : Pair B w wr b g X V b' g' Y V') (o : Obj) : Side (wr.alloc o) b g V b' g' V' wr.heap.size o :=
  ⟨heap_alloc_new wr o, fun hf => by have := h.dx.lt hf; omega, fun hf => by have := h.dy.lt hf; omega⟩
/-- A cell of a block beside them turned. -/
theorem Pair.set (h : Pair B w wr b g X V b' g' Y V') (hs : Side wr b g V b' g' V' q o) (hB : B ≤ q) (j : Nat) (v : Value) : Pair B w (wr.setCell ⟨q, j, none⟩ v) b g X V b' g' Y V' := by
  have k : Keep (fun i => i = q) wr (wr.setCell ⟨q, j, none⟩ v) := Keep.setCell (Keep.refl (fun i => i = q) wr) (p := ⟨q, j, none⟩) (fun _ => rfl) v
  exact ⟨h.dx.apart k fun i hi e => hs.x (e ▸ hi), h.dy.apart k fun i hi e => hs.y (e ▸ hi), h.below.trans (k.below h.bs fun i e => e ▸ hB), Nat.le_trans h.bs k.size, h.fx, h.fy, h.ap⟩

/-- Numbers in such a block, or none. -/
def ISide (M : Nat) (wr : World) (b g : Nat) (V : Nat → Value) (b' g' : Nat) (V' : Nat → Value) (ad : Option Addr) (l : List Int) : Prop :=
  0 < l.length → ∃ q C, q < M ∧ ad = some ⟨q, 0, none⟩ ∧ Side wr b g V b' g' V' q (.cells C 3 (0, 0)) ∧ ∀ i (h : i < l.length), C[i]? = some (.int .i64 l[i])
variable {ad : Option Addr} {l : List Int} {n cap : Nat}
theorem ISide.step (h : ISide M wr b g V b' g' V' ad l) (s : Step b' g' wr V' w2 V2) : ISide M w2 b g V b' g' V2 ad l := fun hl => by
  obtain ⟨q, C, h0, h1, h2, h3⟩ := h hl
  exact ⟨q, C, h0, h1, h2.step s, h3⟩
theorem ISide.on (h : ISide M wr b g V b' g' V' ad l) (k : Below wr.heap.size wr w2) : ISide M w2 b g V b' g' V' ad l := fun hl => by
  obtain ⟨q, C, h0, h1, h2, h3⟩ := h hl
  exact ⟨q, C, h0, h1, h2.on k, h3⟩
theorem ISide.other (h : ISide M wr b g V b' g' V' ad l) {r j : Nat} (hM : M ≤ r) (v : Value) : ISide M (wr.setCell ⟨r, j, none⟩ v) b g V b' g' V' ad l := fun hl => by
  obtain ⟨q, C, h0, h1, h2, h3⟩ := h hl
  exact ⟨q, C, h0, h1, h2.other (by omega) v, h3⟩
theorem ISide.mono {M' : Nat} (h : ISide M wr b g V b' g' V' ad l) (hM : M ≤ M') : ISide M' wr b g V b' g' V' ad l := fun hl => by
  obtain ⟨q, C, h0, h1⟩ := h hl
  exact ⟨q, C, by omega, h1⟩
theorem ISide.cell (h : ISide M wr b g V b' g' V' ad l) (i : Nat) (hi : i < l.length) : ∃ q, ad = some ⟨q, 0, none⟩ ∧ q < M ∧ wr.cell? ⟨q, i, none⟩ = some (.int .i64 l[i]) := by
  obtain ⟨q, C, h0, h1, h2, h3⟩ := h (by omega)
  exact ⟨q, h1, h0, by rw [cell_of_row wr q i C 3 _ h2.row]; exact h3 i hi⟩
theorem IOwn.side {N : Nat} (h : IOwn wr N (.slice ad n cap) l) (hx : ∀ q, ad = some ⟨q, 0, none⟩ → ¬ foot b g V q) (hy : ∀ q, ad = some ⟨q, 0, none⟩ → ¬ foot b' g' V' q) : ISide wr.heap.size wr b g V b' g' V' ad l := fun hl => by
  rcases h.2 with ⟨hv, h0⟩ | ⟨q, cap', cur, hv, hbg, hg, hle, hmx, hcs, htk⟩
  · omega
  · injection hv with hv1 hv2 hv3
    refine ⟨q, cur, (Array.getElem?_eq_some_iff.1 hg).1, hv1, ⟨hg, hx q hv1, hy q hv1⟩, fun j hj => ?_⟩
    rw [← icells_get l j hj, ← htk, Nat.mul_one, List.getElem?_take_of_lt hj, Array.getElem?_toList]
end
end Go.Proofs.YtaiebhkjkeadoaaGreat
