/- Two disks side by side in memory: what one does leaves the other as it is. -/
import Derived.Test.YtaiebhkjkeadoaaGreatDiskMeth
namespace Go.Proofs.YtaiebhkjkeadoaaGreat
open Go.RowKit

/-- Two disks that share no block, all from block B on; below B the world is as it was. -/
structure Pair (B : Nat) (w wr : World) (b g : Nat) (X : St) (V : Nat → Value) (b' g' : Nat) (Y : St) (V' : Nat → Value) : Prop where
  dx : Disk wr b X g V
  dy : Disk wr b' Y g' V'
  below : Below B w wr
  bs : B ≤ wr.heap.size
  fx : ∀ q, foot b g V q → B ≤ q
  fy : ∀ q, foot b' g' V' q → B ≤ q
  ap : ∀ q, foot b g V q → ¬ foot b' g' V' q

section
variable {B : Nat} {w wr w2 : World} {b g b' g' : Nat} {X Y X2 Y2 : St} {V V' V2 : Nat → Value}

theorem Pair.swap (h : Pair B w wr b g X V b' g' Y V') : Pair B w wr b' g' Y V' b g X V := ⟨h.dy, h.dx, h.below, h.bs, h.fy, h.fx, fun q h1 h2 => h.ap q h2 h1⟩

theorem Pair.x (h : Pair B w wr b g X V b' g' Y V') (d : Disk w2 b X2 g V2) (s : Step b g wr V w2 V2) : Pair B w w2 b g X2 V2 b' g' Y V' := by
  refine ⟨d, h.dy.apart s.keep (fun i h1 h2 => h.ap i h2 h1), h.below.trans (s.keep.below h.bs h.fx), Nat.le_trans h.bs s.keep.size, fun q hq => ?_, h.fy, fun q hq hq' => ?_⟩
  · rcases s.foot' q hq with h1 | h1
    · exact h.fx q h1
    · have := h.bs; omega
  · rcases s.foot' q hq with h1 | h1
    · exact h.ap q h1 hq'
    · have := h.dy.lt hq'; omega
theorem Pair.y (h : Pair B w wr b g X V b' g' Y V') (d : Disk w2 b' Y2 g' V2) (s : Step b' g' wr V' w2 V2) : Pair B w w2 b g X V b' g' Y2 V2 := (h.swap.x d s).swap

/-- New memory alone. -/
theorem Pair.more (h : Pair B w wr b g X V b' g' Y V') (k : Below wr.heap.size wr w2) : Pair B w w2 b g X V b' g' Y V' := h.x (h.dx.below k) (Step.below k)

end
end Go.Proofs.YtaiebhkjkeadoaaGreat
