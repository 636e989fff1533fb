/- Two disks side by side in memory: what one does leaves the other as it is. -/
import Derived.Test.YtodfecipeabmlaaOwnersInv
import Derived.Test.YtodfecipeabmlaaFlushes
namespace Go.Proofs.Ytodfecipeabmlaa
open Go.RowKit

/-- Two disks that share no block, all from block B on; below B the world is as it was. -/
structure Pair (B : Nat) (w wr : World) (b g : Nat) (X : St) (V : Nat → Value) (b' g' : Nat) (Y : St) (V' : Nat → Value) : Prop where
  dx : Disk wr b X g V
  dy : Disk wr b' Y g' V'
  below : Below B w wr
  bs : B ≤ wr.heap.size
  fx : ∀ q, foot b g V q → B ≤ q
  fy : ∀ q, foot b' g' V' q → B ≤ q
  ap : ∀ q, foot b g V q → ¬ foot b' g' V' q

section
variable {B : Nat} {w wr w2 : World} {b g b' g' : Nat} {X Y X2 Y2 : St} {V V' V2 : Nat → Value}

theorem Pair.swap (h : Pair B w wr b g X V b' g' Y V') : Pair B w wr b' g' Y V' b g X V := ⟨h.dy, h.dx, h.below, h.bs, h.fy, h.fx, fun q h1 h2 => h.ap q h2 h1⟩

theorem Pair.x (h : Pair B w wr b g X V b' g' Y V') (d : Disk w2 b X2 g V2) (s : Step b g wr V w2 V2) : Pair B w w2 b g X2 V2 b' g' Y V' := by
  refine ⟨d, h.dy.apart s.keep (fun i h1 h2 => h.ap i h2 h1), h.below.trans (s.keep.below h.bs h.fx), Nat.le_trans h.bs s.keep.size, fun q hq => ?_, h.fy, fun q hq hq' => ?_⟩
  · rcases s.foot' q hq with h1 | h1
    · exact h.fx q h1
    · have := h.bs; omega
  · rcases s.foot' q hq with h1 | h1
    · exact h.ap q h1 hq'
    · have := h.dy.lt hq'; omega
theorem Pair.y (h : Pair B w wr b g X V b' g' Y V') (d : Disk w2 b' Y2 g' V2) (s : Step b' g' wr V' w2 V2) : Pair B w w2 b g X V b' g' Y2 V2 := (h.swap.x d s).swap

/-- New memory alone. -/
theorem Pair.more (h : Pair B w wr b g X V b' g' Y V') (k : Below wr.heap.size wr w2) : Pair B w w2 b g X V b' g' Y V' := h.x (h.dx.below k) (Step.below k)

theorem pFill (h : Hid (Pair B w wr b g X V b' g' Y V')) (v : Int) (h0 : 0 ≤ v) (h1 : v ≤ 100000) (F : ByteArray) (hF : Hid (Fill v.toNat = F)) :
    Calls Try.prog 12 #[.int .i64 v] wr fun e w' => e = .returned (.string F) ∧ Hid (Pair B w w' b g X V b' g' Y V') := by
  rw [← hF.out]
  obtain ⟨v, rfl⟩ := Int.eq_ofNat_of_zero_le h0
  exact (filled_t v wr (by omega)).mono fun _ _ ⟨he, hb⟩ => ⟨he, h.out.more hb⟩

theorem pWriteX (h : Hid (Pair B w wr b g X V b' g' Y V')) (o i : Int) (s : ByteArray) (h0 : 0 ≤ o) (h1 : o < 17) (h2 : 0 ≤ i) (h3 : i < X.n) (hs : s.size = 256) (hd : X.down = false) (hw : X.writes < 1000000) :
    Calls Try.prog 11 #[.pointer (some ⟨b, 0, none⟩), .int .i64 o, .int .i64 i, .string s] wr fun e w' => e = .returned (.bool true) ∧ ∃ V2, Hid (Pair B w w' b g (X.write o.toNat i.toNat s) V2 b' g' Y V') :=
  (kWrite (hid h.out.dx) o i s h0 h1 h2 h3 hs hd hw).mono fun _ _ ⟨he, V2, hd2, hs2⟩ => ⟨he, V2, h.out.x hd2.out hs2⟩
theorem pWriteY (h : Hid (Pair B w wr b g X V b' g' Y V')) (o i : Int) (s : ByteArray) (h0 : 0 ≤ o) (h1 : o < 17) (h2 : 0 ≤ i) (h3 : i < Y.n) (hs : s.size = 256) (hd : Y.down = false) (hw : Y.writes < 1000000) :
    Calls Try.prog 11 #[.pointer (some ⟨b', 0, none⟩), .int .i64 o, .int .i64 i, .string s] wr fun e w' => e = .returned (.bool true) ∧ ∃ V2, Hid (Pair B w w' b g X V b' g' (Y.write o.toNat i.toNat s) V2) :=
  (kWrite (hid h.out.dy) o i s h0 h1 h2 h3 hs hd hw).mono fun _ _ ⟨he, V2, hd2, hs2⟩ => ⟨he, V2, h.out.y hd2.out hs2⟩
theorem pFlushX (h : Hid (Pair B w wr b g X V b' g' Y V')) (o : Int) (h0 : 0 ≤ o) (h1 : o < 17) (hd : X.down = false) :
    Calls Try.prog 10 #[.pointer (some ⟨b, 0, none⟩), .int .i64 o] wr fun e w' => e = .returned (.bool true) ∧ ∃ V2, Hid (Pair B w w' b g (X.flush o.toNat) V2 b' g' Y V') :=
  (kFlush (hid h.out.dx) o h0 h1 hd).mono fun _ _ ⟨he, V2, hd2, hs2⟩ => ⟨he, V2, h.out.x hd2.out hs2⟩
theorem pFlushY (h : Hid (Pair B w wr b g X V b' g' Y V')) (o : Int) (h0 : 0 ≤ o) (h1 : o < 17) (hd : Y.down = false) :
    Calls Try.prog 10 #[.pointer (some ⟨b', 0, none⟩), .int .i64 o] wr fun e w' => e = .returned (.bool true) ∧ ∃ V2, Hid (Pair B w w' b g X V b' g' (Y.flush o.toNat) V2) :=
  (kFlush (hid h.out.dy) o h0 h1 hd).mono fun _ _ ⟨he, V2, hd2, hs2⟩ => ⟨he, V2, h.out.y hd2.out hs2⟩
end

/-- A slice of ints that came in. -/
structure Ints (w : World) (ad : Option Addr) (xs : List Int) (pb po : Nat) : Prop where
  len : xs.length ≤ 1000000
  at' : 0 < xs.length → ad = some ⟨pb, po, none⟩ ∧ pb < w.heap.size
  cell : ∀ t (h : t < xs.length), w.cell? ⟨pb, po + t, none⟩ = some (.int .i64 xs[t])

theorem Ints.below {w wr : World} {ad : Option Addr} {xs : List Int} {pb po : Nat} (h : Ints w ad xs pb po) (k : Below w.heap.size w wr) : Ints wr ad xs pb po :=
  ⟨h.len, fun h0 => ⟨(h.at' h0).1, Nat.lt_of_lt_of_le (h.at' h0).2 k.size⟩, fun t ht => by rw [k.cell (by exact (h.at' (by omega)).2)]; exact h.cell t ht⟩

theorem keepAt2 {w : World} {ad : Option Addr} {xs : List Int} {pb po cap : Nat} (h : Ints w ad xs pb po) :
    KeepAt (w.alloc (.cells #[.slice none 0 0, .slice ad xs.length cap] 22)) [[], xs] w.heap.size 0 (fun j => if j = 1 then ad else none) (fun _ => pb) (fun _ => po) (fun j => if j = 1 then cap else 0) := by
  have h' := h.below ((Below.refl _ w).alloc (Nat.le_refl _) (.cells #[.slice none 0 0, .slice ad xs.length cap] 22))
  refine ⟨fun j hj => ?_, fun j hj => ?_, fun j hj h0 => ?_, fun j hj t ht => ?_⟩
  all_goals rcases (show j = 0 ∨ j = 1 by simp at hj; omega) with rfl | rfl
  · exact Nat.zero_le _
  · exact h.len
  · rw [cell_of_row _ _ _ _ 22 _ (heap_alloc_new w _)]; rfl
  · rw [cell_of_row _ _ _ _ 22 _ (heap_alloc_new w _)]; rfl
  · cases h0
  · exact h'.at' h0
  · cases ht
  · exact h'.cell t ht

theorem keepAt3 {w : World} {ad ad2 : Option Addr} {xs ys : List Int} {pb po cap pb2 po2 cap2 : Nat} (h : Ints w ad xs pb po) (h2 : Ints w ad2 ys pb2 po2) :
    KeepAt (w.alloc (.cells #[.slice none 0 0, .slice ad xs.length cap, .slice ad2 ys.length cap2] 22)) [[], xs, ys] w.heap.size 0 (fun j => if j = 1 then ad else if j = 2 then ad2 else none) (fun j => if j = 1 then pb else pb2) (fun j => if j = 1 then po else po2) (fun j => if j = 1 then cap else if j = 2 then cap2 else 0) := by
  have hb := (Below.refl _ w).alloc (Nat.le_refl _) (.cells #[.slice none 0 0, .slice ad xs.length cap, .slice ad2 ys.length cap2] 22)
  have h' := h.below hb
  have h2' := h2.below hb
  refine ⟨fun j hj => ?_, fun j hj => ?_, fun j hj h0 => ?_, fun j hj t ht => ?_⟩
  all_goals rcases (show j = 0 ∨ j = 1 ∨ j = 2 by simp at hj; omega) with rfl | rfl | rfl
  · exact Nat.zero_le _
  · exact h.len
  · exact h2.len
  · rw [cell_of_row _ _ _ _ 22 _ (heap_alloc_new w _)]; rfl
  · rw [cell_of_row _ _ _ _ 22 _ (heap_alloc_new w _)]; rfl
  · rw [cell_of_row _ _ _ _ 22 _ (heap_alloc_new w _)]; rfl
  · cases h0
  · exact h'.at' h0
  · exact h2'.at' h0
  · cases ht
  · exact h'.cell t ht
  · exact h2'.cell t ht

end Go.Proofs.Ytodfecipeabmlaa
