/- LogAppends, plainly: what stands where behind an Append. -/
import Derived.Test.YtgbgklnlmgpmjaaLogAwake
import Derived.Test.YtgbgklnlmgpmjaaLogGive
import Derived.Test.YtgbgklnlmgpmjaaChunkRefParse
import Derived.Test.YtgbgklnlmgpmjaaHeadSame
import Derived.Test.YtgbgklnlmgpmjaaNumSame
namespace Go.Proofs.Ytgbgklnlmgpmjaa
open Go.RowKit Lo Hdp Chk Rec

/-- Behind so many rounds of the law. -/
structure AppAt (n lb b gd N i : Nat) (w wr : World) (S : St) (V : Nat → Value) (L : Lg) (vv fv : Value) : Prop where
  ok : LawOk n L
  at_ : LogAt wr lb b gd S V 32 L vv
  fr : FreeAt wr (fun q => N ≤ q ∧ ¬ foot b gd V q) fv L.free
  n : S.n = 48 + 32 * n
  left : S.left = 0
  down : S.down = false
  writes : S.writes ≤ i * 25
  waits : ∀ o, o ≠ 3 → S.waits o = []
  seq : L.seq ≤ 5 + (i : Int)
  hN : lb < N
  size : N ≤ wr.heap.size
  below : Below w.heap.size w wr
  foots : ∀ q, foot b gd V q → w.heap.size ≤ q

theorem AppAt.on {n lb b gd N i : Nat} {w wr w' : World} {S : St} {V : Nat → Value} {L : Lg} {vv fv : Value} (h : AppAt n lb b gd N i w wr S V L vv fv) (k : Below wr.heap.size wr w') : AppAt n lb b gd N i w w' S V L vv fv :=
  ⟨h.ok, h.at_.on k, h.fr.on k, h.n, h.left, h.down, h.writes, h.waits, h.seq, h.hN, Nat.le_trans h.size k.size, h.below.trans (k.mono h.below.size), h.foots⟩

/-- A chunk's head of the laws. -/
theorem law_head {n : Nat} {L : Lg} (h : LawOk n L) (c s v k : Nat) : L.head (bkX c s v k) = ⟨3, 7, 2, L.seq, L.next, c, s, 0, bkE v k⟩ := by
  unfold Lg.head
  rw [h.house, h.gen, h.life]

theorem can_is (L : Lg) (k : Nat) : L.canB 32 k = (decide (L.pos + 1 + (k : Int) ≤ 32) || decide (0 < L.free.length)) := by
  unfold Lg.canB
  by_cases h : L.pos ≤ 32 - 1 - (k : Int)
  · rw [decide_eq_true h, decide_eq_true (by omega)]
    rfl
  · rw [decide_eq_false h, decide_eq_false (by omega)]
    cases hf : L.free <;> simp

/-- What is read of a chunk. -/
structure ReadOk (S : St) (F k : Nat) (T : ByteArray) (l : List ByteArray) : Prop where
  size : T.size = 256 * (1 + k)
  read : ∀ j, j ≤ k → S.read (F + j) = blkT T j
  blk : ∀ j (h : j < l.length), blkT T (j + 1) = l[j]
theorem read_ok {S : St} {F k : Nat} {X : Hd} {l : List ByteArray} (hm : makeB X l = true) (hl : l.length = k) (ht : took S k = true) (hw : ∀ o, o ≠ 3 → S.waits o = []) : ReadOk (chunk S 3 F (makeS X l) k) F k (makeS X l) l :=
  ⟨by rw [makeS_size hm, hl], fun j hj => read_chunk (by decide) ht hw j hj, fun j h => blkT_make hm j h⟩

theorem par_is {X : Hd} {l : List ByteArray} (hm : makeB X l = true) : parB (makeS X l) = true ∧ parX (makeS X l) = X := by
  have h := par_make hm ⟨#[]⟩
  have e : makeS X l ++ ⟨#[]⟩ = makeS X l := by
    apply bytes_ext
    rw [ByteArray.data_append, Array.toList_append]
    simp
  rw [e] at h
  exact ⟨h.1, h.2.1⟩
end Go.Proofs.Ytgbgklnlmgpmjaa
