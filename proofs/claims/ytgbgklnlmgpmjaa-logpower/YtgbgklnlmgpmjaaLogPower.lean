/- LogPower walked: the power fails while a chunk is written. -/
import Derived.Test.YtgbgklnlmgpmjaaLogAwake
import Derived.Test.YtgbgklnlmgpmjaaDiskCut
import Derived.Test.YtgbgklnlmgpmjaaDiskWrites
import Derived.Test.YtgbgklnlmgpmjaaDiskZero
import Derived.Lib.MinMax
namespace Go.Proofs.Ytgbgklnlmgpmjaa
open Go.RowKit Lo Hdp Chk Rec

/-- A disk with three blocks written, nothing waiting. -/
structure PowOk (S : St) : Prop where
  n : S.n = 304
  waits : ∀ o, S.waits o = []
  writes : S.writes = 4
  dur : ∀ i, i < 3 → S.dur (49 + i) = Fill (1 + i)
  zero : S.dur 52 = zbytes 256

theorem pow_one {X : Hd} (hm : makeB X (bkT 1 3) = true) : PowOk ((chunk (St.new 304) 3 48 (makeS X (bkT 1 3)) 3).flush 3) := by
  have ht : took (St.new 304) 3 = true := took_up rfl rfl _
  have hd : ∀ i, ((chunk (St.new 304) 3 48 (makeS X (bkT 1 3)) 3).flush 3).dur i = if i = 48 then blkT (makeS X (bkT 1 3)) 0 else if 48 < i ∧ i ≤ 48 + 3 then blkT (makeS X (bkT 1 3)) (i - 48) else zbytes 256 := fun i => by
    show settleL (chunk (St.new 304) 3 48 (makeS X (bkT 1 3)) 3).dur ((chunk (St.new 304) 3 48 (makeS X (bkT 1 3)) 3).waits 3) i = _
    rw [chunk_waits ht, settle_one]
    by_cases e : i = 48
    · rw [if_pos e, if_pos e]
    · rw [if_neg e, if_neg e, chunk_dur ht]
      rfl
  refine ⟨?_, fun o => ?_, ?_, fun i hi => ?_, ?_⟩
  · exact chunk_n
  · show upd (chunk (St.new 304) 3 48 (makeS X (bkT 1 3)) 3).waits 3 [] o = []
    by_cases e : o = 3
    · subst e; rw [upd_same]
    · rw [upd_other _ _ e, chunk_other e]; rfl
  · exact chunk_writes ht
  · rw [hd, if_neg (by omega), if_pos (by omega), show 49 + i - 48 = i + 1 by omega, blkT_make hm i (by rw [bkT_length]; omega), bkT_get]
  · rw [hd, if_neg (by omega), if_neg (by omega)]

/-- Nothing that was durable is touched. -/
theorem pow_two {S : St} (h : PowOk S) (c k : Nat) (T : ByteArray) (i : Nat) (hi : i ≤ 52) : (chunk (S.cut c) 3 52 T k).dur i = S.dur i := by
  cases ht : took (S.cut c) k
  · rw [chunk_lost ht]; rfl
  · rw [chunk_dur ht, if_neg (by omega)]
    show settleL S.dur (S.waits 3) i = _
    rw [h.waits 3]
    rfl
theorem pow_took {S : St} (hd : S.down = false) (c k : Nat) : took (S.cut c) k = decide (1 + k ≤ c) := by
  have e1 : (S.cut c).down = decide (c = 0) := by
    show (if c = 0 then true else S.down) = _
    rw [hd]
    by_cases h : c = 0 <;> simp [h]
  have e2 : (S.cut c).left = c := rfl
  unfold took
  rw [e1, e2]
  by_cases h : c = 0
  · subst h
    simp
  · simp [h]
    omega
theorem pow_writes {S : St} (h : PowOk S) (c k : Nat) (hd : S.down = false) (T : ByteArray) : (chunk (S.cut c) 3 52 T k).writes = 4 + min c (1 + k) := by
  cases ht : took (S.cut c) k
  · rw [chunk_some ht (fun e => ?_)]
    · rw [pow_took hd] at ht
      have h2 : ¬ 1 + k ≤ c := of_decide_eq_false ht
      show S.writes + c = _
      rw [h.writes, Nat.min_eq_left (by omega)]
    · show c = 0
      have e3 : (if c = 0 then true else S.down) = true := e
      by_cases hc : c = 0
      · exact hc
      · rw [if_neg hc, hd] at e3; cases e3
  · rw [chunk_writes ht]
    rw [pow_took hd] at ht
    have h2 : 1 + k ≤ c := of_decide_eq_true ht
    show S.writes + (1 + k) = _
    rw [h.writes, Nat.min_eq_right h2]

theorem pow_down {S : St} (h1 : S.down = false) (h2 : S.left = 0) {o F k : Nat} {T : ByteArray} : (chunk S o F T k).down = false := chunk_up (took_up h1 h2 k) h2

/-- Behind the law's checks: the disk is as it was. -/
structure PowEnd (S : St) : Prop where
  n : S.n = 304
  down : S.down = false
  read : ∀ i, i < 3 → S.read (49 + i) = Fill (1 + i)
  zero : S.read 52 = zbytes 256
theorem pow_end {S : St} (h : PowOk S) (c k : Nat) (T : ByteArray) : PowEnd (chunk (S.cut c) 3 52 T k).lose := by
  have hr : ∀ i, i ≤ 52 → (chunk (S.cut c) 3 52 T k).lose.read i = S.dur i := fun i hi => by
    rw [read_none (fun o => rfl)]
    exact pow_two h c k T i hi
  refine ⟨?_, rfl, fun i hi => ?_, ?_⟩
  · show (chunk (S.cut c) 3 52 T k).n = 304
    rw [chunk_n]
    exact h.n
  · rw [hr _ (by omega), h.dur i hi]
  · rw [hr _ (by omega), h.zero]
end Go.Proofs.Ytgbgklnlmgpmjaa
