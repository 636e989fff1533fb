/- A sector of a chunk turned, plainly: what is ahead of the chunk is found, nothing else; and a log gone on with from its middle. Nothing of the program. -/
import Derived.Test.YtaiebhkjkeadoaaRollEnds
namespace Go.Proofs.Ytaiebhkjkeadoaa
namespace Rol
open Chk Hdp Lo Rec

/-- Reading behind one more write of the disk's only owner. -/
theorem read_more {S : St} (hn : ∀ o', o' ≠ 3 → S.waits o' = []) (hw : S.waits 3 = [] ∨ ∃ x, S.waits 3 = [x] ∧ 1 ≤ x.order) (hok : ∀ x ∈ S.waits 3, x.order ≤ S.writes) (p : Nat) (T : ByteArray) (i : Nat) : (S.write 3 p T).read i = if i = p then T else S.read i := by
  have hw2 : (S.write 3 p T).waits 3 = S.waits 3 ++ [⟨S.writes + 1, p, T⟩] := by
    show upd S.waits 3 (S.waits 3 ++ [⟨S.writes + 1, p, T⟩]) 3 = _
    exact upd_same _ _ _
  have hn2 : ∀ o', o' ≠ 3 → (S.write 3 p T).waits o' = [] := fun o' h' => by
    show upd S.waits 3 (S.waits 3 ++ [⟨S.writes + 1, p, T⟩]) o' = _
    rw [upd_other _ _ h', hn o' h']
  rcases hw with hw | ⟨x, hw, hx⟩
  · rw [hw, List.nil_append] at hw2
    rw [read_one (by decide) hn2 hw2 (by show 1 ≤ S.writes + 1; omega), read_none (fun o => by
      by_cases e : o = 3
      · rw [e, hw]
      · exact hn o e)]
    rfl
  · have hxo : x.order ≤ S.writes := hok x (by rw [hw]; exact List.mem_singleton.2 rfl)
    rw [read_one (S := S) (by decide) hn hw hx]
    rw [hw] at hw2
    have e0 : newestTo i (S.write 3 p T).waits 17 = pick1 i (pick1 i noWr x) ⟨S.writes + 1, p, T⟩ := by rw [newest_alone i _ 3 hn2, if_pos (by decide), hw2]; rfl
    unfold St.read
    rw [e0]
    by_cases e : i = p
    · have e1 : pick1 i (pick1 i noWr x) ⟨S.writes + 1, p, T⟩ = ⟨S.writes + 1, p, T⟩ := by
        have h2 : (pick1 i noWr x).order < S.writes + 1 := by
          unfold pick1
          split
          · omega
          · show 0 < S.writes + 1; omega
        exact if_pos ⟨e.symm, h2⟩
      rw [e1, if_pos (by show 0 < S.writes + 1; omega), if_pos e]
    · have e1 : pick1 i (pick1 i noWr x) ⟨S.writes + 1, p, T⟩ = pick1 i noWr x := if_neg (fun hh => e hh.1.symm)
      rw [e1, if_neg e]
      unfold pick1
      by_cases e2 : i = x.pos
      · rw [if_pos (⟨e2.symm, by show 0 < x.order; omega⟩ : x.pos = i ∧ noWr.order < x.order), if_pos (by omega), if_pos e2]
      · rw [if_neg (fun hh : x.pos = i ∧ noWr.order < x.order => e2 hh.1.symm), if_neg (by show ¬ 0 < 0; omega), if_neg e2]
        rfl

section
variable {rd rd' : Nat → ByteArray}
/-- A byte of one sector turned, within a run of sectors. -/
theorem run_set {F m j i : Nat} {y : UInt8} (hs : ∀ q, q < m → (rd (F + q)).size = 256) (hj : j < m) (hi : i < 256) (ho : ∀ q, q ≠ F + j → rd' q = rd q) (ht : (rd' (F + j)).data.toList = (rd (F + j)).data.toList.set i y) : (run rd' F m).data.toList = (run rd F m).data.toList.set (256 * j + i) y := by
  induction m with
  | zero => omega
  | succ m ih =>
    have hsz : (run rd F m).data.toList.length = 256 * m := by
      have := run_size (rd := rd) (F := F) (j := m) fun q hq => hs q (by omega)
      rw [← this]
      rfl
    rw [run_succ, run_succ, ByteArray.data_append, Array.toList_append, ByteArray.data_append, Array.toList_append]
    rcases Nat.lt_or_ge j m with h | h
    · rw [ih (fun q hq => hs q (by omega)) h, ho (F + m) (by omega), List.set_append_left _ _ (by omega)]
    · have e : j = m := by omega
      subst e
      rw [ht, run_congr (rd := rd) (rd' := rd') fun q hq => ho (F + q) (by omega), List.set_append_right _ _ (by omega), hsz, Nat.add_sub_cancel_left]
theorem sec_of {f : Fnd} (h0 : 0 ≤ f.seg) (h1 : 0 ≤ f.pos) (k : Nat) : 48 + 32 * f.seg + f.pos + (k : Int) = ((sec f + k : Nat) : Int) := by
  unfold sec
  omega
end

theorem blkT_get {T : ByteArray} {j i : Nat} (hi : i < 256) : (blkT T j).data.toList[i]? = T.data.toList[256 * j + i]? := by
  unfold blkT
  rw [extract_list, List.getElem?_drop, List.getElem?_take_of_lt (by omega)]

section
variable {S : St} {cs : List Fnd} {L : Lg}
theorem Fil.size (h : Fil S cs L) (k : Nat) (hk : k < cs.length) (j : Nat) (hj : j ≤ cs[k].bl.length) : (S.read (sec cs[k] + j)).size = 256 := by
  have h1 := (h.head k hk).2.2.2.2.2
  have hs := makeS_size h1.made
  rw [h1.read j hj, blkT_size hs hj]
/-- A sector of a chunk turned: those ahead of it are found, no more. -/
theorem Fil.torn (h : Fil S cs L) (k : Nat) (hk : k < cs.length) (j i : Nat) (y : UInt8) (hj : j ≤ cs[k].bl.length) (hi : i < (S.read (sec cs[k] + j)).data.toList.length) (hy : y ≠ (S.read (sec cs[k] + j)).data.toList[i]) {rd' : Nat → ByteArray} (ho : ∀ q, q ≠ sec cs[k] + j → rd' q = S.read q) (ht : (rd' (sec cs[k] + j)).data.toList = (S.read (sec cs[k] + j)).data.toList.set i y) : ∃ A, Rolls rd' 8 (seqL 0 8) lgB (cs.take k) A ∧ A.seq = 5 + (k : Int) := by
  obtain ⟨A, a1, a2, a3⟩ := h.chain.part k hk
  have hAp := a1.pl pl0
  have hah := a2.ahead hAp
  obtain ⟨n1, n2, n3, -, -, -, -, -, -, n10⟩ := a1.nums
  rw [List.length_take, Nat.min_eq_left (by omega)] at n10
  have hseq : A.seq = 5 + (k : Int) := n10
  have hl := a2.lies
  have hsz := makeS_size hl.made
  have hi256 : i < 256 := by
    have h1 := h.size k hk j hj
    have h2 : (S.read (sec cs[k] + j)).data.toList.length = (S.read (sec cs[k] + j)).size := rfl
    omega
  have hrun := run_set (rd := S.read) (rd' := rd') (F := sec cs[k]) (m := cs[k].bl.length + 1) (j := j) (i := i) (y := y) (fun q hq => h.size k hk q (by omega)) (by omega) hi256 ho ht
  rw [hl.run] at hrun
  have hlen : (makeS cs[k].head cs[k].bl).data.toList.length = 256 * (1 + cs[k].bl.length) := hsz
  have hlt : 256 * j + i < (makeS cs[k].head cs[k].bl).data.toList.length := by
    rw [hlen]
    have : 256 * j ≤ 256 * cs[k].bl.length := Nat.mul_le_mul_left _ hj
    omega
  have hget : (makeS cs[k].head cs[k].bl).data.toList[256 * j + i] = (S.read (sec cs[k] + j)).data.toList[i] := by
    have e1 := hl.read j hj
    have e2 : (blkT (makeS cs[k].head cs[k].bl) j).data.toList[i]? = (makeS cs[k].head cs[k].bl).data.toList[256 * j + i]? := blkT_get hi256
    rw [← e1, List.getElem?_eq_getElem hi, List.getElem?_eq_getElem hlt] at e2
    exact (Option.some.inj e2).symm
  have htorn : atB rd' 8 (seqL 0 8) A cs[k].seg cs[k].pos = false := at_torn hl.made hlt (by rw [hget]; exact hy) hl.pos1 hrun
  have hch : Chain rd' 8 lgB (cs.take k) A := a1.turn pl0 fun q _ h2 => ho q (by omega)
  have hs0 := hl.seg0
  have hp0 := hl.pos0
  have hp1 := hl.pos1
  have hA0 := hAp.seg0
  have hA1 := hAp.pos0
  have hA2 := hAp.pos1
  have hA3 := hAp.next
  refine ⟨A, ?_, hseq⟩
  have hend : Rolls rd' 8 (seqL 0 8) A [] A := by
    refine .done ?_
    rcases a2.place with ⟨e1, e2⟩ | ⟨e1, e2, e4, e3⟩
    · refine nxt_none (by rw [← e1, ← e2]; exact htorn) ?_
      have hdiff : ∀ q, 48 + 32 * A.next.toNat ≤ q → rd' q = S.read q := fun q hq => ho q (by
        unfold sec
        omega)
      rcases h.start A.next (by omega) with ⟨m, hm, f1, f2⟩ | h0
      · have g := h.head m hm
        have hlm := g.2.2.2.2.2
        have hlm2 : Lies rd' 8 cs[m] := hlm.turn fun q h1 _ => hdiff q (by
          unfold sec at h1
          rw [f1] at h1
          omega)
        have hno : folB (seqL 0 8) A cs[m].head = false := by
          refine fol_no (.inr (.inr (.inr (.inl ?_))))
          rw [g.2.2.2.1, hseq]
          intro e5
          have e6 : m = k := by omega
          subst e6
          omega
        have h7 := hlm2.other (segs := seqL 0 8) (L := A) hno
        rw [f1, f2] at h7
        exact h7
      · exact at_zero (by rw [hdiff _ (by omega)]; exact h0)
    · refine nxt_none ?_ (by rw [← e1, ← e2]; exact htorn)
      rcases e3 with e3 | e3
      · exact atB_none (atT_end (by omega))
      · rcases Int.lt_or_le A.pos 32 with h5 | h5
        · refine at_zero ?_
          rw [ho _ (by unfold sec; omega)]
          exact e3
        · exact atB_none (atT_end h5)
  have h9 := hch.rolls (segs := seqL 0 8) segs_all hend
  rw [List.append_nil] at h9
  exact h9

/-- From behind a chunk on. -/
theorem Fil.again (h : Fil S cs L) (k : Nat) (hk : k < cs.length) : Rolls S.read 8 (seqL 0 8) ⟨3, 7, 1, 2, k, cs[k].seg, cs[k].pos + 1 + (cs[k].bl.length : Int), cs[k].head.next, 6 + (k : Int), 0, 0, 0, 0, 0, 0, []⟩ (cs.drop (k + 1)) (bare L) := by
  obtain ⟨A, a1, a2, a3⟩ := h.chain.part k hk
  obtain ⟨n1, n2, n3, n4, n5, n6, n7, n8, n9, n10⟩ := a1.nums
  rw [List.length_take, Nat.min_eq_left (by omega)] at n10
  obtain ⟨kk, -, -, c1, c2, c3⟩ := h.form k hk
  have h9 := a3.rolls (segs := seqL 0 8) segs_all (.done (h.ends _))
  rw [List.append_nil] at h9
  have e : past A cs[k] = ⟨3, 7, 1, 2, k, cs[k].seg, cs[k].pos + 1 + (cs[k].bl.length : Int), cs[k].head.next, 6 + (k : Int), 0, 0, 0, 0, 0, 0, []⟩ := by
    obtain ⟨house, gen, num, life, clock, seg, pos, next, seq, m0, m1, m2, m3, sb, sn, fl⟩ := A
    unfold past
    dsimp only at n1 n2 n3 n4 n5 n6 n7 n8 n9 n10 ⊢
    rw [n1, n2, n3, n4, n5, n6, n7, n8, n9, n10, c1, c2, c3]
    show (⟨3, 7, 1, 2, _, _, _, _, 5 + (k : Int) + 1, 0, 0, 0, 0, 0, 0, []⟩ : Lg) = _
    rw [show (5 : Int) + (k : Int) + 1 = 6 + (k : Int) by omega]
  rw [← e]
  exact h9
end
end Rol
end Go.Proofs.Ytaiebhkjkeadoaa
