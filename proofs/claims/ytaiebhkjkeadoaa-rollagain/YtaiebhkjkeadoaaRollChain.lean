/- Chunks one behind the other on a disk, plainly: that all of them are found, from the middle on too; where it ends. Nothing of the program. -/
import Derived.Test.YtaiebhkjkeadoaaRollPlain
import Derived.Test.YtaiebhkjkeadoaaDiskNew
namespace Go.Proofs.Ytaiebhkjkeadoaa
namespace Rol
open Chk Hdp Lo

/-- A place's sector; a chunk's. -/
def fr (L : Lg) : Nat := 48 + 32 * L.seg.toNat + L.pos.toNat
def sec (f : Fnd) : Nat := 48 + 32 * f.seg.toNat + f.pos.toNat

/-- A chunk lies there. -/
structure Lies (rd : Nat → ByteArray) (n : Nat) (f : Fnd) : Prop where
  made : makeB f.head f.bl = true
  seg0 : 0 ≤ f.seg
  seg1 : f.seg < n
  pos0 : 0 ≤ f.pos
  pos1 : f.pos + 1 + f.bl.length ≤ 32
  read : ∀ j, j ≤ f.bl.length → rd (sec f + j) = blkT (makeS f.head f.bl) j

section
variable {rd rd' : Nat → ByteArray} {n : Nat} {segs : List Int} {f : Fnd} {L M : Lg}
theorem run_blks {T : ByteArray} {k F : Nat} (hT : T.size = 256 * (1 + k)) (h : ∀ j, j ≤ k → rd (F + j) = blkT T j) : ∀ j, j ≤ k + 1 → run rd F j = T.extract 0 (256 * j)
  | 0, _ => by rw [run_zero, Nat.mul_zero, ext_zero]
  | j + 1, hj => by rw [run_succ, run_blks hT h j (by omega), h j (by omega), ext_more hT (by omega)]
theorem Lies.run (h : Lies rd n f) : run rd (sec f) (f.bl.length + 1) = makeS f.head f.bl := by
  have hs := makeS_size h.made
  rw [run_blks hs h.read _ (Nat.le_refl _), ext_all hs]
theorem Lies.text (h : Lies rd n f) (hi : inS n segs f.seg = true) : ∃ more, atT rd n segs f.seg f.pos = makeS f.head f.bl ++ more := by
  have h0 := h.pos0
  have h1 := h.pos1
  rw [atT_yes h0 hi]
  have e : 32 - f.pos.toNat = (f.bl.length + 1) + (32 - f.pos.toNat - (f.bl.length + 1)) := by omega
  rw [e, run_add]
  have h2 := h.run
  unfold sec at h2
  rw [h2]
  exact ⟨_, rfl⟩
theorem Lies.par (h : Lies rd n f) (hi : inS n segs f.seg = true) : parB (atT rd n segs f.seg f.pos) = true ∧ parX (atT rd n segs f.seg f.pos) = f.head ∧ fnd rd n segs f.seg f.pos = f := by
  obtain ⟨more, e⟩ := h.text hi
  obtain ⟨k1, k2, k3⟩ := par_make h.made more
  unfold fnd
  rw [e, k1, k2, k3]
  exact ⟨rfl, rfl, rfl⟩
theorem Lies.other (h : Lies rd n f) (hf : folB segs L f.head = false) : atB rd n segs L f.seg f.pos = false := by
  cases hi : inS n segs f.seg
  · exact atB_none (atT_no (.inr hi))
  · exact atB_fol (by rw [(h.par hi).2.1]; exact hf)
/-- A sector that is zero begins no chunk. -/
theorem at_zero {seg pos : Int} (h : rd (48 + 32 * seg.toNat + pos.toNat) = zbytes 256) : atB rd n segs L seg pos = false := by
  rcases Int.lt_or_le pos 0 with h1 | h1
  · exact atB_none (atT_no (.inl h1))
  · cases hi : inS n segs seg
    · exact atB_none (atT_no (.inr hi))
    · rcases Int.lt_or_le pos 32 with h2 | h2
      · refine atB_par (par_zero ?_)
        rw [atT_yes h1 hi, show 32 - pos.toNat = 1 + (31 - pos.toNat) by omega, run_add, run_succ, run_zero, Nat.add_zero, h]
        rw [ByteArray.data_append, Array.toList_append, ByteArray.data_append, Array.toList_append, zbytes]
        rfl
      · exact atB_none (atT_end h2)
theorem at_torn {seg pos : Int} {x : Hd} {l : List ByteArray} (hm : makeB x l = true) {i : Nat} {y : UInt8} (hi : i < (makeS x l).data.toList.length) (hy : y ≠ (makeS x l).data.toList[i]) (hp : pos + 1 + l.length ≤ 32) (h : (run rd (48 + 32 * seg.toNat + pos.toNat) (l.length + 1)).data.toList = (makeS x l).data.toList.set i y) : atB rd n segs L seg pos = false := by
  rcases Int.lt_or_le pos 0 with h1 | h1
  · exact atB_none (atT_no (.inl h1))
  · cases hin : inS n segs seg
    · exact atB_none (atT_no (.inr hin))
    · refine atB_par (par_turned_more hm hi hy (q := (run rd (48 + 32 * seg.toNat + pos.toNat + (l.length + 1)) (32 - pos.toNat - (l.length + 1))).data.toList) ?_)
      rw [atT_yes h1 hin]
      have e : 32 - pos.toNat = (l.length + 1) + (32 - pos.toNat - (l.length + 1)) := by omega
      conv => lhs; rw [e, run_add]
      rw [ByteArray.data_append, Array.toList_append, h]

/-- A chunk that goes on with a place. -/
structure Goes (rd : Nat → ByteArray) (n : Nat) (M : Lg) (f : Fnd) : Prop where
  lies : Lies rd n f
  place : (f.seg = M.seg ∧ f.pos = M.pos) ∨ (f.seg = M.next ∧ f.pos = 0 ∧ 32 < M.pos + 1 + f.bl.length ∧ (M.pos = 32 ∨ rd (fr M) = zbytes 256))
  house : f.head.house = M.house
  gen : f.head.gen = M.gen
  life : f.head.life = M.life
  seq : f.head.seq = M.seq
  next : f.head.next = f.seg + 1
  next1 : f.head.next < n
/-- A place of a log whose segments are gone through in their order. -/
structure Pl (M : Lg) : Prop where
  seg0 : 0 ≤ M.seg
  pos0 : 0 ≤ M.pos
  pos1 : M.pos ≤ 32
  next : M.next = M.seg + 1
/-- Chunks one behind the other. -/
inductive Chain (rd : Nat → ByteArray) (n : Nat) : Lg → List Fnd → Lg → Prop
  | nil {L : Lg} : Chain rd n L [] L
  | snoc {L M : Lg} {cs : List Fnd} {f : Fnd} : Chain rd n L cs M → Goes rd n M f → Chain rd n L (cs ++ [f]) (past M f)

theorem Goes.fol (h : Goes rd n M f) (hs : segs.contains f.head.next = true) : folB segs M f.head = true := by
  unfold folB
  rw [decide_eq_true h.house, decide_eq_true h.gen, decide_eq_true h.life, decide_eq_true h.seq, hs]
  rfl
theorem Goes.nxt (h : Goes rd n M f) (hs : ∀ s : Int, 0 ≤ s → s < n → segs.contains s = true) : nxt rd n segs M = some f := by
  have h0 := h.lies.seg0
  have h1 := h.lies.seg1
  have hin : inS n segs f.seg = true := by
    unfold inS
    rw [hs _ h0 h1, decide_eq_true h0, decide_eq_true h1]
    rfl
  obtain ⟨k1, k2, k3⟩ := h.lies.par hin
  have hnx := h.next
  have hnx1 := h.next1
  have hat : atB rd n segs M f.seg f.pos = true := by
    unfold atB
    rw [k1, k2, h.fol (hs _ (by omega) hnx1)]
    rfl
  rcases h.place with ⟨e1, e2⟩ | ⟨e1, e2, -, e3⟩
  · rw [e1, e2] at hat
    rw [nxt_here hat, ← e1, ← e2, k3]
  · have hno : atB rd n segs M M.seg M.pos = false := by
      rcases e3 with e3 | e3
      · exact atB_none (atT_end (by omega))
      · exact at_zero e3
    rw [e1, e2] at hat
    rw [nxt_there hno hat, ← e1, ← e2, k3]
theorem Goes.pl (h : Goes rd n M f) : Pl (past M f) :=
  ⟨h.lies.seg0, by show 0 ≤ f.pos + 1 + f.bl.length; have := h.lies.pos0; omega, h.lies.pos1, h.next⟩
theorem Goes.ahead (h : Goes rd n M f) (hM : Pl M) : fr M ≤ sec f := by
  have h1 := hM.pos1
  have h2 := hM.next
  have h3 := hM.seg0
  unfold fr sec
  rcases h.place with ⟨e1, e2⟩ | ⟨e1, e2, -, -⟩
  · rw [e1, e2]
    omega
  · rw [e1, e2, h2]
    omega
theorem Goes.behind (h : Goes rd n M f) : fr (past M f) = sec f + 1 + f.bl.length := by
  have h1 := h.lies.pos0
  show 48 + 32 * f.seg.toNat + (f.pos + 1 + f.bl.length).toNat = 48 + 32 * f.seg.toNat + f.pos.toNat + 1 + f.bl.length
  omega
theorem Goes.inside (h : Goes rd n M f) : sec f + 1 + f.bl.length ≤ 48 + 32 * n := by
  have h0 := h.lies.seg0
  have h1 := h.lies.seg1
  have h2 := h.lies.pos0
  have h3 := h.lies.pos1
  unfold sec
  omega
/-- It goes on wherever its sectors are so. -/
theorem Lies.turn (h : Lies rd n f) (hr : ∀ i, sec f ≤ i → i < sec f + 1 + f.bl.length → rd' i = rd i) : Lies rd' n f :=
  ⟨h.made, h.seg0, h.seg1, h.pos0, h.pos1, fun j hj => by rw [hr _ (by omega) (by omega)]; exact h.read j hj⟩
theorem Goes.turn (h : Goes rd n M f) (hM : Pl M) (hr : ∀ i, fr M ≤ i → i < sec f + 1 + f.bl.length → rd' i = rd i) : Goes rd' n M f := by
  have ha := h.ahead hM
  refine ⟨h.lies.turn fun i h1 h2 => hr i (by omega) h2, ?_, h.house, h.gen, h.life, h.seq, h.next, h.next1⟩
  rcases h.place with hp | ⟨e1, e2, e4, e3⟩
  · exact .inl hp
  · refine .inr ⟨e1, e2, e4, ?_⟩
    rcases e3 with e3 | e3
    · exact .inl e3
    · exact .inr (by rw [hr _ (Nat.le_refl _) (by omega)]; exact e3)

variable {cs : List Fnd}
theorem Chain.pl (h : Chain rd n L cs M) (hL : Pl L) : Pl M := by
  induction h with
  | nil => exact hL
  | snoc _ g _ => exact g.pl
theorem Chain.ahead (h : Chain rd n L cs M) (hL : Pl L) : fr L ≤ fr M := by
  induction h with
  | nil => exact Nat.le_refl _
  | snoc h g ih =>
    have h1 := ih
    have h2 := g.ahead (h.pl hL)
    rw [g.behind]
    omega
theorem Chain.nums (h : Chain rd n L cs M) : M.house = L.house ∧ M.gen = L.gen ∧ M.life = L.life ∧ M.num = L.num ∧ M.m0 = L.m0 ∧ M.m1 = L.m1 ∧ M.m2 = L.m2 ∧ M.m3 = L.m3 ∧ M.free = L.free ∧ M.seq = L.seq + cs.length := by
  induction h with
  | nil => simp
  | snoc _ g ih =>
    obtain ⟨h1, h2, h3, h4, h5, h6, h7, h8, h9, h10⟩ := ih
    refine ⟨h1, h2, h3, h4, h5, h6, h7, h8, h9, ?_⟩
    rw [List.length_append, List.length_singleton]
    show _ + 1 = _
    rw [h10]
    omega
theorem Chain.rolls (h : Chain rd n L cs M) (hs : ∀ s : Int, 0 ≤ s → s < n → segs.contains s = true) {fs : List Fnd} {M' : Lg} (hr : Rolls rd n segs M fs M') : Rolls rd n segs L (cs ++ fs) M' := by
  induction h generalizing fs with
  | nil => exact hr
  | snoc _ g ih =>
    rw [List.append_assoc]
    exact ih (.more (g.nxt hs) hr)
theorem Chain.turn (h : Chain rd n L cs M) (hL : Pl L) (hr : ∀ i, fr L ≤ i → i < fr M → rd' i = rd i) : Chain rd' n L cs M := by
  induction h with
  | nil => exact .nil
  | snoc h g ih =>
    have h1 := g.ahead (h.pl hL)
    have h2 := g.behind
    have h3 := h.ahead hL
    exact .snoc (ih fun i h4 h5 => hr i h4 (by omega)) (g.turn (h.pl hL) fun i h4 h5 => hr i (by omega) (by omega))
theorem Chain.append {cs' : List Fnd} {M' : Lg} (h : Chain rd n L cs M) (h' : Chain rd n M cs' M') : Chain rd n L (cs ++ cs') M' := by
  induction h' with
  | nil => rw [List.append_nil]; exact h
  | snoc _ g ih =>
    rw [← List.append_assoc]
    exact .snoc ih g
/-- A chain parted at a chunk. -/
theorem Chain.part (h : Chain rd n L cs M) (k : Nat) (hk : k < cs.length) : ∃ A, Chain rd n L (cs.take k) A ∧ Goes rd n A cs[k] ∧ Chain rd n (past A cs[k]) (cs.drop (k + 1)) M := by
  induction h with
  | nil => exact absurd hk (Nat.not_lt_zero _)
  | @snoc M cs f h g ih =>
    rw [List.length_append, List.length_singleton] at hk
    rcases Nat.lt_or_ge k cs.length with h1 | h1
    · obtain ⟨A, a1, a2, a3⟩ := ih h1
      refine ⟨A, ?_, ?_, ?_⟩
      · rw [List.take_append_of_le_length (by omega)]
        exact a1
      · rw [List.getElem_append_left h1]
        exact a2
      · rw [List.getElem_append_left h1, List.drop_append_of_le_length (by omega)]
        exact .snoc a3 g
    · have e : k = cs.length := by omega
      subst e
      refine ⟨M, ?_, ?_, ?_⟩
      · rw [List.take_left' rfl]
        exact h
      · rw [List.getElem_concat_length rfl]
        exact g
      · rw [List.getElem_concat_length rfl, List.drop_eq_nil_of_le (by simp)]
        exact .nil
theorem Chain.goes (h : Chain rd n L cs M) (k : Nat) (hk : k < cs.length) : ∃ A, Goes rd n A cs[k] ∧ A.house = L.house ∧ A.gen = L.gen ∧ A.life = L.life ∧ A.seq = L.seq + k := by
  obtain ⟨A, a1, a2, -⟩ := h.part k hk
  obtain ⟨h1, h2, h3, -, -, -, -, -, -, h10⟩ := a1.nums
  rw [List.length_take, Nat.min_eq_left (by omega)] at h10
  exact ⟨A, a2, h1, h2, h3, h10⟩
theorem Chain.seq (h : Chain rd n L cs M) (k : Nat) (hk : k < cs.length) : cs[k].head.seq = L.seq + k := by
  obtain ⟨A, a1, -, -, -, a2⟩ := h.goes k hk
  rw [a1.seq, a2]
theorem Chain.where_ (h : Chain rd n L cs M) (hL : Pl L) (k : Nat) (hk : k < cs.length) : fr L ≤ sec cs[k] ∧ sec cs[k] + 1 + cs[k].bl.length ≤ fr M := by
  obtain ⟨A, a1, a2, a3⟩ := h.part k hk
  have h1 := a1.ahead hL
  have h2 := a2.ahead (a1.pl hL)
  have h3 := a3.ahead a2.pl
  rw [a2.behind] at h3
  omega
/-- Every segment that was gone to begins with a chunk. -/
theorem Chain.starts (h : Chain rd n L cs M) (hL : Pl L) (s : Int) (h0 : L.seg < s) (h1 : s ≤ M.seg) : ∃ k, ∃ hk : k < cs.length, cs[k].seg = s ∧ cs[k].pos = 0 := by
  induction h with
  | nil => omega
  | @snoc M cs f h g ih =>
    rcases Int.lt_or_le M.seg s with h2 | h2
    · have h3 := (h.pl hL).next
      have h4 : s ≤ f.seg := h1
      rcases g.place with ⟨e1, e2⟩ | ⟨e1, e2, -, -⟩
      · omega
      · refine ⟨cs.length, by simp, ?_⟩
        rw [List.getElem_concat_length rfl]
        exact ⟨by omega, e2⟩
    · obtain ⟨k, hk, a1, a2⟩ := ih h2
      refine ⟨k, by simp; omega, ?_⟩
      rw [List.getElem_append_left hk]
      exact ⟨a1, a2⟩
/-- Segments rise. -/
theorem Chain.rise (h : Chain rd n L cs M) (hL : Pl L) : L.seg ≤ M.seg := by
  induction h with
  | nil => exact Int.le_refl _
  | snoc h g ih =>
    have h1 := ih
    have h3 := (h.pl hL).next
    rcases g.place with ⟨e1, e2⟩ | ⟨e1, e2, -, -⟩
    · show _ ≤ Fnd.seg _
      omega
    · show _ ≤ Fnd.seg _
      omega
end
end Rol
end Go.Proofs.Ytaiebhkjkeadoaa
