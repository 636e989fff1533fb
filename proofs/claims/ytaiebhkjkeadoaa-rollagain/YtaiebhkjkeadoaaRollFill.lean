/- The laws' own filled disk, plainly: chunks one behind the other, nothing behind them. -/
import Derived.Test.YtaiebhkjkeadoaaRollChain
import Derived.Test.YtaiebhkjkeadoaaLogOk
import Derived.Test.YtaiebhkjkeadoaaLogAppDone
import Derived.Test.YtaiebhkjkeadoaaFilled
namespace Go.Proofs.Ytaiebhkjkeadoaa
namespace Rol
open Chk Hdp Lo Rec

/-- A chunk's entries, blocks, head, by numbers. -/
def ek (k : Nat) : List En := (List.range k).map fun (j : Nat) => ⟨3, 1 + (j : Int), 0⟩
def ft (i k : Nat) : List ByteArray := (List.range k).map fun (j : Nat) => Fill (i + j)
abbrev kx (i k : Nat) : Hd := ⟨0, 0, 0, 0, 0, i, 0, 0, ek k⟩
theorem ek_length (k : Nat) : (ek k).length = k := by simp [ek]
theorem ft_length (i k : Nat) : (ft i k).length = k := by simp [ft]
theorem ek_succ (k : Nat) : ek (k + 1) = ek k ++ [⟨3, 1 + (k : Int), 0⟩] := by simp [ek, List.range_succ]
theorem ft_succ (i k : Nat) : ft i (k + 1) = ft i k ++ [Fill (i + k)] := by simp [ft, List.range_succ]
theorem ft_get (i k j : Nat) (h : j < (ft i k).length) : (ft i k)[j] = Fill (i + j) := by simp [ft]
theorem ft_all (i k : Nat) : allB (ft i k) = true := by
  rw [allB_iff]
  intro b hb
  obtain ⟨j, _, rfl⟩ := List.mem_map.1 hb
  exact Fill_size _
theorem ek_ok {k : Nat} (hk : k ≤ 24) : (ek k).all enB = true := by
  rw [List.all_eq_true]
  intro e he
  obtain ⟨i, hi, rfl⟩ := List.mem_map.1 he
  have hi2 : i < k := List.mem_range.1 hi
  unfold enB partB
  simp [inB_iff]
  omega
theorem kx_made {n : Nat} {L : Lg} (h : LawOk n L) (hn : n ≤ 100) (i k : Nat) (hk : k ≤ 24) (hi : i ≤ 100000) : makeB (L.head (kx i k)) (ft i k) = true := by
  have e : (L.head (kx i k)).list = ek k := rfl
  have hok : okB (L.head (kx i k)) = true := by
    unfold okB
    rw [e, ek_ok hk, ek_length, law_num h hn (kx i k) (by show (0 : Int) ≤ i; omega) (by show (i : Int) ≤ 100000; omega) (by show (0 : Int) ≤ 0; omega) (by show (0 : Int) ≤ 100000; omega) (by show (0 : Int) ≤ 0; omega) (by show (0 : Int) ≤ 100000; omega), decide_eq_true hk]
    rfl
  rw [makeB_is (ft_all i k) hok, e, ft_length, ek_length]
  simp

/-- Reading behind a chunk. -/
theorem read_all {S : St} {F k : Nat} {T : ByteArray} (h : took S k = true) (hn : ∀ o', o' ≠ 3 → S.waits o' = []) (hw : S.waits 3 = [] ∨ ∃ x, S.waits 3 = [x] ∧ 1 ≤ x.order) (i : Nat) : (chunk S 3 F T k).read i = if F ≤ i ∧ i ≤ F + k then blkT T (i - F) else S.read i := by
  have hs : settleL S.dur (S.waits 3) i = S.read i := by
    rcases hw with hw | ⟨x, hw, hx⟩
    · rw [hw, settle_nil_at, read_none fun o => by
        by_cases e : o = 3
        · rw [e, hw]
        · exact hn o e]
    · rw [hw, settle_one, read_one (by decide) hn hw hx]
  rw [read_one (by decide) (fun o' h' => by rw [chunk_other h', hn o' h']) (chunk_waits h) (by show 1 ≤ S.writes + k + 1; omega)]
  by_cases e : i = F
  · rw [if_pos (by show i = F; exact e), if_pos (by omega), e, Nat.sub_self]
  · rw [if_neg (by show ¬ i = F; exact e), chunk_dur h]
    by_cases e2 : F < i ∧ i ≤ F + k
    · rw [if_pos e2, if_pos (by omega)]
    · rw [if_neg e2, if_neg (by omega), hs]

/-- A place without its free ones. -/
def bare (L : Lg) : Lg := { L with free := [] }
/-- Where the laws begin. -/
def lgB : Lg := bare (lg1 8)

/-- A disk that the laws have filled: the log behind it. -/
structure Fil (S : St) (cs : List Fnd) (L : Lg) : Prop where
  ok : LawOk 8 L
  segs : ∃ s : Nat, L.seg = s ∧ L.next = (s : Int) + 1 ∧ L.free = seqL (s + 2) (6 - s) ∧ s ≤ 6
  chain : Chain S.read 8 lgB cs (bare L)
  zero : ∀ j, fr L ≤ j → S.read j = zbytes 256
  seq : L.seq = 5 + (cs.length : Int)
  form : ∀ (j : Nat) (h : j < cs.length), ∃ k, k ≤ 24 ∧ cs[j].bl = ft j k ∧ cs[j].head.clock = j ∧ cs[j].head.sb = 0 ∧ cs[j].head.sn = 0
  n : S.n = 304
  left : S.left = 0
  down : S.down = false
  writes : S.writes ≤ cs.length * 25
  others : ∀ o, o ≠ 3 → S.waits o = []
  mine : S.waits 3 = [] ∨ ∃ x, S.waits 3 = [x] ∧ 1 ≤ x.order

theorem pl0 : Pl lgB := ⟨by show (0 : Int) ≤ 0; omega, by show (0 : Int) ≤ 0; omega, by show (0 : Int) ≤ 32; omega, rfl⟩
theorem fil_new : Fil (St.new 304) [] (lg1 8) :=
  ⟨LawOk.one (by decide) (by decide), ⟨0, rfl, rfl, rfl, by decide⟩, .nil, fun j _ => by rw [read_none (fun _ => rfl)]; rfl, rfl, (fun j h => by cases h), rfl, rfl, rfl, Nat.zero_le _, fun _ _ => rfl, .inl rfl⟩

theorem fr_sec {L : Lg} (h0 : 0 ≤ L.seg) (h1 : 0 ≤ L.pos) : fr L = L.sec 32 := by
  unfold fr Lg.sec
  omega

section
variable {S : St} {cs : List Fnd} {L : Lg}
theorem Fil.pl (h : Fil S cs L) : Pl (bare L) := h.chain.pl pl0
theorem Fil.first (h : Fil S cs L) (h0 : cs = []) : L.pos = 0 := by
  subst h0
  have hc := h.chain
  have key : ∀ {rd : Nat → ByteArray} {A B : Lg} {l : List Fnd}, Chain rd 8 A l B → l = [] → A = B := by
    intro rd A B l hh
    cases hh with
    | nil => intro _; rfl
    | snoc _ _ => intro hl; simp at hl
  have e := key hc rfl
  have e2 := congrArg Lg.pos e
  exact e2.symm
/-- One more. -/
theorem Fil.more (h : Fil S cs L) (k : Nat) (hk : k ≤ 24) (hc : L.canB 32 k = true) (hi : cs.length ≤ 1000) :
    Fil (chunk S 3 ((L.move 32 k).sec 32) (makeS ((L.move 32 k).head (kx cs.length k)) (ft cs.length k)) k) (cs ++ [⟨(L.move 32 k).seg, (L.move 32 k).pos, (L.move 32 k).head (kx cs.length k), ft cs.length k⟩]) ((L.move 32 k).after k (kx cs.length k)) := by
  have hok2 := h.ok.move hc
  have hm := kx_made hok2 (by decide) cs.length k hk (by omega)
  have htk : took S k = true := took_up h.down h.left k
  have hpl := h.pl
  obtain ⟨s, a1, a3, a4, a5⟩ := h.segs
  have hrd := read_all (F := (L.move 32 k).sec 32) (T := makeS ((L.move 32 k).head (kx cs.length k)) (ft cs.length k)) htk h.others h.mine
  have hsz := makeS_size hm
  rw [ft_length] at hsz
  -- how it moves
  have hmv : (L.move 32 k = L ∧ L.pos + 1 + k ≤ 32) ∨ ((L.move 32 k).seg = (s : Int) + 1 ∧ (L.move 32 k).pos = 0 ∧ 32 < L.pos + 1 + k ∧ (L.move 32 k).next = (s : Int) + 2 ∧ (L.move 32 k).free = seqL (s + 3) (6 - (s + 1)) ∧ s + 1 ≤ 6 ∧ (L.move 32 k).seq = L.seq ∧ (L.move 32 k).house = L.house ∧ (L.move 32 k).gen = L.gen ∧ (L.move 32 k).life = L.life ∧ (L.move 32 k).num = L.num ∧ (L.move 32 k).m0 = L.m0 ∧ (L.move 32 k).m1 = L.m1 ∧ (L.move 32 k).m2 = L.m2 ∧ (L.move 32 k).m3 = L.m3) := by
    by_cases hp : L.pos ≤ 32 - 1 - k
    · exact .inl ⟨if_pos hp, by omega⟩
    · have e : L.move 32 k = { L with seg := L.next, pos := 0, next := L.free.headD 0, free := L.free.tail } := if_neg hp
      have hne : L.free ≠ [] := by
        intro e0
        simp [Lg.canB, e0] at hc
        omega
      obtain ⟨m, hm2⟩ : ∃ m, 6 - s = m + 1 := by
        rcases Nat.eq_zero_or_pos (6 - s) with h3 | h3
        · rw [a4, h3] at hne
          exact absurd rfl hne
        · exact ⟨6 - s - 1, by omega⟩
      have hfr : L.free = ((s + 2 : Nat) : Int) :: seqL (s + 3) m := by rw [a4, hm2, seqL_cons]
      right
      rw [e]
      refine ⟨a3, rfl, by omega, ?_, ?_, by omega, rfl, rfl, rfl, rfl, rfl, rfl, rfl, rfl, rfl⟩
      · show L.free.headD 0 = _
        rw [hfr]
        show ((s + 2 : Nat) : Int) = _
        omega
      · show L.free.tail = _
        rw [hfr, show 6 - (s + 1) = m by omega]
        rfl
  have hin := move_in hok2.ok (by decide : (32 : Int) ≤ 32) hk (by
    show (L.move 32 k).canB 32 k = true
    unfold Lg.canB
    rcases hmv with ⟨e, hp⟩ | ⟨-, e, -⟩
    · rw [e, decide_eq_true (by omega)]; rfl
    · rw [e, decide_eq_true (by omega)]; rfl)
  have hfit : (L.move 32 k).pos + 1 + k ≤ 32 := by
    rcases hmv with ⟨e, hp⟩ | ⟨-, e, -⟩
    · rw [e]; exact hp
    · rw [e]; omega
  have p0 := hok2.pos0
  have p1 := hok2.seg0
  have p2 := hok2.seg1
  have p3 := hok2.next1
  have hsec := fr_sec p1 p0
  -- it lies behind all that there is
  have hahead : fr L ≤ (L.move 32 k).sec 32 := by
    rw [← hsec]
    rcases hmv with ⟨e, -⟩ | ⟨e1, e2, -⟩
    · rw [e]; exact Nat.le_refl _
    · unfold fr
      rw [e1, e2, a1]
      have := h.ok.pos1
      omega
  generalize hM : L.move 32 k = M at *
  obtain ⟨f, hf⟩ : ∃ f : Fnd, f = ⟨M.seg, M.pos, M.head (kx cs.length k), ft cs.length k⟩ := ⟨_, rfl⟩
  have hfs : sec f = M.sec 32 := by rw [hf, ← hsec]; rfl
  rw [← hf]
  have hfb : f.bl.length = k := by rw [hf]; exact ft_length _ _
  have hlies : Lies (chunk S 3 (M.sec 32) (makeS (M.head (kx cs.length k)) (ft cs.length k)) k).read 8 f := by
    refine ⟨by rw [hf]; exact hm, by rw [hf]; exact p1, by rw [hf]; exact p2, by rw [hf]; exact p0, by rw [hfb, hf]; exact hfit, fun j hj => ?_⟩
    rw [hfb] at hj
    rw [hrd, hfs, if_pos (by omega), Nat.add_sub_cancel_left, hf]
  have hgoes : Goes (chunk S 3 (M.sec 32) (makeS (M.head (kx cs.length k)) (ft cs.length k)) k).read 8 (bare L) f := by
    refine ⟨hlies, ?_, ?_, ?_, ?_, ?_, ?_, ?_⟩
    · rcases hmv with ⟨e, -⟩ | ⟨e1, e2, e3, -⟩
      · left
        rw [hf, e]
        exact ⟨rfl, rfl⟩
      · right
        refine ⟨by rw [hf]; show M.seg = L.next; rw [e1, a3], by rw [hf]; exact e2, by rw [hfb]; exact e3, ?_⟩
        rcases Int.lt_or_le L.pos 32 with h5 | h5
        · right
          have hlt : fr (bare L) < M.sec 32 := by
            rw [← hsec]
            show fr L < _
            unfold fr
            rw [e1, e2, a1]
            omega
          rw [hrd, if_neg (by omega)]
          exact h.zero _ (Nat.le_refl _)
        · left
          have := h.ok.pos1
          show L.pos = 32
          omega
    · rw [hf]
      show M.house = L.house
      rcases hmv with ⟨e, -⟩ | ⟨-, -, -, -, -, -, -, e, -⟩
      · rw [e]
      · exact e
    · rw [hf]
      show M.gen = L.gen
      rcases hmv with ⟨e, -⟩ | ⟨-, -, -, -, -, -, -, -, e, -⟩
      · rw [e]
      · exact e
    · rw [hf]
      show M.life = L.life
      rcases hmv with ⟨e, -⟩ | ⟨-, -, -, -, -, -, -, -, -, e, -⟩
      · rw [e]
      · exact e
    · rw [hf]
      show M.seq = L.seq
      rcases hmv with ⟨e, -⟩ | ⟨-, -, -, -, -, -, e, -⟩
      · rw [e]
      · exact e
    · rw [hf]
      show M.next = M.seg + 1
      rcases hmv with ⟨e, -⟩ | ⟨e1, -, -, e, -⟩
      · rw [e, a3, a1]
      · rw [e, e1]; omega
    · rw [hf]
      exact p3
  have hpast : bare (M.after k (kx cs.length k)) = past (bare L) f := by
    have hp5 : M.pos + (1 + (k : Int)) = M.pos + 1 + (k : Int) := by omega
    have hq : M.house = L.house ∧ M.gen = L.gen ∧ M.num = L.num ∧ M.life = L.life ∧ M.seq = L.seq ∧ M.m0 = L.m0 ∧ M.m1 = L.m1 ∧ M.m2 = L.m2 ∧ M.m3 = L.m3 := by
      rcases hmv with ⟨e, -⟩ | ⟨-, -, -, -, -, -, e1, e2, e3, e4, e5, e6, e7, e8, e9⟩
      · rw [e]; exact ⟨rfl, rfl, rfl, rfl, rfl, rfl, rfl, rfl, rfl⟩
      · exact ⟨e2, e3, e5, e4, e1, e6, e7, e8, e9⟩
    obtain ⟨q1, q2, q3, q4, q5, q6, q7, q8, q9⟩ := hq
    rw [hf]
    unfold bare past Lg.after Lg.head
    simp only [ft_length]
    rw [q1, q2, q3, q4, q5, q6, q7, q8, q9, hp5]
  have hturn : Chain (chunk S 3 (M.sec 32) (makeS (M.head (kx cs.length k)) (ft cs.length k)) k).read 8 lgB cs (bare L) := h.chain.turn pl0 fun i _ h2 => by
    have h3 : i < fr L := h2
    rw [hrd, if_neg (by omega)]
  refine ⟨hok2.after _ hfit (by have := h.seq; rcases hmv with ⟨e, -⟩ | ⟨-, -, -, -, -, -, e, -⟩ <;> rw [e] <;> omega), ?_, by rw [hpast]; exact .snoc hturn hgoes, fun j hj => ?_, ?_, fun j hj => ?_, chunk_n.trans h.n, by rw [chunk_left htk, h.left]; omega, chunk_up htk h.left, ?_, fun o ho => by rw [chunk_other ho, h.others o ho], .inr ⟨_, chunk_waits htk, by show 1 ≤ S.writes + k + 1; omega⟩⟩
  · rcases hmv with ⟨e, -⟩ | ⟨e1, -, -, e3, e4, e5, -⟩
    · rw [e]
      exact ⟨s, a1, a3, a4, a5⟩
    · refine ⟨s + 1, ?_, ?_, ?_, e5⟩
      · show M.seg = _
        rw [e1]; omega
      · show M.next = _
        rw [e3]; omega
      · show M.free = _
        rw [e4]
  · have h3 : fr (M.after k (kx cs.length k)) = M.sec 32 + 1 + k := by
      rw [← hsec]
      unfold fr
      show 48 + 32 * M.seg.toNat + (M.pos + (1 + (k : Int))).toNat = _
      omega
    rw [hrd, if_neg (by omega)]
    exact h.zero j (by omega)
  · rw [List.length_append, List.length_singleton]
    show M.seq + 1 = _
    have := h.seq
    rcases hmv with ⟨e, -⟩ | ⟨-, -, -, -, -, -, e, -⟩ <;> rw [e] <;> omega
  · rw [List.length_append, List.length_singleton] at hj
    rcases Nat.lt_or_ge j cs.length with h1 | h1
    · rw [List.getElem_append_left h1]
      exact h.form j h1
    · have e : j = cs.length := by omega
      subst e
      rw [List.getElem_concat_length rfl, hf]
      exact ⟨k, hk, rfl, rfl, rfl, rfl⟩
  · rw [chunk_writes htk, List.length_append, List.length_singleton]
    have := h.writes
    omega
end
end Rol
end Go.Proofs.Ytaiebhkjkeadoaa
