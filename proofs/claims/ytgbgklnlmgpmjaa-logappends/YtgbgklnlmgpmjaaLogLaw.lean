/- The laws' own logs, plainly; awake walked. -/
import Derived.Test.YtgbgklnlmgpmjaaLogMake
import Derived.Test.YtgbgklnlmgpmjaaLogFits
import Derived.Test.YtgbgklnlmgpmjaaLogAppDone
import Derived.Test.YtgbgklnlmgpmjaaLogBlocks
namespace Go.Proofs.Ytgbgklnlmgpmjaa
open Go.RowKit Lo Hdp Chk Rec

/-- A log of the laws: n segments of 32 blocks. -/
structure LawOk (n : Nat) (L : Lg) : Prop where
  house : L.house = 3
  gen : L.gen = 7
  life : L.life = 2
  num : L.num = 1
  pos0 : 0 ≤ L.pos
  pos1 : L.pos ≤ 32
  seg0 : 0 ≤ L.seg
  seg1 : L.seg < n
  next0 : 0 ≤ L.next
  next1 : L.next < n
  seq0 : 1 ≤ L.seq
  seq1 : L.seq ≤ 100000
  free : ∀ f ∈ L.free, 0 ≤ f ∧ f < n
  few : L.free.length ≤ 1000

theorem LawOk.ok {n : Nat} {L : Lg} (h : LawOk n L) : L.Ok 32 n := ⟨h.pos0, h.pos1, h.seg0, h.seg1, h.next0, h.next1, by have := h.seq0; omega, by have := h.seq1; omega, by have := h.few; omega⟩
theorem LawOk.one {n : Nat} (hn : 2 ≤ n) (hn2 : n ≤ 100) : LawOk n (lg1 n) :=
  ⟨rfl, rfl, rfl, rfl, by show (0 : Int) ≤ 0; omega, by show (0 : Int) ≤ 32; omega, by show (0 : Int) ≤ 0; omega, by show (0 : Int) < n; omega, by show (0 : Int) ≤ 1; omega, by show (1 : Int) < n; omega, by show (1 : Int) ≤ 5; omega, by show (5 : Int) ≤ 100000; omega, fun f hf => by have := seqL_mem (show f ∈ seqL 2 (n - 2) from hf); omega, by show (seqL 2 (n - 2)).length ≤ _; rw [seqL_length]; omega⟩
theorem LawOk.move {n : Nat} {L : Lg} (h : LawOk n L) {k : Nat} (hc : L.canB 32 k = true) : LawOk n (L.move 32 k) := by
  by_cases hp : L.pos ≤ 32 - 1 - k
  · rw [show L.move 32 k = L from if_pos hp]
    exact h
  · rw [show L.move 32 k = { L with seg := L.next, pos := 0, next := L.free.headD 0, free := L.free.tail } from if_neg hp]
    have hne : L.free ≠ [] := by
      intro e0
      simp [Lg.canB, e0] at hc
      omega
    obtain ⟨f, fr, hf⟩ : ∃ f fr, L.free = f :: fr := by
      cases hl : L.free with
      | nil => exact absurd hl hne
      | cons f fr => exact ⟨f, fr, rfl⟩
    have h1 := h.free f (by rw [hf]; simp)
    have h2 := h.few
    rw [hf] at h2
    refine ⟨h.house, h.gen, h.life, h.num, Int.le_refl 0, by show (0 : Int) ≤ 32; omega, h.next0, h.next1, ?_, ?_, h.seq0, h.seq1, fun x hx => ?_, ?_⟩
    · show 0 ≤ L.free.headD 0
      rw [hf]; exact h1.1
    · show L.free.headD 0 < n
      rw [hf]; exact h1.2
    · have hx2 : x ∈ L.free.tail := hx
      rw [hf] at hx2
      exact h.free x (by rw [hf]; exact List.mem_cons_of_mem _ hx2)
    · show L.free.tail.length ≤ _
      rw [hf]
      simp at h2 ⊢
      omega
theorem LawOk.after {n : Nat} {L : Lg} (h : LawOk n L) {k : Nat} (x : Hd) (hp : L.pos + 1 + k ≤ 32) (hs : L.seq < 100000) : LawOk n (L.after k x) :=
  ⟨h.house, h.gen, h.life, h.num, by show 0 ≤ L.pos + (1 + (k : Int)); have := h.pos0; omega, by show L.pos + (1 + (k : Int)) ≤ 32; omega, h.seg0, h.seg1, h.next0, h.next1, by show 1 ≤ L.seq + 1; have := h.seq0; omega, by show L.seq + 1 ≤ 100000; omega, h.free, h.few⟩

theorem law_geo {N n : Nat} (h : N = 48 + 32 * n) (hn : 8 ≤ n) (hn2 : n ≤ 100) : GeomOk N 32 ∧ ((N : Int) - 48) / 32 = n := by
  subst h
  exact ⟨⟨by decide, by decide, by omega, by omega⟩, by omega⟩

/-- A head of the laws may be. -/
theorem law_num {n : Nat} {L : Lg} (h : LawOk n L) (hn : n ≤ 100) (x : Hd) (h0 : 0 ≤ x.clock) (h1 : x.clock ≤ 100000) (h2 : 0 ≤ x.sb) (h3 : x.sb ≤ 100000) (h4 : 0 ≤ x.sn) (h5 : x.sn ≤ 100000) : numB (L.head x) = true := by
  have a1 := h.seq0
  have a2 := h.seq1
  have a3 := h.next0
  have a4 := h.next1
  simp only [numB, Lg.head, Bool.and_eq_true, inB_iff, h.house, h.gen, h.life]
  omega
theorem law_made {n : Nat} {L : Lg} (h : LawOk n L) (hn : n ≤ 100) (x : Hd) (v k : Nat) (hk : k ≤ 24) (hx : x.list = bkE v k) (h0 : 0 ≤ x.clock) (h1 : x.clock ≤ 100000) (h2 : 0 ≤ x.sb) (h3 : x.sb ≤ 100000) (h4 : 0 ≤ x.sn) (h5 : x.sn ≤ 100000) : makeB (L.head x) (bkT v k) = true := by
  have e : (L.head x).list = bkE v k := hx
  have hok : okB (L.head x) = true := by
    unfold okB
    rw [e, bkE_ok hk, bkE_length, law_num h hn x h0 h1 h2 h3 h4 h5, decide_eq_true hk]
    rfl
  rw [makeB_is (bkT_all v k) hok, e, bkT_length, bkE_length]
  simp
theorem law_none {n : Nat} {L : Lg} (h : LawOk n L) (hn : n ≤ 100) : makeB (L.head Hd.z) [] = true := by
  have hok : okB (L.head Hd.z) = true := by
    unfold okB
    rw [law_num h hn Hd.z (by decide) (by decide) (by decide) (by decide) (by decide) (by decide)]
    rfl
  rw [makeB_is rfl hok]
  rfl

/-- What a step of a log leaves, seen from below. -/
theorem LStep.under {B lb b gd : Nat} {w0 w w' : World} {V V' : Nat → Value} (h : LStep lb b gd w V w' V') (hb : Below B w0 w) (hf : ∀ k, foot b gd V k → B ≤ k) (hl : B ≤ lb) (hB : B ≤ w0.heap.size) : Below B w0 w' :=
  ⟨h.keep.os.trans hb.os, h.keep.tape.trans hb.tape, h.keep.output.trans hb.output, Nat.le_trans hb.size h.keep.size, fun k hk => (h.keep.block k (by have := hb.size; omega) (fun e => by
    rcases e with e | e
    · have := hf k e; omega
    · omega)).trans (hb.block k hk)⟩
theorem LStep.foots {B lb b gd : Nat} {w w' : World} {V V' : Nat → Value} (h : LStep lb b gd w V w' V') (hf : ∀ k, foot b gd V k → B ≤ k) (hB : B ≤ w.heap.size) : ∀ k, foot b gd V' k → B ≤ k := fun k hk => by
  rcases h.foot' k hk with h1 | h1
  · exact hf k h1
  · omega


/-- What a step of the disk leaves, seen from below. -/
theorem Step.under {B b gd : Nat} {w0 w w' : World} {V V' : Nat → Value} (h : Step b gd w V w' V') (hb : Below B w0 w) (hf : ∀ k, foot b gd V k → B ≤ k) (hB : B ≤ w0.heap.size) : Below B w0 w' :=
  ⟨h.keep.os.trans hb.os, h.keep.tape.trans hb.tape, h.keep.output.trans hb.output, Nat.le_trans hb.size h.keep.size, fun k hk => (h.keep.block k (by have := hb.size; omega) (fun e => by have := hf k e; omega)).trans (hb.block k hk)⟩
theorem Step.foots {B b gd : Nat} {w w' : World} {V V' : Nat → Value} (h : Step b gd w V w' V') (hf : ∀ k, foot b gd V k → B ≤ k) (hB : B ≤ w.heap.size) : ∀ k, foot b gd V' k → B ≤ k := fun k hk => by
  rcases h.foot' k hk with h1 | h1
  · exact hf k h1
  · omega

/-- The laws' own head. -/
abbrev bkX (c s v k : Nat) : Hd := ⟨0, 0, 0, 0, 0, c, s, 0, bkE v k⟩
/-- An Append of the laws. -/
theorem law_append {n lb b gd : Nat} {S : St} {V : Nat → Value} {L : Lg} {vv : Value} {w : World} (H : LogAt w lb b gd S V 32 L vv) (hok : LawOk n L) (hS : S.n = 48 + 32 * n) (hn : 8 ≤ n) (hn2 : n ≤ 100) (c s v k : Nat) (hc1 : c ≤ 100000) (hs1 : s ≤ 100000) (hk : k ≤ 24) (ad bad : Option Addr) (cap bcap : Nat) (hE : Ents w (.slice ad k cap) (bkE v k)) (hT : Txts w (.slice bad k bcap) (bkT v k))
    (hc : L.canB 32 k = true) (hw : S.writes + 1 + k ≤ 1000000) (htk : took S k = true) :
    Calls Try.prog 13 #[.pointer (some ⟨lb, 0, none⟩), headV (bkX c s v k) (.slice ad k cap), .slice bad k bcap] w fun e w' => ∃ a V' v', e = .returned (.tuple #[.slice (some ⟨a, 0, none⟩) k k, .bool true]) ∧ w'.heap[a]? = some (.cells (icells (posL ((L.move 32 k).sec 32) k)).toArray 3 (0, 0)) ∧ w.heap.size ≤ a ∧ ¬ foot b gd V' a ∧
      LogAt w' lb b gd (chunk S 3 ((L.move 32 k).sec 32) (makeS ((L.move 32 k).head (bkX c s v k)) (bkT v k)) k) V' 32 ((L.move 32 k).after k (bkX c s v k)) v' ∧ LStep lb b gd w V w' V' := by
  obtain ⟨g1, g2⟩ := law_geo hS hn hn2
  have hm := law_made (hok.move hc) hn2 (bkX c s v k) v k hk rfl (by show (0 : Int) ≤ c; omega) (by show (c : Int) ≤ 100000; omega) (by show (0 : Int) ≤ s; omega) (by show (s : Int) ≤ 100000; omega) (by show (0 : Int) ≤ 0; omega) (by show (0 : Int) ≤ 100000; omega)
  have e1 : (bkX c s v k).list.length = k := bkE_length v k
  have e2 : (bkT v k).length = k := bkT_length v k
  have h := append_done lb b gd S V 32 n L vv (bkX c s v k) ad cap (.slice bad k bcap) (bkT v k) w H hok.ok g1 g2 (by rw [e1]; exact hE) hT (by rw [e2]; omega) (by rw [e2]; exact hc) (by rw [e2]; exact hm) (by rw [e2]; exact hw) (by rw [e2]; exact htk)
  rw [e1, e2, hok.house] at h
  exact h
/-- An Append of the laws that the power doesn't bear. -/
theorem law_lost {n lb b gd : Nat} {S : St} {V : Nat → Value} {L : Lg} {vv : Value} {w : World} (H : LogAt w lb b gd S V 32 L vv) (hok : LawOk n L) (hS : S.n = 48 + 32 * n) (hn : 8 ≤ n) (hn2 : n ≤ 100) (c s v k : Nat) (hc1 : c ≤ 100000) (hs1 : s ≤ 100000) (hk : k ≤ 24) (ad bad : Option Addr) (cap bcap : Nat) (hE : Ents w (.slice ad k cap) (bkE v k)) (hT : Txts w (.slice bad k bcap) (bkT v k))
    (hc : L.canB 32 k = true) (hw : S.writes + 1 + k ≤ 1000000) (htk : took S k = false) :
    Calls Try.prog 13 #[.pointer (some ⟨lb, 0, none⟩), headV (bkX c s v k) (.slice ad k cap), .slice bad k bcap] w fun e w' => e = .returned (.tuple #[.slice none 0 0, .bool false]) ∧ ∃ V',
      LogAt w' lb b gd (chunk S 3 ((L.move 32 k).sec 32) (makeS ((L.move 32 k).head (bkX c s v k)) (bkT v k)) k) V' 32 L vv ∧ LStep lb b gd w V w' V' := by
  obtain ⟨g1, g2⟩ := law_geo hS hn hn2
  have hm := law_made (hok.move hc) hn2 (bkX c s v k) v k hk rfl (by show (0 : Int) ≤ c; omega) (by show (c : Int) ≤ 100000; omega) (by show (0 : Int) ≤ s; omega) (by show (s : Int) ≤ 100000; omega) (by show (0 : Int) ≤ 0; omega) (by show (0 : Int) ≤ 100000; omega)
  have e1 : (bkX c s v k).list.length = k := bkE_length v k
  have e2 : (bkT v k).length = k := bkT_length v k
  have h := append_lost lb b gd S V 32 n L vv (bkX c s v k) ad cap (.slice bad k bcap) (bkT v k) w H hok.ok g1 g2 (by rw [e1]; exact hE) hT (by rw [e2]; omega) (by rw [e2]; exact hc) (by rw [e2]; exact hm) (by rw [e2]; exact hw) (by rw [e2]; exact htk)
  rw [e1, e2, hok.house] at h
  exact h
/-- An Append of the laws where there is no room. -/
theorem law_full {lb b gd : Nat} {S : St} {V : Nat → Value} {L : Lg} {vv : Value} {w : World} (H : LogAt w lb b gd S V 32 L vv) (c s v k : Nat) (hk : k ≤ 24) (ad bad : Option Addr) (cap bcap : Nat) (hT : Txts w (.slice bad k bcap) (bkT v k)) (hc : L.canB 32 k = false) :
    Calls Try.prog 13 #[.pointer (some ⟨lb, 0, none⟩), headV (bkX c s v k) (.slice ad k cap), .slice bad k bcap] w fun e w' => e = .returned (.tuple #[.slice none 0 0, .bool false]) ∧ Below w.heap.size w w' := by
  have e2 : (bkT v k).length = k := bkT_length v k
  exact append_full lb b S.n 32 L vv _ _ (bkX c s v k) (.slice ad k cap) (.slice bad k bcap) (bkT v k) w H.row H.free (by omega) (by omega) hT (by rw [e2]; omega) (by rw [e2]; exact hc)
theorem law_fits {n lb b gd : Nat} {S : St} {V : Nat → Value} {L : Lg} {vv : Value} {w : World} (H : LogAt w lb b gd S V 32 L vv) (hok : LawOk n L) (hS : S.n = 48 + 32 * n) (hn : 8 ≤ n) (hn2 : n ≤ 100) (k : Nat) (hk : k ≤ 24) (hd : S.down = false) :
    Calls Try.prog 12 #[.pointer (some ⟨lb, 0, none⟩), .int .i64 k] w fun e w' => e = .returned (.bool (L.canB 32 k)) ∧ Below w.heap.size w w' := by
  obtain ⟨g1, g2⟩ := law_geo hS hn hn2
  cases hc : L.canB 32 k
  · exact fits_full lb b gd S V 32 L vv k w H (by omega) (by omega) hk hd hc
  · exact fits_yes lb b gd S V 32 n L vv k w H hok.ok g1 g2 hk hd hc (law_none (hok.move hc) hn2)
end Go.Proofs.Ytgbgklnlmgpmjaa
