/- Which logs the laws' own are; what a step leaves, seen from below: plainly. -/
import Derived.Test.YtaiebhkjkeadoaaLogAt
import Derived.Test.YtaiebhkjkeadoaaLogSeq
namespace Go.Proofs.Ytaiebhkjkeadoaa
open Go.RowKit Lo Hdp Chk Rec

/-- A log of the laws: n segments of 32 blocks. -/
structure LawOk (n : Nat) (L : Lg) : Prop where
  house : L.house = 3
  gen : L.gen = 7
  life : L.life = 2
  num : L.num = 1
  pos0 : 0 ≤ L.pos
  pos1 : L.pos ≤ 32
  seg0 : 0 ≤ L.seg
  seg1 : L.seg < n
  next0 : 0 ≤ L.next
  next1 : L.next < n
  seq0 : 1 ≤ L.seq
  seq1 : L.seq ≤ 100000
  free : ∀ f ∈ L.free, 0 ≤ f ∧ f < n
  few : L.free.length ≤ 1000

theorem LawOk.ok {n : Nat} {L : Lg} (h : LawOk n L) : L.Ok 32 n := ⟨h.pos0, h.pos1, h.seg0, h.seg1, h.next0, h.next1, by have := h.seq0; omega, by have := h.seq1; omega, by have := h.few; omega⟩
theorem LawOk.one {n : Nat} (hn : 2 ≤ n) (hn2 : n ≤ 100) : LawOk n (lg1 n) :=
  ⟨rfl, rfl, rfl, rfl, by show (0 : Int) ≤ 0; omega, by show (0 : Int) ≤ 32; omega, by show (0 : Int) ≤ 0; omega, by show (0 : Int) < n; omega, by show (0 : Int) ≤ 1; omega, by show (1 : Int) < n; omega, by show (1 : Int) ≤ 5; omega, by show (5 : Int) ≤ 100000; omega, fun f hf => by have := seqL_mem (show f ∈ seqL 2 (n - 2) from hf); omega, by show (seqL 2 (n - 2)).length ≤ _; rw [seqL_length]; omega⟩
theorem LawOk.move {n : Nat} {L : Lg} (h : LawOk n L) {k : Nat} (hc : L.canB 32 k = true) : LawOk n (L.move 32 k) := by
  by_cases hp : L.pos ≤ 32 - 1 - k
  · rw [show L.move 32 k = L from if_pos hp]
    exact h
  · rw [show L.move 32 k = { L with seg := L.next, pos := 0, next := L.free.headD 0, free := L.free.tail } from if_neg hp]
    have hne : L.free ≠ [] := by
      intro e0
      simp [Lg.canB, e0] at hc
      omega
    obtain ⟨f, fr, hf⟩ : ∃ f fr, L.free = f :: fr := by
      cases hl : L.free with
      | nil => exact absurd hl hne
      | cons f fr => exact ⟨f, fr, rfl⟩
    have h1 := h.free f (by rw [hf]; simp)
    have h2 := h.few
    rw [hf] at h2
    refine ⟨h.house, h.gen, h.life, h.num, Int.le_refl 0, by show (0 : Int) ≤ 32; omega, h.next0, h.next1, ?_, ?_, h.seq0, h.seq1, fun x hx => ?_, ?_⟩
    · show 0 ≤ L.free.headD 0
      rw [hf]; exact h1.1
    · show L.free.headD 0 < n
      rw [hf]; exact h1.2
    · have hx2 : x ∈ L.free.tail := hx
      rw [hf] at hx2
      exact h.free x (by rw [hf]; exact List.mem_cons_of_mem _ hx2)
    · show L.free.tail.length ≤ _
      rw [hf]
      simp at h2 ⊢
      omega
theorem LawOk.after {n : Nat} {L : Lg} (h : LawOk n L) {k : Nat} (x : Hd) (hp : L.pos + 1 + k ≤ 32) (hs : L.seq < 100000) : LawOk n (L.after k x) :=
  ⟨h.house, h.gen, h.life, h.num, by show 0 ≤ L.pos + (1 + (k : Int)); have := h.pos0; omega, by show L.pos + (1 + (k : Int)) ≤ 32; omega, h.seg0, h.seg1, h.next0, h.next1, by show 1 ≤ L.seq + 1; have := h.seq0; omega, by show L.seq + 1 ≤ 100000; omega, h.free, h.few⟩

theorem law_geo {N n : Nat} (h : N = 48 + 32 * n) (hn : 8 ≤ n) (hn2 : n ≤ 100) : GeomOk N 32 ∧ ((N : Int) - 48) / 32 = n := by
  subst h
  exact ⟨⟨by decide, by decide, by omega, by omega⟩, by omega⟩

/-- A head of the laws may be. -/
theorem law_num {n : Nat} {L : Lg} (h : LawOk n L) (hn : n ≤ 100) (x : Hd) (h0 : 0 ≤ x.clock) (h1 : x.clock ≤ 100000) (h2 : 0 ≤ x.sb) (h3 : x.sb ≤ 100000) (h4 : 0 ≤ x.sn) (h5 : x.sn ≤ 100000) : numB (L.head x) = true := by
  have a1 := h.seq0
  have a2 := h.seq1
  have a3 := h.next0
  have a4 := h.next1
  simp only [numB, Lg.head, Bool.and_eq_true, inB_iff, h.house, h.gen, h.life]
  omega
theorem law_none {n : Nat} {L : Lg} (h : LawOk n L) (hn : n ≤ 100) : makeB (L.head Hd.z) [] = true := by
  have hok : okB (L.head Hd.z) = true := by
    unfold okB
    rw [law_num h hn Hd.z (by decide) (by decide) (by decide) (by decide) (by decide) (by decide)]
    rfl
  rw [makeB_is rfl hok]
  rfl

/-- What a step of a log leaves, seen from below. -/
theorem LStep.under {B lb b gd : Nat} {w0 w w' : World} {V V' : Nat → Value} (h : LStep lb b gd w V w' V') (hb : Below B w0 w) (hf : ∀ k, foot b gd V k → B ≤ k) (hl : B ≤ lb) (hB : B ≤ w0.heap.size) : Below B w0 w' :=
  ⟨h.keep.os.trans hb.os, h.keep.tape.trans hb.tape, h.keep.output.trans hb.output, Nat.le_trans hb.size h.keep.size, fun k hk => (h.keep.block k (by have := hb.size; omega) (fun e => by
    rcases e with e | e
    · have := hf k e; omega
    · omega)).trans (hb.block k hk)⟩
theorem LStep.foots {B lb b gd : Nat} {w w' : World} {V V' : Nat → Value} (h : LStep lb b gd w V w' V') (hf : ∀ k, foot b gd V k → B ≤ k) (hB : B ≤ w.heap.size) : ∀ k, foot b gd V' k → B ≤ k := fun k hk => by
  rcases h.foot' k hk with h1 | h1
  · exact hf k h1
  · omega


/-- What a step of the disk leaves, seen from below. -/
theorem Step.under {B b gd : Nat} {w0 w w' : World} {V V' : Nat → Value} (h : Step b gd w V w' V') (hb : Below B w0 w) (hf : ∀ k, foot b gd V k → B ≤ k) (hB : B ≤ w0.heap.size) : Below B w0 w' :=
  ⟨h.keep.os.trans hb.os, h.keep.tape.trans hb.tape, h.keep.output.trans hb.output, Nat.le_trans hb.size h.keep.size, fun k hk => (h.keep.block k (by have := hb.size; omega) (fun e => by have := hf k e; omega)).trans (hb.block k hk)⟩
theorem Step.foots {B b gd : Nat} {w w' : World} {V V' : Nat → Value} (h : Step b gd w V w' V') (hf : ∀ k, foot b gd V k → B ≤ k) (hB : B ≤ w.heap.size) : ∀ k, foot b gd V' k → B ≤ k := fun k hk => by
  rcases h.foot' k hk with h1 | h1
  · exact hf k h1
  · omega
end Go.Proofs.Ytaiebhkjkeadoaa
