/- A log in memory: its head, its disk, its free ones; what a call of it may touch. spot for a log. -/
import Derived.Test.YtaiebhkjkeadoaaLogSpot
import Derived.Test.YtaiebhkjkeadoaaLogWrite
import Derived.Test.YtaiebhkjkeadoaaLogStamp
namespace Go.Proofs.Ytaiebhkjkeadoaa
open Go.RowKit Lo Hdp

theorem FreeAt.on {w w' : World} {P : Nat → Prop} {v : Value} {l : List Int} (h : FreeAt w P v l) (hb : Below w.heap.size w w') : FreeAt w' P v l := by
  obtain ⟨ad, cap, hv, h1, h2, hc⟩ := h
  refine ⟨ad, cap, hv, h1, h2, fun h0 => ?_⟩
  obtain ⟨b, off, cur, ha, hp, hg, hr⟩ := hc h0
  exact ⟨b, off, cur, ha, hp, row_on hg hb, hr⟩
/-- What is free stays where another thing is touched. -/
theorem FreeAt.keep {w w' : World} {P F Q : Nat → Prop} {v : Value} {l : List Int} (h : FreeAt w P v l) (k : Keep F w w') (hF : ∀ b, P b → ¬ F b) (hQ : ∀ b, b < w.heap.size → P b → Q b) : FreeAt w' Q v l := by
  obtain ⟨ad, cap, hv, h1, h2, hc⟩ := h
  refine ⟨ad, cap, hv, h1, h2, fun h0 => ?_⟩
  obtain ⟨b, off, cur, ha, hp, hg, hr⟩ := hc h0
  have hlt := (Array.getElem?_eq_some_iff.1 hg).1
  exact ⟨b, off, cur, ha, hQ b hlt hp, (k.block b hlt (hF b hp)).trans hg, hr⟩
theorem FreeAt.slice {w : World} {P : Nat → Prop} {v : Value} {l : List Int} (h : FreeAt w P v l) : ∃ ad cap, v = .slice ad l.length cap := by
  obtain ⟨ad, cap, hv, _⟩ := h
  exact ⟨ad, cap, hv⟩
theorem FreeAt.ints {w : World} {P : Nat → Prop} {v : Value} {l : List Int} (h : FreeAt w P v l) : ∃ ad cap, v = .slice ad l.length cap ∧ l.length ≤ cap ∧ (0 < l.length → ∃ b off, ad = some ⟨b, off, none⟩ ∧ b < w.heap.size ∧ ∀ i (h : i < l.length), w.cell? ⟨b, off + i, none⟩ = some (.int .i64 l[i])) := by
  obtain ⟨ad, cap, hv, h1, h2, hc⟩ := h
  refine ⟨ad, cap, hv, h1, fun h0 => ?_⟩
  obtain ⟨b, off, cur, ha, hp, hg, hs, hr⟩ := hc (by omega)
  exact ⟨b, off, ha, (Array.getElem?_eq_some_iff.1 hg).1, fun i h => by rw [cell_of_row w b _ cur 3 _ hg]; exact hr i h⟩

/-- Can a chunk of n blocks be had? -/
def Lg.canB (L : Lg) (G : Int) (n : Nat) : Bool := decide (L.pos ≤ G - 1 - n) || !L.free.isEmpty
/-- Where it is had. -/
def Lg.move (L : Lg) (G : Int) (n : Nat) : Lg := if L.pos ≤ G - 1 - n then L else { L with seg := L.next, pos := 0, next := L.free.headD 0, free := L.free.tail }
/-- Behind it. -/
def Lg.after (L : Lg) (n : Nat) (x : Hd) : Lg := { L with pos := L.pos + (1 + n), seq := L.seq + 1, clock := x.clock, sb := x.sb, sn := x.sn }

/-- A log's numbers that may be: sg segments of G blocks. -/
structure Lg.Ok (L : Lg) (G sg : Int) : Prop where
  pos0 : 0 ≤ L.pos
  pos1 : L.pos ≤ G
  seg0 : 0 ≤ L.seg
  seg1 : L.seg < sg
  next0 : 0 ≤ L.next
  next1 : L.next < sg
  seq0 : -1000000 ≤ L.seq
  seq1 : L.seq ≤ 1125899906842624
  few : L.free.length ≤ 100000

theorem spot_yes {w : World} {lb b : Nat} {S G sg : Int} {L : Lg} {v : Value} {P : Nat → Prop} {t : TypeId} (n : Nat) (h : w.heap[lb]? = some (.cells (lgC b S G L v) t (0, 0))) (hf : FreeAt w P v L.free) (hok : L.Ok G sg) (hG0 : 32 ≤ G) (hG1 : G ≤ 64) (hS : SegsSaid S G sg) (hn : n ≤ 1000000) (hc : L.canB G n = true) :
    Calls Try.prog 30 #[.pointer (some ⟨lb, 0, none⟩), .int .i64 n] w fun e w' => ∃ v', e = .returned (.tuple #[plV (L.move G n), v', .bool true]) ∧ FreeAt w' P v' (L.move G n).free ∧ Below w.heap.size w w' := by
  obtain ⟨ad, cap, rfl, h1, h2, hcc⟩ := hf
  by_cases hp : L.pos ≤ G - 1 - n
  · have e : L.move G n = L := if_pos hp
    rw [e]
    refine (spot_stay lb b S G n sg L ad L.free.length cap t w h (by omega) (by omega) hG0 hG1 hS hok.pos0 hok.seg0 hok.seg1 hp).mono ?_
    rintro e w' ⟨rfl, hb⟩
    exact ⟨_, rfl, FreeAt.on ⟨ad, cap, rfl, h1, h2, hcc⟩ hb, hb⟩
  · have e : L.move G n = { L with seg := L.next, pos := 0, next := L.free.headD 0, free := L.free.tail } := if_neg hp
    rw [e]
    have hne : L.free ≠ [] := by
      intro e0
      simp [Lg.canB, e0, hp] at hc
    have hok2 := hok.few
    obtain ⟨house, gen, num, life, clock, seg, pos, next, seq, m0, m1, m2, m3, sb, sn, free⟩ := L
    cases free with
    | nil => exact absurd rfl hne
    | cons f fr =>
      dsimp only [List.length_cons] at h1 hcc hp hok2
      obtain ⟨fb, off, cur, rfl, hP, hg, hs, hr⟩ := hcc (by omega)
      have h0 := hr 0 (by simp)
      refine (spot_move lb b S G n sg ⟨house, gen, num, life, clock, seg, pos, next, seq, m0, m1, m2, m3, sb, sn, f :: fr⟩ f fb off fr.length cap t w h (by omega) (by omega) hG0 hG1 hS hok.next0 hok.next1 (by dsimp only; omega) (by rw [cell_of_row w fb _ cur 3 _ hg]; exact h0) (by omega) (by omega)).mono ?_
      rintro e w' ⟨ad, rfl, had, hb⟩
      refine ⟨_, rfl, ⟨ad, cap - 1, rfl, by dsimp only [List.tail_cons]; omega, by omega, fun hc1 => ?_⟩, hb⟩
      rcases had with hc2 | rfl
      · omega
      · refine ⟨fb, off + 1, cur, rfl, hP, row_on hg hb, by omega, fun i hi => ?_⟩
        have := hr (i + 1) (by simpa using hi)
        rw [show off + 1 + i = off + (i + 1) by omega, this]
        rfl

theorem spot_no {w : World} {lb b : Nat} {S G : Int} {L : Lg} {v : Value} {P : Nat → Prop} {t : TypeId} (n : Nat) (h : w.heap[lb]? = some (.cells (lgC b S G L v) t (0, 0))) (hf : FreeAt w P v L.free) (hG0 : 32 ≤ G) (hG1 : G ≤ 64) (hn : n ≤ 1000000) (hc : L.canB G n = false) :
    Calls Try.prog 30 #[.pointer (some ⟨lb, 0, none⟩), .int .i64 n] w fun e w' => ∃ L0, e = .returned (.tuple #[plV L0, .slice none 0 0, .bool false]) ∧ Below w.heap.size w w' := by
  obtain ⟨ad, cap, rfl, h1, h2, hcc⟩ := hf
  simp only [Lg.canB, Bool.or_eq_false_iff, decide_eq_false_iff_not, Bool.not_eq_false', List.isEmpty_iff] at hc
  obtain ⟨hp, hl⟩ := hc
  rw [hl] at h
  refine (spot_none lb b S G n L ad cap t w h (by omega) (by omega) hG0 hG1 (by omega)).mono ?_
  rintro e w' ⟨rfl, hb⟩
  exact ⟨⟨0, 0, 0, 0, 0, 0, 0, 0, 0, 0, 0, 0, 0, 0, 0, []⟩, rfl, hb⟩

/-- A log that is L lies in block lb, its disk in block b. -/
structure LogAt (w : World) (lb b gd : Nat) (S : St) (V : Nat → Value) (G : Int) (L : Lg) (v : Value) : Prop where
  row : w.heap[lb]? = some (.cells (lgC b S.n G L v) 78 (0, 0))
  disk : Disk w b S gd V
  free : FreeAt w (fun k => ¬ foot b gd V k ∧ b < k ∧ k < lb) v L.free
  off : ¬ foot b gd V lb

/-- A step of a log: its disk's blocks and its own head. -/
structure LStep (lb b gd : Nat) (w : World) (V : Nat → Value) (w' : World) (V' : Nat → Value) : Prop where
  keep : Keep (fun k => foot b gd V k ∨ k = lb) w w'
  foot' : ∀ k, foot b gd V' k → foot b gd V k ∨ w.heap.size ≤ k

theorem LStep.below {lb b gd : Nat} {w w' : World} {V : Nat → Value} (h : Below w.heap.size w w') : LStep lb b gd w V w' V := ⟨keep_of_below h _, fun _ h => .inl h⟩
theorem LStep.step {lb b gd : Nat} {w w' : World} {V V' : Nat → Value} (h : Step b gd w V w' V') : LStep lb b gd w V w' V' := ⟨h.keep.mono fun _ _ h => .inl h, h.foot'⟩
theorem LStep.trans {lb b gd : Nat} {w w1 w2 : World} {V V1 V2 : Nat → Value} (h : LStep lb b gd w V w1 V1) (k : LStep lb b gd w1 V1 w2 V2) : LStep lb b gd w V w2 V2 :=
  ⟨h.keep.trans' k.keep (fun i hi hf => by
      rcases hf with hf | hf
      · rcases h.foot' i hf with h1 | h1
        · exact .inl h1
        · omega
      · exact .inr hf),
   fun i hi => by
      rcases k.foot' i hi with h1 | h1
      · exact h.foot' i h1
      · right; have := h.keep.size; omega⟩
theorem LStep.row {lb b gd : Nat} {w w' : World} {V V' : Nat → Value} (h : LStep lb b gd w V w' V') {k : Nat} {o : Obj} (hk : w.heap[k]? = some o) (hf : ¬ foot b gd V k) (hl : k ≠ lb) : w'.heap[k]? = some o :=
  (h.keep.block k (Array.getElem?_eq_some_iff.1 hk).1 (fun hh => hh.elim hf hl)).trans hk
theorem LStep.off {lb b gd : Nat} {w w' : World} {V V' : Nat → Value} (h : LStep lb b gd w V w' V') {k : Nat} (hk : k < w.heap.size) (hf : ¬ foot b gd V k) : ¬ foot b gd V' k := fun hf' => by
  rcases h.foot' k hf' with h1 | h1
  · exact hf h1
  · omega
theorem LogAt.on {w w' : World} {lb b gd : Nat} {S : St} {V : Nat → Value} {G : Int} {L : Lg} {v : Value} (h : LogAt w lb b gd S V G L v) (k : Below w.heap.size w w') : LogAt w' lb b gd S V G L v :=
  ⟨row_on h.row k, h.disk.below k, h.free.on k, h.off⟩
theorem LogAt.lt {w : World} {lb b gd : Nat} {S : St} {V : Nat → Value} {G : Int} {L : Lg} {v : Value} (h : LogAt w lb b gd S V G L v) : lb < w.heap.size := (Array.getElem?_eq_some_iff.1 h.row).1
/-- A step of the disk alone. -/
theorem LogAt.step {w w' : World} {lb b gd : Nat} {S S' : St} {V V' : Nat → Value} {G : Int} {L : Lg} {v : Value} (h : LogAt w lb b gd S V G L v) (hD : Disk w' b S' gd V') (k : Step b gd w V w' V') (hn : S'.n = S.n) : LogAt w' lb b gd S' V' G L v :=
  ⟨by rw [hn]; exact k.row h.row h.off, hD, h.free.keep k.keep (fun _ hb hf => hb.1 hf) (fun _ hl hb => ⟨k.off hl hb.1, hb.2⟩), k.off h.lt h.off⟩
end Go.Proofs.Ytaiebhkjkeadoaa
