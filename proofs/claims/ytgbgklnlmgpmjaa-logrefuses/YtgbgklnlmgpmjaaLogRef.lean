/- LogRefuses walked: what is no chunk is not written; without power nothing is. -/
import Derived.Test.YtgbgklnlmgpmjaaLogAwake
import Derived.Test.YtgbgklnlmgpmjaaDiskCut
import Derived.Test.YtgbgklnlmgpmjaaDiskWrites
namespace Go.Proofs.Ytgbgklnlmgpmjaa
open Go.RowKit Lo Hdp Chk Rec

theorem and_low (n : Int) : ∃ m : Nat, m ≤ 1023 ∧ bits .and .i64 n 1023 = (m : Int) := by
  refine ⟨(BitVec.ofInt 64 n).toNat &&& 1023, Nat.and_le_right, ?_⟩
  have h1 : (BitVec.ofInt 64 n).toNat &&& 1023 ≤ 1023 := Nat.and_le_right
  show IntKind.i64.wrap ((BitVec.ofInt 64 n &&& BitVec.ofInt 64 1023).toNat : Int) = _
  rw [BitVec.toNat_and, show (BitVec.ofInt 64 1023).toNat = 1023 by decide]
  exact lgwrap _ (by omega) (by omega)

theorem make_okno {x : Hd} {l : List ByteArray} (h : okB x = false) : makeB x l = false := by
  unfold makeB putB
  rw [h]
  simp
theorem make_len {x : Hd} {l : List ByteArray} (h : l.length ≠ x.list.length) : makeB x l = false := by
  cases hm : makeB x l
  · rfl
  · exact absurd (makeB_parts hm).2.2.2.1 h
theorem ok_clock {x : Hd} (h : x.clock < 0) : okB x = false := by
  cases ho : okB x
  · rfl
  · have := okB_num ho
    simp only [numB, Bool.and_eq_true, inB_iff] at this
    omega
theorem ok_kind {x : Hd} {e : En} (h : e ∈ x.list) (he : e.kind = 9) : okB x = false := by
  cases ho : okB x
  · rfl
  · have := okB_all ho e h
    unfold enB partB at this
    rw [he] at this
    simp at this

theorem grown_put (w : World) (a : Addr) (v : Value) : w.grownBy (w.setCell a v) (some a.block) :=
  ⟨rfl, rfl, rfl, by simp [World.setCell], fun k _ h => heap_setCell_other _ _ _ _ (fun e => h (by rw [e]))⟩
/-- The first ones of a row. -/
theorem Ents.less {w : World} {ad : Option Addr} {v k cap : Nat} (h : Ents w (.slice ad (k + 1) cap) (bkE v (k + 1))) : Ents w (.slice ad k cap) (bkE v k) := by
  obtain ⟨ad2, cap2, hv, hn, hc⟩ := h
  injection hv with h1 h2 h3
  subst h1 h3
  refine ⟨ad, cap, by rw [bkE_length], hn, fun h0 => ?_⟩
  rw [bkE_length] at h0
  obtain ⟨b, off, ha, hb, hi⟩ := hc (by rw [bkE_length]; omega)
  refine ⟨b, off, ha, hb, fun i h => ?_⟩
  have hik : i < k := by rw [bkE_length] at h; exact h
  have := hi i (by rw [bkE_length]; omega)
  simpa [bkE] using this

/-- A text of a row turned. -/
theorem TOwn.put {w : World} {base : Nat} {v : Value} {l : List ByteArray} (h : TOwn w base v l) (hl : 0 < l.length) : ∃ g cap, v = .slice (some ⟨g, 0, none⟩) l.length cap ∧ base ≤ g ∧ g < w.heap.size ∧ (∀ i, w.frozen? ⟨g, i, none⟩ = false) ∧ (∀ i, i < l.length → ∃ u, w.cell? ⟨g, i, none⟩ = some u) ∧
    ∀ j s, j < l.length → Txts (w.setCell ⟨g, j, none⟩ (.string s)) v (l.set j s) := by
  have hT := h.txts
  rcases h.2 with ⟨rfl, h0⟩ | ⟨g, cap, cur, rfl, hbg, hg, hle, hmx, hcs, htk⟩
  · omega
  · obtain ⟨ad, cap2, hv, hn, hlc, hc⟩ := hT
    cases hv
    obtain ⟨b, off, hab, hb, hi⟩ := hc hl
    cases hab
    refine ⟨g, cap, rfl, hbg, hb, fun i => frozen_of_row w g i cur _ hg, fun i h => ⟨_, by have := hi i h; rw [Nat.zero_add] at this; exact this⟩, fun j s hj => ⟨some ⟨g, 0, none⟩, cap, by rw [List.length_set], hn, by rw [List.length_set]; exact hlc, fun _ => ⟨g, 0, rfl, by simpa using hb, fun i h => ?_⟩⟩⟩
    rw [List.length_set] at h
    rw [Nat.zero_add]
    by_cases e : i = j
    · subst e
      have h1 := heap_setCell_same w g i cur 9 (.string s) hg
      rw [cell_of_row _ g i _ _ _ h1, Array.getElem?_setIfInBounds_self_of_lt (by omega), List.getElem_set_self]
    · rw [World.cell?_setCell_other _ _ _ _ (by intro h3; injection h3 with h4 h5; exact e h5.symm), List.getElem_set_ne (by omega)]
      have := hi i h
      rw [Nat.zero_add] at this
      exact this
theorem EOwn.first {w : World} {base : Nat} {v : Value} {l : List En} (h : EOwn w base v l) (hl : 0 < l.length) : ∃ g cap, v = .slice (some ⟨g, 0, none⟩) l.length cap ∧ base ≤ g ∧ g < w.heap.size ∧ w.frozen? ⟨g, 0, none⟩ = false ∧ w.cell? ⟨g, 0, none⟩ = some (.int .i64 l[0].kind) := by
  have hT := h.ents
  rcases h.2 with ⟨rfl, h0⟩ | ⟨g, cap, cur, rfl, hbg, hg, hle, hmx, hcs, htk⟩
  · omega
  · obtain ⟨ad, cap2, hv, hn, hc⟩ := hT
    cases hv
    obtain ⟨b, off, hab, hb, hi⟩ := hc hl
    cases hab
    exact ⟨g, cap, rfl, hbg, hb, frozen_of_row w g 0 cur _ hg, (hi 0 hl).1⟩

/-- What an Append answers that is refused, the disk as it was. -/
def RefSaid (w : World) (lb b gd : Nat) (S : St) (V : Nat → Value) (L : Lg) (vv : Value) (e : Ending) (w' : World) : Prop :=
  e = .returned (.tuple #[.slice none 0 0, .bool false]) ∧ ∃ V', LogAt w' lb b gd S V' 32 L vv ∧ LStep lb b gd w V w' V'

theorem ref_unmade {lb b gd : Nat} {S : St} {V : Nat → Value} {L : Lg} {vv : Value} {w : World} (H : LogAt w lb b gd S V 32 L vv) (hok : LawOk 8 L) (hS : S.n = 48 + 32 * 8) (x : Hd) (ad : Option Addr) (n cap : Nat) (hn : x.list.length = n) (bv : Value) (l : List ByteArray) (hE : Ents w (.slice ad n cap) x.list) (hT : Txts w bv l) (hl : l.length ≤ 24) (hc : L.canB 32 l.length = true)
    (hm : makeB ((L.move 32 l.length).head x) l = false) :
    Calls Try.prog 13 #[.pointer (some ⟨lb, 0, none⟩), headV x (.slice ad n cap), bv] w fun e w' => RefSaid w lb b gd S V L vv e w' := by
  subst hn
  obtain ⟨g1, g2⟩ := law_geo hS (by decide) (by decide)
  have hS2 : SegsSaid S.n 32 8 := fun w1 => by
    have := segs_yes S.n 32 w1 g1
    rw [g2] at this
    exact this
  refine (append_unmade lb b S.n 32 8 L vv _ _ x ad cap bv l w H.row H.free hok.ok (by omega) (by omega) hS2 hE hT (by omega) hc hm).mono ?_
  rintro e w' ⟨rfl, hb⟩
  exact ⟨rfl, V, H.on hb, LStep.below hb⟩
theorem ref_down {lb b gd : Nat} {S : St} {V : Nat → Value} {L : Lg} {vv : Value} {w : World} (H : LogAt w lb b gd S V 32 L vv) (hok : LawOk 8 L) (hS : S.n = 48 + 32 * 8) (v k : Nat) (hk : k ≤ 24) (ad bad : Option Addr) (cap bcap : Nat) (hE : Ents w (.slice ad k cap) (bkE v k)) (hT : Txts w (.slice bad k bcap) (bkT v k))
    (hc : L.canB 32 k = true) (hw : S.writes + 1 + k ≤ 1000000) (hd : S.down = true) :
    Calls Try.prog 13 #[.pointer (some ⟨lb, 0, none⟩), headV (bkX 0 0 v k) (.slice ad k cap), .slice bad k bcap] w fun e w' => RefSaid w lb b gd S V L vv e w' := by
  refine (law_lost H hok hS (by decide) (by decide) 0 0 v k (by decide) (by decide) hk ad bad cap bcap hE hT hc hw (by simp [took, hd])).mono ?_
  rintro e w' ⟨rfl, V', h1, h2⟩
  rw [chunk_down hd] at h1
  exact ⟨rfl, V', h1, h2⟩
end Go.Proofs.Ytgbgklnlmgpmjaa
