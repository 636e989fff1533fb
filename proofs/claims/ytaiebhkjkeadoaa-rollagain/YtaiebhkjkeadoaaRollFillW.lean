/- The laws' own disk walked: slot0, segs8, fill. -/
import Derived.Test.YtaiebhkjkeadoaaRollFill
import Derived.Test.YtaiebhkjkeadoaaLogNew
import Derived.Test.YtaiebhkjkeadoaaLogAppNo
import Derived.Test.YtaiebhkjkeadoaaChunkEnt
import Derived.Test.YtaiebhkjkeadoaaPlace
import Derived.Maps.AppendAt
namespace Go.Proofs.Ytaiebhkjkeadoaa
open Go.RowKit Lo Hdp Chk Rec Rol

theorem rfhid {P : Prop} (h : P) : Hid P := h

set_option maxHeartbeats 1000000 in
theorem slot0_t (life : Int) (w : World) :
    Calls Try.prog 10 #[.int .i64 life] w fun e w' => e = .returned (plV ⟨3, 7, 1, life, 0, 0, 0, 1, 5, 0, 0, 0, 0, 0, 0, []⟩) ∧ Below w.heap.size w w' := by
  go_enter Try.func10, Try.ntmps10
  go_wp2_with fail
  refine bodyPost_ret (v := plV ⟨3, 7, 1, life, 0, 0, 0, 1, 5, 0, 0, 0, 0, 0, 0, []⟩) (results_cell_row Try.results10 _ _ w.heap.size 29 #[.int .i64 1, .int .i64 life, .int .i64 0, .int .i64 0, .int .i64 0, .int .i64 1, .int .i64 5, .int .i64 0, .int .i64 0, .int .i64 0, .int .i64 0, .int .i64 0, .int .i64 0] (0, 0) _ rfl (heap_alloc_new _ _) Try.underlying29 rfl Try.slotSize) rfl ⟨rfl, (Below.refl _ w).alloc (Nat.le_refl _) _⟩

set_option maxHeartbeats 1000000 in
theorem segs8_t (w : World) :
    Calls Try.prog 11 #[] w fun e w' => ∃ ad, e = .returned (.slice (some ad) 8 8) ∧ Ints w' (.slice (some ad) 8 8) (seqL 0 8) ∧ Below w.heap.size w w' := by
  go_enter Try.func11, Try.ntmps11
  go_wp2_with fail
  go_ret
  exact ⟨_, rfl, Ints.block (l := seqL 0 8) (heap_alloc_new w _) rfl (by decide), (Below.refl _ w).alloc (Nat.le_refl _) _⟩

/-- An Append of the laws. -/
theorem kx_append {lb b gd : Nat} {S : St} {V : Nat → Value} {L : Lg} {vv : Value} {w : World} (H : LogAt w lb b gd S V 32 L vv) (hok : LawOk 8 L) (hS : S.n = 304) (i k : Nat) (hi : i ≤ 1000) (hk : k ≤ 24) (ad bad : Option Addr) (cap bcap : Nat) (hE : Ents w (.slice ad k cap) (ek k)) (hT : Txts w (.slice bad k bcap) (ft i k))
    (hc : L.canB 32 k = true) (hw : S.writes ≤ 100000) (htk : took S k = true) :
    Calls Try.prog 21 #[.pointer (some ⟨lb, 0, none⟩), headV (kx i k) (.slice ad k cap), .slice bad k bcap] w fun e w' => ∃ a V' v', e = .returned (.tuple #[.slice (some ⟨a, 0, none⟩) k k, .bool true]) ∧
      LogAt w' lb b gd (chunk S 3 ((L.move 32 k).sec 32) (makeS ((L.move 32 k).head (kx i k)) (ft i k)) k) V' 32 ((L.move 32 k).after k (kx i k)) v' ∧ LStep lb b gd w V w' V' := by
  obtain ⟨g1, g2⟩ := law_geo (n := 8) hS (by decide) (by decide)
  have hm := kx_made (hok.move hc) (by decide) i k hk (by omega)
  have e1 : (kx i k).list.length = k := ek_length k
  have e2 : (ft i k).length = k := ft_length i k
  have h := append_done lb b gd S V 32 8 L vv (kx i k) ad cap (.slice bad k bcap) (ft i k) w H hok.ok g1 g2 (by rw [e1]; exact hE) hT (by rw [e2]; omega) (by rw [e2]; exact hc) (by rw [e2]; exact hm) (by rw [e2]; omega) (by rw [e2]; exact htk)
  rw [e1, e2, hok.house] at h
  exact h.mono fun e w' ⟨a, V', v', he, _, _, _, hL, hs⟩ => ⟨a, V', v', he, hL, hs⟩
theorem kx_full {lb b gd : Nat} {S : St} {V : Nat → Value} {L : Lg} {vv : Value} {w : World} (H : LogAt w lb b gd S V 32 L vv) (i k : Nat) (hk : k ≤ 24) (ad bad : Option Addr) (cap bcap : Nat) (hT : Txts w (.slice bad k bcap) (ft i k)) (hc : L.canB 32 k = false) :
    Calls Try.prog 21 #[.pointer (some ⟨lb, 0, none⟩), headV (kx i k) (.slice ad k cap), .slice bad k bcap] w fun e w' => e = .returned (.tuple #[.slice none 0 0, .bool false]) ∧ Below w.heap.size w w' := by
  have e2 : (ft i k).length = k := ft_length i k
  exact append_full lb b S.n 32 L vv _ _ (kx i k) (.slice ad k cap) (.slice bad k bcap) (ft i k) w H.row H.free (by omega) (by omega) hT (by rw [e2]; omega) (by rw [e2]; exact hc)

/-- Behind j rounds: entries, blocks. -/
def KtAt (i j : Nat) (lv bv : Value) (B : Nat) (w wr : World) : Prop := EOwn wr B lv (ek j) ∧ TOwn wr B bv (ft i j) ∧ Below w.heap.size w wr
/-- How many blocks each. -/
def lens (cs : List Fnd) : List Int := cs.map fun f => (f.bl.length : Int)

/-- Between two rounds. -/
structure FlAt (b gd lb N : Nat) (w wr : World) (V0 : Nat → Value) (S : St) (V : Nat → Value) (L : Lg) (vv mv : Value) (cs : List Fnd) : Prop where
  fil : Fil S cs L
  at_ : LogAt wr lb b gd S V 32 L vv
  mo : IOwn wr N mv (lens cs)
  off : ∀ q, mv.ownBlock = some q → ¬ foot b gd V q
  hN : lb < N
  size : N ≤ wr.heap.size
  step : Step b gd w V0 wr V
end Go.Proofs.Ytaiebhkjkeadoaa
