/- What is got of bytes by the document: the head, or none. -/
import Derived.Test.YtgbgklnlmgpmjaaHeadRefGet
import Derived.Test.YtgbgklnlmgpmjaaHeadInfo
namespace Go.Proofs.Ytgbgklnlmgpmjaa
open Go.RowKit Rec Hdp

theorem rgetall_t (s : ByteArray) (w : World) (hl : s.size ≤ 100000) :
    Calls Try.prog 40 #[.string s] w fun e w' => ∃ ad cap, e = .returned (.tuple #[headV (gotX s) (.slice ad (gotX s).list.length cap), .int .i64 (gotS s), .bool (getB s)]) ∧ Ents w' (.slice ad (gotX s).list.length cap) (gotX s).list ∧ Below w.heap.size w w' := by
  by_cases h : s.size < 256
  · have hb : getB s = false := by
      unfold getB
      rw [decide_eq_false (by omega)]
      rfl
    refine (rget_short s w h).mono ?_
    rintro e w1 ⟨rfl, hq⟩
    rw [gotX_no hb, gotS_no hb, hb]
    exact ⟨none, 0, rfl, Ents.nil _, hq⟩
  · refine (rget_full s w (by omega) hl).mono ?_
    rintro e w1 ⟨⟨hb, ad, cap, rfl, hE⟩ | ⟨hb, rfl⟩, hq⟩
    · rw [gotX_yes hb, gotS_yes hb, hb]
      exact ⟨_, _, rfl, hE, hq⟩
    · rw [gotX_no hb, gotS_no hb, hb]
      exact ⟨none, 0, rfl, Ents.nil _, hq⟩

end Go.Proofs.Ytgbgklnlmgpmjaa
