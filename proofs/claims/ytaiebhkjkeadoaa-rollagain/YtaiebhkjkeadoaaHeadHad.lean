/- What is got of bytes: the head, or none; its entries lie in new memory. -/
import Derived.Test.YtaiebhkjkeadoaaHeadHave
namespace Go.Proofs.Ytaiebhkjkeadoaa
open Go.RowKit Rec Hdp

/-- A slice's row lies behind. -/
def VFar (m : Nat) (v : Value) : Prop := ∀ b off n c, v = .slice (some ⟨b, off, none⟩) n c → m ≤ b
theorem VFar.nil (m n c : Nat) : VFar m (.slice none n c) := fun b off n2 c2 h => by cases h
theorem VFar.row {m b : Nat} (h : m ≤ b) (off n c : Nat) : VFar m (.slice (some ⟨b, off, none⟩) n c) := fun b2 off2 n2 c2 e => by
  injection e with e1
  injection e1 with e2
  injection e2 with e3
  omega
theorem VFar.low {m m2 : Nat} {v : Value} (h : VFar m v) (hm : m2 ≤ m) : VFar m2 v := fun b off n c e => Nat.le_trans hm (h b off n c e)

theorem hgetall_far (s : ByteArray) (w : World) (hl : s.size ≤ 100000) :
    Calls Try.prog 69 #[.string s] w fun e w' => ∃ ad cap, e = .returned (.tuple #[headV (gotX s) (.slice ad (gotX s).list.length cap), .int .i64 (gotS s), .bool (getB s)]) ∧ Ents w' (.slice ad (gotX s).list.length cap) (gotX s).list ∧ VFar w.heap.size (.slice ad (gotX s).list.length cap) ∧ Below w.heap.size w w' := by
  by_cases h : s.size < 256
  · have hb : getB s = false := by
      unfold getB
      rw [decide_eq_false (by omega)]
      rfl
    refine (hget_short s w h).mono ?_
    rintro e w1 ⟨rfl, hq⟩
    rw [gotX_no hb, gotS_no hb, hb]
    exact ⟨none, 0, rfl, Ents.nil _, VFar.nil _ _ _, hq⟩
  · refine (hget_full s w (by omega) hl).mono ?_
    rintro e w1 ⟨⟨hb, b, rfl, hE, hbb⟩ | ⟨hb, rfl⟩, hq⟩
    · rw [gotX_yes hb, gotS_yes hb, hb]
      exact ⟨_, _, rfl, hE, VFar.row hbb _ _ _, hq⟩
    · rw [gotX_no hb, gotS_no hb, hb]
      exact ⟨none, 0, rfl, Ents.nil _, VFar.nil _ _ _, hq⟩
theorem hgetall_t (s : ByteArray) (w : World) (hl : s.size ≤ 100000) :
    Calls Try.prog 69 #[.string s] w fun e w' => ∃ ad cap, e = .returned (.tuple #[headV (gotX s) (.slice ad (gotX s).list.length cap), .int .i64 (gotS s), .bool (getB s)]) ∧ Ents w' (.slice ad (gotX s).list.length cap) (gotX s).list ∧ Below w.heap.size w w' :=
  (hgetall_far s w hl).mono fun _ _ ⟨ad, cap, h1, h2, _, h4⟩ => ⟨ad, cap, h1, h2, h4⟩

end Go.Proofs.Ytaiebhkjkeadoaa
