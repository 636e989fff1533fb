/- What is got of bytes: the head, or none. -/
import Derived.Test.YtpfcfldkhecijaaHeadHave
namespace Go.Proofs.Ytpfcfldkhecijaa
open Go.RowKit Rec Hdp

/-- What is got of bytes: the head, or none. -/
def gotX (s : ByteArray) : Hd := if getB s = true then getX s.data.toList else Hd.z
def gotS (s : ByteArray) : Int := if getB s = true then getS s.data.toList else 0
theorem gotX_yes {s : ByteArray} (h : getB s = true) : gotX s = getX s.data.toList := if_pos h
theorem gotS_yes {s : ByteArray} (h : getB s = true) : gotS s = getS s.data.toList := if_pos h
theorem gotX_no {s : ByteArray} (h : getB s = false) : gotX s = Hd.z := if_neg (by rw [h]; decide)
theorem gotS_no {s : ByteArray} (h : getB s = false) : gotS s = 0 := if_neg (by rw [h]; decide)
theorem gotX_len (s : ByteArray) : (gotX s).list.length ≤ 24 := by
  cases h : getB s
  · rw [gotX_no h]
    exact Nat.zero_le _
  · rw [gotX_yes h]
    exact getX_len _

theorem hgetall_t (s : ByteArray) (w : World) (hl : s.size ≤ 100000) :
    Calls Try.prog 21 #[.string s] w fun e w' => ∃ ad cap, e = .returned (.tuple #[headV (gotX s) (.slice ad (gotX s).list.length cap), .int .i64 (gotS s), .bool (getB s)]) ∧ Ents w' (.slice ad (gotX s).list.length cap) (gotX s).list ∧ Below w.heap.size w w' := by
  by_cases h : s.size < 256
  · have hb : getB s = false := by
      unfold getB
      rw [decide_eq_false (by omega)]
      rfl
    refine (hget_short s w h).mono ?_
    rintro e w1 ⟨rfl, hq⟩
    rw [gotX_no hb, gotS_no hb, hb]
    exact ⟨none, 0, rfl, Ents.nil _, hq⟩
  · refine (hget_full s w (by omega) hl).mono ?_
    rintro e w1 ⟨⟨hb, b, rfl, hE⟩ | ⟨hb, rfl⟩, hq⟩
    · rw [gotX_yes hb, gotS_yes hb, hb]
      exact ⟨_, _, rfl, hE, hq⟩
    · rw [gotX_no hb, gotS_no hb, hb]
      exact ⟨none, 0, rfl, Ents.nil _, hq⟩

end Go.Proofs.Ytpfcfldkhecijaa
