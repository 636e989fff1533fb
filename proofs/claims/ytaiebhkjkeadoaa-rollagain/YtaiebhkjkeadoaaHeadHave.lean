/- What was put is got. -/
import Derived.Test.YtaiebhkjkeadoaaHeadGetAll
import Derived.Test.YtaiebhkjkeadoaaPlace
namespace Go.Proofs.Ytaiebhkjkeadoaa
open Go.RowKit Rec Hdp

/-- What was put is got, whatever stands behind. -/
theorem hrget_t (x : Hd) (b more : ByteArray) (w : World) (hp : putB x b.size = true) (hm : more.size ≤ 50000) :
    Calls Try.prog 69 #[.string (putS x b ++ more)] w fun e w' => ∃ g, e = .returned (.tuple #[headV x (.slice (some ⟨g, 0, none⟩) x.list.length x.list.length), .int .i64 (sumL (front x) b.data.toList : Nat), .bool true]) ∧ Ents w' (.slice (some ⟨g, 0, none⟩) x.list.length x.list.length) x.list ∧ Below w.heap.size w w' := by
  obtain ⟨k1, k2, k3⟩ := get_put hp more
  have hsz : (putS x b ++ more).size = 256 + more.size := by rw [ByteArray.size_append, putS_size hp]
  refine (hget_full (putS x b ++ more) w (by omega) (by omega)).mono ?_
  rintro e w' ⟨h | h, hb⟩
  · obtain ⟨_, g, he, hE, _⟩ := h
    rw [k2, k3] at he
    rw [k2] at hE
    exact ⟨g, he, hE, hb⟩
  · rw [k1] at h
    exact absurd h.1 (by decide)

/-- The sum that was put is that of the block and the body. -/
theorem hrsum_t (x : Hd) (b : ByteArray) (w : World) (hp : putB x b.size = true) (hb : b.size ≤ 1125899906842624) :
    Calls Try.prog 50 #[.string (putS x b), .string b] w fun e w' => e = .returned (.int .i64 (sumL (front x) b.data.toList : Nat)) ∧ w = w' := by
  have := hsum_t (putS x b) b w (by rw [putS_size hp]; decide) hb
  rw [sumL_put hp] at this
  exact this

end Go.Proofs.Ytaiebhkjkeadoaa
