/- What readers of heads have in common, the program's and the document's. -/
import Derived.Test.YtaiebhkjkeadoaaHeadPutAll
import Derived.Test.YtaiebhkjkeadoaaZeros
import Derived.Test.YtaiebhkjkeadoaaPlace
namespace Go.Proofs.Ytaiebhkjkeadoaa
open Go.RowKit Rec Hdp

theorem below_of_heap {B : Nat} {a w w' : World} (h : Below B a w) (hos : w'.os = w.os) (ht : w'.tape = w.tape) (ho : w'.output = w.output) (hh : w'.heap = w.heap) : Below B a w' := by
  obtain ⟨h1, h2, h3, h4, h5⟩ := h
  exact ⟨by rw [hos]; exact h1, by rw [ht]; exact h2, by rw [ho]; exact h3, by rw [hh]; exact h4, by rw [hh]; exact h5⟩

theorem Try.infoE : (Try.prog.info? 62).map (fun i => (i.zero, i.size, i.bytes)) = some (some (.agg #[.int .i64 0, .int .i64 0, .int .i64 0]), 3, 24) := by kernel_rfl

theorem Ents.turned {w : World} {b o n c : Nat} {l : List En} {p : Addr} (h : Ents w (.slice (some ⟨b, o, none⟩) n c) l) (hp : p.block ≠ b) (v : Value) : Ents (w.setCell p v) (.slice (some ⟨b, o, none⟩) n c) l := by
  obtain ⟨ad, cap, hv, hn, hc⟩ := h
  cases hv
  refine ⟨some ⟨b, o, none⟩, c, rfl, hn, fun hl => ?_⟩
  obtain ⟨b', off, ha, hb, hi⟩ := hc hl
  cases ha
  refine ⟨b, o, rfl, by simpa using hb, fun i h => ?_⟩
  obtain ⟨h0, h1, h2⟩ := hi i h
  have hne : ∀ q, p ≠ (⟨b, q, none⟩ : Addr) := fun q e => hp (by rw [e])
  exact ⟨by rw [World.cell?_setCell_other _ _ _ _ (hne _)]; exact h0, by rw [World.cell?_setCell_other _ _ _ _ (hne _)]; exact h1, by rw [World.cell?_setCell_other _ _ _ _ (hne _)]; exact h2⟩

/-- What Get answers when there is none. -/
abbrev noneV : Value := .tuple #[.agg #[.int .i64 0, .int .i64 0, .int .i64 0, .int .i64 0, .int .i64 0, .int .i64 0, .int .i64 0, .int .i64 0, .slice none 0 0], .int .i64 0, .bool false]

theorem eq_bytes (F : List UInt8) (s : ByteArray) : ((⟨F.toArray⟩ : ByteArray).toList == s.toList) = decide (F = s.data.toList) := by
  rw [ByteArray.toList_eq, ByteArray.toList_eq]
  by_cases h : F = s.data.toList
  · rw [decide_eq_true h, h]
    simp
  · rw [decide_eq_false h, beq_eq_false_iff_ne]
    simpa using h

theorem sumL_put {x : Hd} {b : ByteArray} (hp : putB x b.size = true) (c : List UInt8) : sumL (putS x b).data.toList c = sumL (front x) c := by
  have hF := front_length (okB_len (putB_ok hp))
  rw [putS_list hp, sumL, sumL, hbytes, List.take_left' hF, List.take_of_length_le (by omega)]
/-- What is got of bytes: the head, or none. -/
def gotX (s : ByteArray) : Hd := if getB s = true then getX s.data.toList else Hd.z
def gotS (s : ByteArray) : Int := if getB s = true then getS s.data.toList else 0
theorem gotX_yes {s : ByteArray} (h : getB s = true) : gotX s = getX s.data.toList := if_pos h
theorem gotS_yes {s : ByteArray} (h : getB s = true) : gotS s = getS s.data.toList := if_pos h
theorem gotX_no {s : ByteArray} (h : getB s = false) : gotX s = Hd.z := if_neg (by rw [h]; decide)
theorem gotS_no {s : ByteArray} (h : getB s = false) : gotS s = 0 := if_neg (by rw [h]; decide)
theorem gotX_len (s : ByteArray) : (gotX s).list.length ≤ 24 := by
  cases h : getB s
  · rw [gotX_no h]
    exact Nat.zero_le _
  · rw [gotX_yes h]
    exact getX_len _

end Go.Proofs.Ytaiebhkjkeadoaa
